/-
  QuillParts: the walk. Conditions: the values are there.
-/
import Derived.Test.YtclmhgaggminpabQuL
import Derived.Test.YtclmhgaggminpabJoin
namespace Go.Proofs.Ytclmhgaggminpab
open Go.RowKit

theorem Qu.keep {w w' : World} {B q1 q2 : Nat} {r1 r2 : Option Nat} {l1 l2 : List UInt8} (h1 : Qu w B q1 r1 l1) (h2 : Qu w B q2 r2 l2) (hf : Far w w' q1 r1) (hq : q2 ≠ q1) (hr : r2 = none ∨ r2 ≠ r1) : Qu w' B q2 r2 l2 := by
  refine h2.past hf hq ?_ ?_ hr
  · obtain ⟨_, v, _, ho, rfl⟩ := h1
    obtain ⟨_, _, hb, _, _⟩ := h2
    exact own_apart ho hb (by decide)
  · obtain ⟨_, v, _, ho, rfl⟩ := h2
    obtain ⟨_, _, hb, _, _⟩ := h1
    exact own_apart ho hb (by decide)
theorem Stays.apart {w : World} {B q2 : Nat} {r1 r1' r2 : Option Nat} {l2 : List UInt8} (hs : Stays w r1 r1') (h2 : Qu w B q2 r2 l2) (hr : r2 = none ∨ r2 ≠ r1) : r2 = none ∨ r2 ≠ r1' := by
  rcases hs with rfl | ⟨g, rfl, hg⟩
  · exact hr
  · refine .inr fun e => ?_
    have := (h2.row g e).2
    omega
theorem apart_sym {r1 r2 : Option Nat} (h : r2 = none ∨ r2 ≠ r1) : r1 = none ∨ r1 ≠ r2 := by
  cases r1 with
  | none => exact .inl rfl
  | some g => exact .inr (fun e => by rcases h with h | h; · rw [h] at e; cases e
                                      · exact h e.symm)
theorem Far.to_below' {B : Nat} {a w w' : World} {q : Nat} {r : Option Nat} {l : List UInt8} (h : Far w w' q r) (ha : Below B a w) (hq : Qu w B q r l) (hB : B ≤ w.heap.size) : Below B a w' := h.to_below ha hB hq.1 (fun g hg => (hq.row g hg).1)
/-- Texts that aren't the same have other bytes. -/
theorem layT_inj {a b : List UInt8} (ha : a.length < 1000) (hb : b.length < 1000) : layT a = layT b ↔ a = b := by
  constructor
  · intro h
    unfold layT at h
    have h1 := numT_lay 0 a.length a (.inl rfl) (by omega)
    have h2 := numT_lay 0 b.length b (.inl rfl) (by omega)
    rw [h, h2] at h1
    simp only [Option.some.injEq, Prod.mk.injEq] at h1
    exact h1.2.2.symm
  · rintro rfl
    rfl
def layAll (l : List Val) : List UInt8 := l.flatMap layV
theorem layAll_snoc (l : List Val) (v : Val) : layAll (l ++ [v]) = layAll l ++ layV v := by simp [layAll]
theorem take_snocV {l : List Val} {k : Nat} {V : Val} (h : k < l.length) (e : l[k] = V) : l.take (k + 1) = l.take k ++ [V] := by rw [List.take_succ_eq_append_getElem h, e]

set_option maxRecDepth 20000 in
set_option maxHeartbeats 4000000 in
theorem Parts_any (A1 : Option Addr) (n1 c1 : Nat) (a : List Val) (A2 : Option Addr) (n2 c2 : Nat) (b : List Val) (s t : ByteArray) (w : World)
    (hR1 : Rvs w w.heap.size A1 a) (hn1 : a.length = n1) (hm1 : n1 ≤ maxLen) (hin1 : ∀ u ∈ a, u.In) (hR2 : Rvs w w.heap.size A2 b) (hn2 : b.length = n2) (hm2 : n2 ≤ maxLen) (hin2 : ∀ u ∈ b, u.In) (hs : s.size ≤ maxLen) (ht : t.size ≤ maxLen) :
    Calls Try.prog 6 #[.slice A1 n1 c1, .slice A2 n2 c2, .string s, .string t] w fun e w' => e = .returned (.bool true) ∧ Below w.heap.size w w' := by
  have HR1 := Lib.hid hR1
  have HN1 := Lib.hid hn1
  have HI1 := Lib.hid hin1
  have HR2 := Lib.hid hR2
  have HN2 := Lib.hid hn2
  have HI2 := Lib.hid hin2
  have hTs := fun W => Text40_any s hs W
  have hTt := fun W => Text40_any t ht W
  clear hR1 hn1 hin1 hR2 hn2 hin2 hs ht
  go_enter Try.func6, Try.ntmps6
  go_wp2_with fail
  refine (awake8 _).mono ?_
  rintro e w1 ⟨rfl, hb1⟩
  have HB1 := Lib.hid hb1
  clear hb1
  go_wp2_with fail
  refine (few_any A1 n1 c1 w.heap.size a w1 (HR1.out.below HB1.out) HN1.out hm1 HB1.out.size HI1.out).mono ?_
  rintro e w2 ⟨A3, c3, xs, rfl, hc3, hm3, hxl, hgx, hrx, hb2⟩
  have HB2 := Lib.hid (HB1.out.trans (hb2.mono HB1.out.size))
  have HRX := Lib.hid hrx
  have HGX := Lib.hid hgx
  clear hb2 hrx hgx HB1
  go_wp2_with fail
  refine (few_any A2 n2 c2 w.heap.size b w2 (HR2.out.below HB2.out) HN2.out hm2 HB2.out.size HI2.out).mono ?_
  rintro e w3 ⟨A4, c4, ys, rfl, hc4, hm4, hyl, hgy, hry, hb3⟩
  have HB3 := Lib.hid (HB2.out.trans (hb3.mono HB2.out.size))
  have HRX3 := Lib.hid ((HRX.out.below hb3).more hb3.size)
  have HRY := Lib.hid hry
  have HGY := Lib.hid hgy
  clear hb3 hry hgy HB2 HRX
  unfold maxLen at hm3 hm4
  go_wp2_with fail
  refine (hTs _).mono ?_
  rintro e w4 ⟨⟨s', hs', rfl⟩, rfl⟩
  go_wp2_with fail
  refine (hTt _).mono ?_
  rintro e w4 ⟨⟨t', ht', rfl⟩, rfl⟩
  clear hTs hTt
  obtain ⟨W5, hW5⟩ : ∃ W, ((((w3.alloc (.cells #[.slice none 0 0] 27)).alloc (.cells #[.slice none 0 0] 27)).alloc (.cells #[.slice none 0 0] 27)).alloc (.cells #[.slice none 0 0] 27)).alloc (.cells #[.slice none 0 0] 27) = W := ⟨_, rfl⟩
  have hb5 : Below w3.heap.size w3 W5 := by rw [← hW5]; exact (((((Below.refl _ w3).alloc (Nat.le_refl _) _).alloc (by simp) _).alloc (by simp; omega) _).alloc (by simp; omega) _).alloc (by simp; omega) _
  have hal : ∀ (W : World) (o : Obj), Below W.heap.size W (W.alloc o) := fun W o => (Below.refl _ W).alloc (Nat.le_refl _) _
  have hq0 : Qu W5 w3.heap.size w3.heap.size none [] := by rw [← hW5]; exact ((((Qu.new (Nat.le_refl _)).below (hal _ _)).below (hal _ _)).below (hal _ _)).below (hal _ _)
  have hq1 : Qu W5 w3.heap.size (w3.heap.size + 1) none [] := by
    have h := Qu.new (w := w3.alloc (.cells #[.slice none 0 0] 27)) (B := w3.heap.size) (by simp)
    rw [show (w3.alloc (.cells #[.slice none 0 0] 27)).heap.size = w3.heap.size + 1 by simp] at h
    rw [← hW5]; exact ((h.below (hal _ _)).below (hal _ _)).below (hal _ _)
  have hq2 : Qu W5 w3.heap.size (w3.heap.size + 2) none [] := by
    have h := Qu.new (w := (w3.alloc (.cells #[.slice none 0 0] 27)).alloc (.cells #[.slice none 0 0] 27)) (B := w3.heap.size) (by simp; omega)
    rw [show ((w3.alloc (.cells #[.slice none 0 0] 27)).alloc (.cells #[.slice none 0 0] 27)).heap.size = w3.heap.size + 2 by simp] at h
    rw [← hW5]; exact (h.below (hal _ _)).below (hal _ _)
  have hq3 : Qu W5 w3.heap.size (w3.heap.size + 3) none [] := by
    have h := Qu.new (w := ((w3.alloc (.cells #[.slice none 0 0] 27)).alloc (.cells #[.slice none 0 0] 27)).alloc (.cells #[.slice none 0 0] 27)) (B := w3.heap.size) (by simp; omega)
    rw [show (((w3.alloc (.cells #[.slice none 0 0] 27)).alloc (.cells #[.slice none 0 0] 27)).alloc (.cells #[.slice none 0 0] 27)).heap.size = w3.heap.size + 3 by simp] at h
    rw [← hW5]; exact h.below (hal _ _)
  have hq4 : Qu W5 w3.heap.size (w3.heap.size + 4) none [] := by
    have h := Qu.new (w := (((w3.alloc (.cells #[.slice none 0 0] 27)).alloc (.cells #[.slice none 0 0] 27)).alloc (.cells #[.slice none 0 0] 27)).alloc (.cells #[.slice none 0 0] 27)) (B := w3.heap.size) (by simp; omega)
    rw [show ((((w3.alloc (.cells #[.slice none 0 0] 27)).alloc (.cells #[.slice none 0 0] 27)).alloc (.cells #[.slice none 0 0] 27)).alloc (.cells #[.slice none 0 0] 27)).heap.size = w3.heap.size + 4 by simp] at h
    rw [← hW5]; exact h
  have H0 := Lib.hid hq0
  have H1 := Lib.hid hq1
  have H2 := Lib.hid hq2
  have H3 := Lib.hid hq3
  have H4 := Lib.hid hq4
  have HB5 := Lib.hid hb5
  clear hq0 hq1 hq2 hq3 hq4 hb5 hal
  go_wp2_with fail
  try rw [hW5]
  clear hW5
  go_loopw [30] (fun i wr => ∃ (k : Nat) (rx ra : Option Nat), k ≤ xs.length ∧ i = .int .i64 k ∧ Hid (Qu wr w3.heap.size w3.heap.size rx (layAll (xs.take k))) ∧ Hid (Qu wr w3.heap.size (w3.heap.size + 2) ra (layAll (xs.take k))) ∧ Hid (ra = none ∨ ra ≠ rx) ∧
    Hid (Qu wr w3.heap.size (w3.heap.size + 1) none []) ∧ Hid (Qu wr w3.heap.size (w3.heap.size + 3) none []) ∧ Hid (Qu wr w3.heap.size (w3.heap.size + 4) none []) ∧ Hid ((layAll (xs.take k)).length ≤ 1009 * k) ∧ Hid (Below w3.heap.size w3 wr)) (fun i _ => xs.length - (intOf i).toNat)
  case atStart => exact ⟨0, none, none, Nat.zero_le _, rfl, H0, H2, Lib.hid (.inl rfl), H1, H3, H4, Lib.hid (by simp [layAll]), HB5⟩
  case round =>
    obtain ⟨k, rx, ra, hk, rfl, HX, HA, HD, HY, HP, HQ, HLL, HBW⟩ := hrel
    by_cases hlt : k < xs.length
    · obtain ⟨b', o, rfl, hb', x0, x1, x2, x3, x4⟩ := (HRX3.out.below HBW.out).at_ hlt
      have hgd := HGX.out xs[k] (List.getElem_mem hlt)
      obtain ⟨V, hV⟩ : ∃ V, xs[k] = V := ⟨_, rfl⟩
      have HTK := Lib.hid (take_snocV hlt hV)
      rw [hV] at x0 x1 x2 x3 x4 hgd
      rw [← Nat.add_assoc] at x0 x1 x2 x3 x4
      rw [Nat.add_zero] at x0
      have hO : V.Ok := hgd.ok
      obtain ⟨W1, hW1⟩ : ∃ W, wr.alloc (.cells #[.int .u8 (V.k : Int), .int .u64 (V.u : Int), .int .i64 V.i, .string V.s, .int .u64 (V.m : Int)] 30) = W := ⟨_, rfl⟩
      have hba : Below wr.heap.size wr W1 := by rw [← hW1]; exact (Below.refl _ wr).alloc (Nat.le_refl _) _
      have hkb : Blk W1 wr.heap.size 30 #[.int .u8 (V.k : Int), .int .u64 (V.u : Int), .int .i64 V.i, .string V.s, .int .u64 (V.m : Int)] := by rw [← hW1]; exact Blk.new wr _ _
      have hzr := HBW.out.size
      have h0 := HX.out.below hba
      have h2 := HA.out.below hba
      have h1 := HY.out.below hba
      have h3 := HP.out.below hba
      have h4 := HQ.out.below hba
      have hBW1 := HBW.out.trans (hba.mono hzr)
      have hL : Calls Try.prog 9 #[.pointer (some ⟨w3.heap.size, 0, none⟩), .agg #[.int .u8 (V.k : Int), .int .u64 (V.u : Int), .int .i64 V.i, .string V.s, .int .u64 (V.m : Int)]] W1 (QPost W1 w3.heap.size w3.heap.size rx (layAll (xs.take k) ++ layV V)) :=
        lay_any w3.heap.size w3.heap.size rx (layAll (xs.take k)) V hO (by have := HLL.out; omega) W1 h0
      have c0 := hkb.cell 0
      have c1 := hkb.cell 1
      have c2 := hkb.cell 2
      have c3 := hkb.cell 3
      have c4 := hkb.cell 4
      simp at c0 c1 c2 c3 c4
      have HL := Lib.hid hL
      have K0 := Lib.hid h0
      have K1 := Lib.hid h1
      have K2 := Lib.hid h2
      have K3 := Lib.hid h3
      have K4 := Lib.hid h4
      have HKB := Lib.hid hkb
      have HB1 := Lib.hid hBW1
      clear hL h0 h1 h2 h3 h4 hkb hBW1 hV hgd hba
      go_wp2_with fail
      refine HL.out.mono ?_
      rintro e w6 ⟨rfl, ⟨rx', h6, hs6⟩, hf6⟩
      have hz6 : W1.heap.size ≤ w6.heap.size := hf6.2.2.2.1
      have hwr1 : wr.heap.size < W1.heap.size := HKB.out.lt
      have hrx : rx ≠ some wr.heap.size := fun e => by have := (HX.out.row _ e).2; omega
      have hkb6 := HKB.out.past hf6 (by have := HX.out.lt; omega) hrx
      have h1 := K0.out.keep K1.out hf6 (by omega) (.inl rfl)
      have h2 := K0.out.keep K2.out hf6 (by omega) HD.out
      have h3 := K0.out.keep K3.out hf6 (by omega) (.inl rfl)
      have h4 := K0.out.keep K4.out hf6 (by omega) (.inl rfl)
      have hd6 := hs6.apart K2.out HD.out
      have hb6 := hf6.to_below' HB1.out K0.out (by have := HBW.out.size; have := HKB.out.lt; omega)
      have hL2 : Calls Try.prog 9 #[.pointer (some ⟨w3.heap.size + 2, 0, none⟩), .agg #[.int .u8 (V.k : Int), .int .u64 (V.u : Int), .int .i64 V.i, .string V.s, .int .u64 (V.m : Int)]] w6 (QPost w6 w3.heap.size (w3.heap.size + 2) ra (layAll (xs.take k) ++ layV V)) :=
        lay_any w3.heap.size (w3.heap.size + 2) ra (layAll (xs.take k)) V hO (by have := HLL.out; omega) w6 h2
      have d0 := hkb6.cell 0
      have d1 := hkb6.cell 1
      have d2 := hkb6.cell 2
      have d3 := hkb6.cell 3
      have d4 := hkb6.cell 4
      simp at d0 d1 d2 d3 d4
      have HL2 := Lib.hid hL2
      have J0 := Lib.hid h6
      have J1 := Lib.hid h1
      have J2 := Lib.hid h2
      have J3 := Lib.hid h3
      have J4 := Lib.hid h4
      have HD6 := Lib.hid hd6
      have HB6 := Lib.hid hb6
      clear hL2 h6 h1 h2 h3 h4 hd6 hb6 hf6 hs6 hkb6 c0 c1 c2 c3 c4 x0 x1 x2 x3 x4 hrx hW1 HL K0 K1 K2 K3 K4 HKB
      go_wp2_with fail
      refine HL2.out.mono ?_
      rintro e w7 ⟨rfl, ⟨ra', h7, hs7⟩, hf7⟩
      have G0 := Lib.hid (J2.out.keep J0.out hf7 (by omega) (apart_sym HD6.out))
      have G1 := Lib.hid (J2.out.keep J1.out hf7 (by omega) (.inl rfl))
      have G3 := Lib.hid (J2.out.keep J3.out hf7 (by omega) (.inl rfl))
      have G4 := Lib.hid (J2.out.keep J4.out hf7 (by omega) (.inl rfl))
      have G2 := Lib.hid h7
      have HD7 := Lib.hid (apart_sym (hs7.apart J0.out (apart_sym HD6.out)))
      have HB7 := Lib.hid (hf7.to_below' HB6.out J2.out (by omega))
      have HLL7 : Hid ((layAll (xs.take k) ++ layV V).length ≤ 1009 * (k + 1)) := Lib.hid (by
        rw [List.length_append]
        have := layV_len hO
        have := HLL.out
        omega)
      have HTK2 : Hid (layAll (xs.take (k + 1)) = layAll (xs.take k) ++ layV V) := Lib.hid (by rw [HTK.out, layAll_snoc])
      clear h7 hs7 hf7
      go_wp2_with fail
      go_roundw
      case rel => exact ⟨k + 1, rx', ra', by omega, by go_num, Lib.hid (by rw [HTK2.out]; exact G0.out), Lib.hid (by rw [HTK2.out]; exact G2.out), HD7, G1, G3, G4, Lib.hid (by rw [HTK2.out]; exact HLL7.out), HB7⟩
      case measure => simp [intOf]; omega
    · obtain rfl : k = xs.length := by omega
      have hlx := HLL.out
      rw [List.take_length] at HX HA hlx
      obtain ⟨LX, hLX⟩ : ∃ LX, layAll xs = LX := ⟨_, rfl⟩
      rw [hLX] at HX HA hlx
      have hlx2 : LX.length ≤ 13000 := by omega
      clear hLX HLL
      go_wp2_with fail
      go_loopw [41] (fun i wr => ∃ (k : Nat) (ry ra : Option Nat), k ≤ ys.length ∧ i = .int .i64 k ∧ Hid (Qu wr w3.heap.size (w3.heap.size + 1) ry (layAll (ys.take k))) ∧ Hid (Qu wr w3.heap.size (w3.heap.size + 2) ra (LX ++ layAll (ys.take k))) ∧ Hid (ra = none ∨ ra ≠ ry) ∧ Hid (ry = none ∨ ry ≠ rx) ∧
        Hid (ra = none ∨ ra ≠ rx) ∧ Hid (Qu wr w3.heap.size w3.heap.size rx LX) ∧ Hid (Qu wr w3.heap.size (w3.heap.size + 3) none []) ∧ Hid (Qu wr w3.heap.size (w3.heap.size + 4) none []) ∧ Hid ((layAll (ys.take k)).length ≤ 1009 * k) ∧ Hid (Below w3.heap.size w3 wr)) (fun i _ => ys.length - (intOf i).toNat)
      case atStart => exact ⟨0, none, ra, Nat.zero_le _, rfl, HY, Lib.hid (by rw [show layAll (ys.take 0) = [] from rfl, List.append_nil]; exact HA.out), Lib.hid (apart_sym (.inl rfl)), Lib.hid (.inl rfl), HD, HX, HP, HQ, Lib.hid (by simp [layAll]), HBW⟩
      case round =>
        clear HX HA HY HP HQ HBW HD
        obtain ⟨k, ry, ra, hk, rfl, HY, HA, HDA, HDY, HDX, HX, HP, HQ, HLL, HBW⟩ := hrel
        by_cases hlt : k < ys.length
        · obtain ⟨b', o, rfl, hb', x0, x1, x2, x3, x4⟩ := ((HRY.out.below HBW.out)).at_ hlt
          have hgd := HGY.out ys[k] (List.getElem_mem hlt)
          obtain ⟨V, hV⟩ : ∃ V, ys[k] = V := ⟨_, rfl⟩
          have HTK := Lib.hid (take_snocV hlt hV)
          rw [hV] at x0 x1 x2 x3 x4 hgd
          rw [← Nat.add_assoc] at x0 x1 x2 x3 x4
          rw [Nat.add_zero] at x0
          have hO : V.Ok := hgd.ok
          obtain ⟨W1, hW1⟩ : ∃ W, wr.alloc (.cells #[.int .u8 (V.k : Int), .int .u64 (V.u : Int), .int .i64 V.i, .string V.s, .int .u64 (V.m : Int)] 30) = W := ⟨_, rfl⟩
          have hba : Below wr.heap.size wr W1 := by rw [← hW1]; exact (Below.refl _ wr).alloc (Nat.le_refl _) _
          have hkb : Blk W1 wr.heap.size 30 #[.int .u8 (V.k : Int), .int .u64 (V.u : Int), .int .i64 V.i, .string V.s, .int .u64 (V.m : Int)] := by rw [← hW1]; exact Blk.new wr _ _
          have hzr := HBW.out.size
          have h0 := HX.out.below hba
          have h2 := HA.out.below hba
          have h1 := HY.out.below hba
          have h3 := HP.out.below hba
          have h4 := HQ.out.below hba
          have hBW1 := HBW.out.trans (hba.mono hzr)
          have hL : Calls Try.prog 9 #[.pointer (some ⟨w3.heap.size + 1, 0, none⟩), .agg #[.int .u8 (V.k : Int), .int .u64 (V.u : Int), .int .i64 V.i, .string V.s, .int .u64 (V.m : Int)]] W1 (QPost W1 w3.heap.size (w3.heap.size + 1) ry (layAll (ys.take k) ++ layV V)) :=
            lay_any w3.heap.size (w3.heap.size + 1) ry (layAll (ys.take k)) V hO (by have := HLL.out; omega) W1 h1
          have c0 := hkb.cell 0
          have c1 := hkb.cell 1
          have c2 := hkb.cell 2
          have c3 := hkb.cell 3
          have c4 := hkb.cell 4
          simp at c0 c1 c2 c3 c4
          have HL := Lib.hid hL
          have K0 := Lib.hid h0
          have K1 := Lib.hid h1
          have K2 := Lib.hid h2
          have K3 := Lib.hid h3
          have K4 := Lib.hid h4
          have HKB := Lib.hid hkb
          have HB1 := Lib.hid hBW1
          clear hL h0 h1 h2 h3 h4 hkb hBW1 hV hgd hba
          go_wp2_with fail
          refine HL.out.mono ?_
          rintro e w6 ⟨rfl, ⟨ry', h6, hs6⟩, hf6⟩
          have hz6 : W1.heap.size ≤ w6.heap.size := hf6.2.2.2.1
          have hwr1 : wr.heap.size < W1.heap.size := HKB.out.lt
          have hry : ry ≠ some wr.heap.size := fun e => by have := (HY.out.row _ e).2; omega
          have hkb6 := HKB.out.past hf6 (by have := HY.out.lt; omega) hry
          have h0 := K1.out.keep K0.out hf6 (by omega) (apart_sym HDY.out)
          have h2 := K1.out.keep K2.out hf6 (by omega) HDA.out
          have h3 := K1.out.keep K3.out hf6 (by omega) (.inl rfl)
          have h4 := K1.out.keep K4.out hf6 (by omega) (.inl rfl)
          have hda6 := hs6.apart K2.out HDA.out
          have hdy6 := apart_sym (hs6.apart K0.out (apart_sym HDY.out))
          have hb6 := hf6.to_below' HB1.out K1.out (by have := HBW.out.size; have := HKB.out.lt; omega)
          have hL2 : Calls Try.prog 9 #[.pointer (some ⟨w3.heap.size + 2, 0, none⟩), .agg #[.int .u8 (V.k : Int), .int .u64 (V.u : Int), .int .i64 V.i, .string V.s, .int .u64 (V.m : Int)]] w6 (QPost w6 w3.heap.size (w3.heap.size + 2) ra ((LX ++ layAll (ys.take k)) ++ layV V)) :=
            lay_any w3.heap.size (w3.heap.size + 2) ra (LX ++ layAll (ys.take k)) V hO (by have := HLL.out; rw [List.length_append]; omega) w6 h2
          have d0 := hkb6.cell 0
          have d1 := hkb6.cell 1
          have d2 := hkb6.cell 2
          have d3 := hkb6.cell 3
          have d4 := hkb6.cell 4
          simp at d0 d1 d2 d3 d4
          have HL2 := Lib.hid hL2
          have J1 := Lib.hid h6
          have J0 := Lib.hid h0
          have J2 := Lib.hid h2
          have J3 := Lib.hid h3
          have J4 := Lib.hid h4
          have HDA6 := Lib.hid hda6
          have HDY6 := Lib.hid hdy6
          have HB6 := Lib.hid hb6
          clear hL2 h6 h0 h2 h3 h4 hda6 hdy6 hb6 hf6 hs6 hkb6 c0 c1 c2 c3 c4 x0 x1 x2 x3 x4 hry hW1 HL K0 K1 K2 K3 K4 HKB
          go_wp2_with fail
          refine HL2.out.mono ?_
          rintro e w7 ⟨rfl, ⟨ra', h7, hs7⟩, hf7⟩
          have G0 := Lib.hid (J2.out.keep J0.out hf7 (by omega) (apart_sym HDX.out))
          have G1 := Lib.hid (J2.out.keep J1.out hf7 (by omega) (apart_sym HDA6.out))
          have G3 := Lib.hid (J2.out.keep J3.out hf7 (by omega) (.inl rfl))
          have G4 := Lib.hid (J2.out.keep J4.out hf7 (by omega) (.inl rfl))
          have G2 := Lib.hid h7
          have HDA7 := Lib.hid (apart_sym (hs7.apart J1.out (apart_sym HDA6.out)))
          have HDX7 := Lib.hid (apart_sym (hs7.apart J0.out (apart_sym HDX.out)))
          have HB7 := Lib.hid (hf7.to_below' HB6.out J2.out (by omega))
          have HLL7 : Hid ((layAll (ys.take k) ++ layV V).length ≤ 1009 * (k + 1)) := Lib.hid (by
            rw [List.length_append]
            have := layV_len hO
            have := HLL.out
            omega)
          have HTK2 : Hid (layAll (ys.take (k + 1)) = layAll (ys.take k) ++ layV V) := Lib.hid (by rw [HTK.out, layAll_snoc])
          clear h7 hs7 hf7
          go_wp2_with fail
          go_roundw
          case rel => exact ⟨k + 1, ry', ra', by omega, by go_num, Lib.hid (by rw [HTK2.out]; exact G1.out), Lib.hid (by rw [HTK2.out, ← List.append_assoc]; exact G2.out), HDA7, HDY6, HDX7, G0, G3, G4, Lib.hid (by rw [HTK2.out]; exact HLL7.out), HB7⟩
          case measure => simp [intOf]; omega
        · obtain rfl : k = ys.length := by omega
          have hly := HLL.out
          rw [List.take_length] at HY HA hly
          obtain ⟨LY, hLY⟩ : ∃ L, layAll ys = L := ⟨_, rfl⟩
          rw [hLY] at HY HA hly
          have hly2 : LY.length ≤ 13000 := by omega
          clear hLY HLL
          obtain ⟨LA, hLA⟩ : ∃ L, LX ++ LY = L := ⟨_, rfl⟩
          have hla : LA.length ≤ 26000 := by rw [← hLA, List.length_append]; omega
          rw [hLA] at HA
          have hD := QDone_any w3.heap.size (w3.heap.size + 2) ra LA (by omega) wr HA.out
          have HD := Lib.hid hD
          clear hD
          go_wp2_with fail
          refine HD.out.mono ?_
          rintro e w6 ⟨⟨A6, g6, rfl, hA6, hg6, hrg6⟩, hb6⟩
          have HR6 := Lib.hid hrg6.rd
          have HX6 := Lib.hid (HX.out.below hb6)
          have HY6 := Lib.hid (HY.out.below hb6)
          have HP6 := Lib.hid (HP.out.below hb6)
          have HQ6 := Lib.hid (HQ.out.below hb6)
          have HB6 := Lib.hid (HBW.out.trans (hb6.mono HBW.out.size))
          have hz6 := hb6.size
          clear hrg6 hb6 HX HY HP HQ HA hA6 hg6
          have hD := QDone_any w3.heap.size w3.heap.size rx LX (by omega) w6 HX6.out
          have HD := Lib.hid hD
          clear hD
          go_wp2_with fail
          refine HD.out.mono ?_
          rintro e w7 ⟨⟨A7, g7, rfl, hA7, hg7, hrg7⟩, hb7⟩
          have HR7 := Lib.hid hrg7.rd
          have HR67 := Lib.hid ((HR6.out.below hb7).more hb7.size)
          have HY7 := Lib.hid (HY6.out.below hb7)
          have HP7 := Lib.hid (HP6.out.below hb7)
          have HQ7 := Lib.hid (HQ6.out.below hb7)
          have HB7 := Lib.hid (HB6.out.trans (hb7.mono HB6.out.size))
          have hz7 := hb7.size
          clear hrg7 hb7 HX6 HY6 HP6 HQ6 hA7 hg7 HR6 HB6
          have hD := QDone_any w3.heap.size (w3.heap.size + 1) ry LY (by omega) w7 HY7.out
          have HD := Lib.hid hD
          clear hD
          go_wp2_with fail
          refine HD.out.mono ?_
          rintro e w8 ⟨⟨A8, g8, rfl, hA8, hg8, hrg8⟩, hb8⟩
          have HR8 := Lib.hid hrg8.rd
          have HR68 := Lib.hid ((HR67.out.below hb8).more hb8.size)
          have HR78 := Lib.hid ((HR7.out.below hb8).more hb8.size)
          have HP8 := Lib.hid (HP7.out.below hb8)
          have HQ8 := Lib.hid (HQ7.out.below hb8)
          have HB8 := Lib.hid (HB7.out.trans (hb8.mono HB7.out.size))
          have hz8 := hb8.size
          clear hrg8 hb8 HY7 HP7 HQ7 hA8 hg8 HR67 HR7 HB7 HD
          have hJ := Join_two A7 A8 LX.length LY.length LX.length LY.length w8.heap.size w8.heap.size LX LY w8 HR78.out (Nat.le_refl _) HR8.out (Nat.le_refl _) rfl rfl (by omega)
          rw [hLA] at hJ
          have HJ := Lib.hid hJ
          clear hJ
          go_wp2_with fail
          refine HJ.out.mono ?_
          rintro e w9 ⟨A9, c9, rfl, hc9, hm9, hr9, hb9⟩
          have hS := Same_any A6 A9 LA.length LA.length w9.heap.size LA.length c9 w9.heap.size LA LA w9 ((HR68.out.below hb9).more hb9.size) rfl (by unfold maxLen; omega) hr9 rfl (by unfold maxLen; omega)
          rw [show decide (LA = LA) = true by simp] at hS
          have HS := Lib.hid hS
          have HP9 := Lib.hid (HP8.out.below hb9)
          have HQ9 := Lib.hid (HQ8.out.below hb9)
          have HB9 := Lib.hid (HB8.out.trans (hb9.mono HB8.out.size))
          clear hS hb9 hr9 HP8 HQ8 HB8 HJ HR68 HR78 HR8
          go_wp2_with fail
          refine (HS.out.mono fun _ _ h => below_all h).mono ?_
          rintro e w10 ⟨rfl, hb10⟩
          have HP10 := Lib.hid (HP9.out.below hb10)
          have HQ10 := Lib.hid (HQ9.out.below hb10)
          have HB10 := Lib.hid (HB9.out.trans (hb10.mono HB9.out.size))
          clear hb10 HP9 HQ9 HB9 HS
          have HT := Lib.hid (QText_any w3.heap.size (w3.heap.size + 3) none [] s' (by omega) (by decide) w10 HP10.out)
          go_wp2_with fail
          refine HT.out.mono ?_
          rintro e w11 ⟨rfl, ⟨rp, hp11, hs11⟩, hf11⟩
          have HB11 := Lib.hid (hf11.to_below' HB10.out HP10.out HB10.out.size)
          have HQ11 := Lib.hid (HP10.out.keep HQ10.out hf11 (by omega) (.inl rfl))
          have HP11 := Lib.hid hp11
          clear hp11 hs11 hf11 HT HB10 HP10 HQ10
          have hls : (layT s'.data.toList).length ≤ 1009 := by
            unfold layT
            rw [List.length_append]
            have := layN_len 0 s'.data.toList.length (by simp; omega)
            simp at this ⊢
            omega
          have hlt : (layT t'.data.toList).length ≤ 1009 := by
            unfold layT
            rw [List.length_append]
            have := layN_len 0 t'.data.toList.length (by simp; omega)
            simp at this ⊢
            omega
          rw [List.nil_append] at HP11
          have HD := Lib.hid (QDone_any w3.heap.size (w3.heap.size + 3) rp (layT s'.data.toList) (by omega) w11 HP11.out)
          go_wp2_with fail
          refine HD.out.mono ?_
          rintro e w12 ⟨⟨A12, g12, rfl, hA12, hg12, hrg12⟩, hb12⟩
          have HR12 := Lib.hid hrg12
          have HQ12 := Lib.hid (HQ11.out.below hb12)
          have HB12 := Lib.hid (HB11.out.trans (hb12.mono HB11.out.size))
          have hz12 := hb12.size
          have hq11 := HQ11.out.lt
          clear hrg12 hb12 HB11 HQ11 HP11 HD
          have HT := Lib.hid (QText_any w3.heap.size (w3.heap.size + 4) none [] t' (by omega) (by decide) w12 HQ12.out)
          go_wp2_with fail
          refine HT.out.mono ?_
          rintro e w13 ⟨rfl, ⟨rq, hq13, hs13⟩, hf13⟩
          have HB13 := Lib.hid (hf13.to_below' HB12.out HQ12.out HB12.out.size)
          have HR13 := Lib.hid (HR12.out.past hf13 (by have := HQ12.out.lt; omega) (by simp))
          have HQ13 := Lib.hid hq13
          clear hq13 hs13 hf13 HT HB12 HR12 HQ12
          rw [List.nil_append] at HQ13
          have HD := Lib.hid (QDone_any w3.heap.size (w3.heap.size + 4) rq (layT t'.data.toList) (by omega) w13 HQ13.out)
          go_wp2_with fail
          refine HD.out.mono ?_
          rintro e w14 ⟨⟨A14, g14, rfl, hA14, hg14, hrg14⟩, hb14⟩
          have hS := Same_any A12 A14 (layT s'.data.toList).length (layT s'.data.toList).length w14.heap.size (layT t'.data.toList).length (layT t'.data.toList).length w14.heap.size (layT s'.data.toList) (layT t'.data.toList) w14 ((HR13.out.rd.below hb14).more hb14.size) rfl (by unfold maxLen; omega) hrg14.rd rfl (by unfold maxLen; omega)
          have HS := Lib.hid hS
          have HB14 := Lib.hid (HB13.out.trans (hb14.mono HB13.out.size))
          clear hS hb14 hrg14 HB13 HR13 HD hA14
          go_wp2_with fail
          refine (HS.out.mono fun _ _ h => below_all h).mono ?_
          rintro e w15 ⟨rfl, hb15⟩
          have HB15 := Lib.hid (HB3.out.trans ((HB14.out.trans (hb15.mono HB14.out.size)).mono HB3.out.size))
          clear hb15
          go_wp2_with fail
          have hz : ((s'.toList == t'.toList) == decide (layT s'.data.toList = layT t'.data.toList)) = true := by
            have := layT_inj (a := s'.data.toList) (b := t'.data.toList) (by simp; omega) (by simp; omega)
            rw [ByteArray.toList_eq, ByteArray.toList_eq]
            by_cases e : s'.data.toList = t'.data.toList
            · rw [e]; simp
            · rw [decide_eq_false (fun h => e (this.1 h))]
              simp only [beq_false, Bool.not_eq_true', beq_eq_false_iff_ne, ne_eq]
              exact e
          rw [hz]
          go_ret
          exact ⟨rfl, HB15.out⟩
end Go.Proofs.Ytclmhgaggminpab
