/-
A Lens's Text; the law's helpers lay and take. Conditions: the Quill, the Lens are known.
order.Bytes. No condition but the numbers' kinds.
-/
import Derived.Test.YtjlajnackecfgaaGreatDoorTrmOW9
import Derived.Laws.BytesArg
import Derived.Test.YtjlajnackecfgaaGreatDoorOdEW9
import Derived.Deep.RegionHeld3
namespace Go.Proofs.YtjlajnackecfgaaGreatDoor
open Go.RowKit

theorem strOf_bytes (l : List UInt8) : strOfNums (l.map fun x => (x.toNat : Int)) = ⟨l.toArray⟩ := by
  unfold strOfNums
  rw [List.map_map]
  congr 2
  conv => rhs; rw [← List.map_id l]
  apply List.map_congr_left
  intro x _
  simp
theorem conv_rg {w : World} {g : Nat} {A : Option Addr} {l : List UInt8} {n c : Nat} (h : Rg w g A l) (hn : l.length = n) : (convert 33 9 (.slice A n c)).run Tryz.prog w = .ok (.string ⟨l.toArray⟩) w := by
  rcases Nat.eq_zero_or_pos l.length with h0 | h0
  · obtain rfl : l = [] := List.eq_nil_of_length_eq_zero h0
    subst hn
    cases A with
    | none =>
      have := run_convert_bytes_nil (P := Tryz.prog) w 33 5 Tryz.underlying33 Tryz.underlying5 ([] : List UInt8).length c 9 Tryz.underlying9
      exact this
    | some a =>
      have hl : (loadCells a 0).run Tryz.prog w = .ok (([] : List Int).map (Value.int .u8)).toArray w := by simp [loadCells, loadCellsFrom]
      have := run_bytesToString (P := Tryz.prog) w a 0 c [] hl
      rw [run_convert_bytes_string w 33 9 5 (some a) _ c Tryz.underlying33 Tryz.underlying5 Tryz.underlying9]
      exact this
  · obtain ⟨o, rfl, _, hc⟩ := h h0
    have := run_convert_bytes_arg (P := Tryz.prog) w 33 5 Tryz.underlying33 Tryz.underlying5 g o n c (l.map fun x => (x.toNat : Int)) (by rw [List.length_map]; exact hn)
      (fun i hi => by
        have hil : i < l.length := by omega
        rw [hc i _ (List.getElem?_eq_getElem hil)]
        simp [List.getD, hil]) 9 Tryz.underlying9
    rw [strOf_bytes] at this
    exact this

def tV (most : Nat) (st : Option (List UInt8)) : ByteArray := match st.bind (takeS most) with | some (t, _) => ⟨t.toArray⟩ | none => ⟨#[]⟩
def tS (most : Nat) (st : Option (List UInt8)) : Option (List UInt8) := match st.bind (takeS most) with | some (_, r) => some r | none => none

section
variable (b g : Nat)
def TtPost (most : Nat) (w : World) (st : Option (List UInt8)) (e : Ending) (w' : World) : Prop := e = .returned (.string (tV most st)) ∧ Ln w' b g (tS most st) ∧ Far w w' b none
set_option maxRecDepth 20000 in
set_option maxHeartbeats 1000000 in
theorem LText_any (most : Nat) (hm : most < 1000000) (st : Option (List UInt8)) (w : World) (h : Ln w b g st) :
    Calls Tryz.prog 34 #[.pointer (some ⟨b, 0, none⟩), .int .i64 (most : Int)] w (TtPost b g most w st) := by
  have hU := LUint_any b g most (by omega) st w h
  have ht : st.bind (takeS most) = (st.bind (takeU most)).bind fun x => if x.1 ≤ x.2.length then some (x.2.take x.1, x.2.drop x.1) else none := by
    cases st with
    | none => rfl
    | some l =>
      simp only [Option.bind_some, takeS]
      cases takeU most l with
      | none => rfl
      | some x => rfl
  have hm0 : ¬ (most : Int) < 0 := by omega
  have HU := Lib.hid hU
  clear hU h
  cases hb : st.bind (takeU most) with
  | none =>
    have u1 : uV most st = 0 := by unfold uV; rw [hb]
    have u2 : uS most st = none := by unfold uS; rw [hb]
    have e1 : tV most st = ⟨#[]⟩ := by unfold tV; rw [ht, hb]; rfl
    have e2 : tS most st = none := by unfold tS; rw [ht, hb]; rfl
    have U1 := Lib.hid u1
    have U2 := Lib.hid u2
    have E1 := Lib.hid e1
    have E2 := Lib.hid e2
    clear u1 u2 e1 e2 ht hb
    go_enter Tryz.func34, Tryz.ntmps34
    go_wp2_with fail
    all_goals first | (exfalso; omega) | skip
    refine HU.out.mono ?_
    rintro e w1 ⟨rfl, h1, h2⟩
    rw [U2.out] at h1
    have hT := Take_any b g 0 (by decide) none w1 h1
    have HT := Lib.hid hT
    have H1 := Lib.hid h1
    have H2 := Lib.hid h2
    have hcv := fun W : World => run_convert_bytes_nil (P := Tryz.prog) W 33 5 Tryz.underlying33 Tryz.underlying5 0 0 9 Tryz.underlying9
    rw [U1.out]
    clear h1 h2 hT
    go_wp2_with fail
    refine HT.out.mono ?_
    rintro e w2 ⟨rfl, rfl⟩
    go_wp2_with fail
    go_ret
    exact ⟨by rw [E1.out]; rfl, by rw [E2.out]; exact H1.out, H2.out⟩
  | some x =>
    obtain ⟨n, r⟩ := x
    have u1 : uV most st = n := by unfold uV; rw [hb]
    have u2 : uS most st = some r := by unfold uS; rw [hb]
    have hnm : n ≤ most := by
      cases st with
      | none => cases hb
      | some l =>
        simp only [Option.bind_some, takeU] at hb
        split at hb
        · split at hb
          · injection hb with hb; injection hb with hb _; omega
          · cases hb
        · cases hb
    by_cases hle : n ≤ r.length
    · have e1 : tV most st = ⟨(r.take n).toArray⟩ := by unfold tV; rw [ht, hb]; simp [hle]
      have e2 : tS most st = some (r.drop n) := by unfold tS; rw [ht, hb]; simp [hle]
      have U1 := Lib.hid u1
      have U2 := Lib.hid u2
      have E1 := Lib.hid e1
      have E2 := Lib.hid e2
      clear u1 u2 e1 e2 ht hb
      go_enter Tryz.func34, Tryz.ntmps34
      go_wp2_with fail
      all_goals first | (exfalso; omega) | skip
      refine HU.out.mono ?_
      rintro e w1 ⟨rfl, h1, h2⟩
      rw [U2.out] at h1
      have hT := Take_any b g n (by omega) (some r) w1 h1
      have HT := Lib.hid hT
      have H2 := Lib.hid h2
      rw [U1.out]
      clear h1 h2 hT
      go_wp2_with fail
      refine HT.out.mono ?_
      intro e w2 hp
      simp only [TkPost] at hp
      rw [if_pos hle] at hp
      obtain ⟨⟨A, rfl, hrg⟩, hl, hf⟩ := hp
      have hcv := conv_rg (c := n) hrg (by rw [List.length_take]; omega : (r.take n).length = n)
      have HL := Lib.hid hl
      have HF := Lib.hid (H2.out.trans hf (Stays.refl _ _))
      obtain ⟨S, hS⟩ : ∃ S : ByteArray, (⟨(r.take n).toArray⟩ : ByteArray) = S := ⟨_, rfl⟩
      rw [hS] at hcv E1
      clear hrg hl hf hS
      go_wp2_with fail
      go_ret
      exact ⟨by rw [E1.out]; rfl, by rw [E2.out]; exact HL.out, HF.out⟩
    · have e1 : tV most st = ⟨#[]⟩ := by unfold tV; rw [ht, hb]; simp [hle]
      have e2 : tS most st = none := by unfold tS; rw [ht, hb]; simp [hle]
      have U1 := Lib.hid u1
      have U2 := Lib.hid u2
      have E1 := Lib.hid e1
      have E2 := Lib.hid e2
      clear u1 u2 e1 e2 ht hb
      go_enter Tryz.func34, Tryz.ntmps34
      go_wp2_with fail
      all_goals first | (exfalso; omega) | skip
      refine HU.out.mono ?_
      rintro e w1 ⟨rfl, h1, h2⟩
      rw [U2.out] at h1
      have hT := Take_any b g n (by omega) (some r) w1 h1
      have HT := Lib.hid hT
      have H2 := Lib.hid h2
      rw [U1.out]
      have hcv := fun W : World => run_convert_bytes_nil (P := Tryz.prog) W 33 5 Tryz.underlying33 Tryz.underlying5 0 0 9 Tryz.underlying9
      clear h1 h2 hT
      go_wp2_with fail
      refine HT.out.mono ?_
      intro e w2 hp
      simp only [TkPost] at hp
      rw [if_neg hle] at hp
      obtain ⟨rfl, hl, hf⟩ := hp
      have HL := Lib.hid hl
      have HF := Lib.hid (H2.out.trans hf (Stays.refl _ _))
      clear hl hf
      go_wp2_with fail
      go_ret
      exact ⟨by rw [E1.out]; rfl, by rw [E2.out]; exact HL.out, HF.out⟩
end
end Go.Proofs.YtjlajnackecfgaaGreatDoor
namespace Go.Proofs.YtjlajnackecfgaaGreatDoor
open Go.ChangeShapes Go.WideShapes Go.ChangeAt Go.RowKit
theorem St.later {w0 W W' : World} {B q : Nat} {l : List UInt8} (h : St w0 B q l W) (hb : Below W.heap.size W W') : St w0 B q l W' := by
  obtain ⟨r, h1, h2, h3⟩ := h
  exact ⟨r, h1.below hb, h2, h3.below hb⟩
theorem cTextS {w0 W : World} {B q : Nat} {l : List UInt8} (h : St w0 B q l W) (s : ByteArray) (hs : s.size ≤ 1000) (hl : l.length ≤ 1000000) :
    Calls Tryz.prog 23 #[.pointer (some ⟨q, 0, none⟩), .string s] W (StP w0 B q (l ++ layT s.data.toList)) := by
  obtain ⟨r, h1, h2, h3⟩ := h
  exact (QText_any B q r l s hs hl W h1).mono fun e w' hp => St.step h2 h3 hp
/-- A Quill that has written l since world w0, in which its row lay at r0. -/
def StR (w0 : World) (r0 : Option Nat) (B q : Nat) (l : List UInt8) (W : World) : Prop := ∃ r, Qu W B q r l ∧ Stays w0 r0 r ∧ Far w0 W q r0
theorem StR.drew {w0 W : World} {r0 : Option Nat} {B q : Nat} {l : List UInt8} (h : StR w0 r0 B q l W) : StR w0 r0 B q l W.drew := by
  obtain ⟨r, h1, h2, h3⟩ := h
  exact ⟨r, h1.drew, h2, h3.drew⟩
theorem StR.blk {w0 W : World} {r0 : Option Nat} {B q g : Nat} {l : List UInt8} {t : TypeId} {cs : Array Value} (h : StR w0 r0 B q l W) (hb : Blk w0 g t cs) (hg : g ≠ q) (hr : r0 ≠ some g) : Blk W g t cs := by
  obtain ⟨r, h1, h2, h3⟩ := h
  exact hb.past h3 hg hr
theorem StR.below {w0 W a : World} {r0 : Option Nat} {B q B0 : Nat} {l : List UInt8} (h : StR w0 r0 B q l W) (ha : Below B0 a w0) (hB : B0 ≤ w0.heap.size) (hq : B0 ≤ q) (hr : ∀ g, r0 = some g → B0 ≤ g) : Below B0 a W := by
  obtain ⟨r, h1, h2, h3⟩ := h
  exact h3.to_below ha hB hq hr
theorem cUintR {w0 W : World} {r0 : Option Nat} {B q : Nat} {l : List UInt8} (h : StR w0 r0 B q l W) (n : Nat) (hn : n < 18446744073709551616) (hl : l.length ≤ 1000000) :
    Calls Tryz.prog 22 #[.pointer (some ⟨q, 0, none⟩), .int .u64 (n : Int)] W fun e w' => e = .returned (.pointer (some ⟨q, 0, none⟩)) ∧ StR w0 r0 B q (l ++ layN 0 n) w' := by
  obtain ⟨r, h1, h2, h3⟩ := h
  refine (QUint_any B q r l n hn hl W h1).mono fun e w' hp => ?_
  obtain ⟨rfl, ⟨r', h4, h5⟩, h6⟩ := hp
  exact ⟨rfl, r', h4, h2.trans h5 h3.2.2.2.1, h3.trans h6 h2⟩
/-- An order's bytes. -/
def layO (o : Ord) : List UInt8 :=
  if o.k = 1 then ((([] ++ layN 0 o.k) ++ layN 0 o.a) ++ layT (layTm o.t))
  else if o.k = 2 then ((((([] ++ layN 0 o.k) ++ layN 0 o.a) ++ layN 0 o.e.s) ++ layN 0 o.e.d.toNat) ++ layN 0 o.e.k) ++ layN 0 o.e.m.toNat
  else if o.k = 3 then (([] ++ layN 0 o.k) ++ layN 0 o.a) ++ layN 0 o.e.s
  else ([] ++ layN 0 o.k) ++ layN 0 o.a
set_option maxRecDepth 100000 in
set_option maxHeartbeats 4000000 in
theorem OBytes_no {o : Ord} (h : ¬ o.Right) (w : World) : Calls Tryz.prog 9 #[o.v] w (Ret (.slice none 0 0) w) := by
  have hT := fun W => ORight_false h W
  obtain ⟨k, a, ⟨K, P, R, B, M, S, F, G⟩, s, d, ek, m⟩ := o
  clear h
  change ∀ W, Calls Tryz.prog _ #[.agg #[.int .u8 (k : Int), .int .u32 (a : Int), .int .u8 (K : Int), .int .i64 P, .int .u32 (R : Int), .int .u8 (B : Int), .int .i64 M, .int .i32 S, .int .i64 F, .int .i64 G, .int .u32 (s : Int), .int .i32 d, .int .u8 (ek : Int), .int .i64 m]] W _ at hT
  show Calls Tryz.prog 9 #[.agg #[.int .u8 (k : Int), .int .u32 (a : Int), .int .u8 (K : Int), .int .i64 P, .int .u32 (R : Int), .int .u8 (B : Int), .int .i64 M, .int .i32 S, .int .i64 F, .int .i64 G, .int .u32 (s : Int), .int .i32 d, .int .u8 (ek : Int), .int .i64 m]] w _
  have HQ := Lib.hid (Blk.new w 32 #[.int .u8 (k : Int), .int .u32 (a : Int), .int .u8 (K : Int), .int .i64 P, .int .u32 (R : Int), .int .u8 (B : Int), .int .i64 M, .int .i32 S, .int .i64 F, .int .i64 G, .int .u32 (s : Int), .int .i32 d, .int .u8 (ek : Int), .int .i64 m])
  have HB0 := Lib.hid (b_alloc w (.cells #[.int .u8 (k : Int), .int .u32 (a : Int), .int .u8 (K : Int), .int .i64 P, .int .u32 (R : Int), .int .u8 (B : Int), .int .i64 M, .int .i32 S, .int .i64 F, .int .i64 G, .int .u32 (s : Int), .int .i32 d, .int .u8 (ek : Int), .int .i64 m] 32))
  go_enter Tryz.func9, Tryz.ntmps9
  go_wp2_with (with_reducible refine wpl_loadB (o := ⟨some 5, _, _, _, _, _⟩) rfl 32 (.tmp 1) rfl w.heap.size 0 rfl HQ.out #[.int .u8 (k : Int), .int .u32 (a : Int), .int .u8 (K : Int), .int .i64 P, .int .u32 (R : Int), .int .u8 (B : Int), .int .i64 M, .int .i32 S, .int .i64 F, .int .i64 G, .int .u32 (s : Int), .int .i32 d, .int .u8 (ek : Int), .int .i64 m] ?g1 ?g2 ?_)
  case g1 => exact part_of (by rfl)
  case g2 => exact rowOr
  go_wp2_with fail
  refine (hT _).mono ?_
  rintro e w1 ⟨rfl, hb1⟩
  have HB1 := Lib.hid (HB0.out.trans (hb1.mono HB0.out.size))
  clear hb1 HQ HB0 hT
  go_wp2_with fail
  go_ret
  exact ⟨by first | rfl | simp, HB1.out⟩
set_option maxRecDepth 100000 in
set_option maxHeartbeats 4000000 in
theorem OBytes_1 {k a K R B s d ek m : Nat} {P M S F G : Int} {LT : List UInt8} (hLT : LT.length ≤ 72) (cT : ∀ W, Calls Tryz.prog 24 #[.agg #[.int .u8 (K : Int), .int .i64 P, .int .u32 (R : Int), .int .u8 (B : Int), .int .i64 M, .int .i32 S, .int .i64 F, .int .i64 G]] W (DPost W LT)) (hk : k < 256) (ha : a < 4294967296) (hs : s < 4294967296) (hd : d < 4294967296) (he : ek < 256) (hm : m < 9223372036854775808) (j : k = 1) (hT : ∀ W, Calls Tryz.prog 12 #[.agg #[.int .u8 (k : Int), .int .u32 (a : Int), .int .u8 (K : Int), .int .i64 P, .int .u32 (R : Int), .int .u8 (B : Int), .int .i64 M, .int .i32 S, .int .i64 F, .int .i64 G, .int .u32 (s : Int), .int .i32 (d : Int), .int .u8 (ek : Int), .int .i64 (m : Int)]] W (Ret (.bool true) W)) (w : World) : Calls Tryz.prog 9 #[.agg #[.int .u8 (k : Int), .int .u32 (a : Int), .int .u8 (K : Int), .int .i64 P, .int .u32 (R : Int), .int .u8 (B : Int), .int .i64 M, .int .i32 S, .int .i64 F, .int .i64 G, .int .u32 (s : Int), .int .i32 (d : Int), .int .u8 (ek : Int), .int .i64 (m : Int)]] w (DPost w ((([] ++ layN 0 k) ++ layN 0 a) ++ layT LT)) := by
  have j1 : ((k : Int) == 1) = true := by rw [beq_iff_eq]; omega
  clear j
  have HQ := Lib.hid (Blk.new w 32 #[.int .u8 (k : Int), .int .u32 (a : Int), .int .u8 (K : Int), .int .i64 P, .int .u32 (R : Int), .int .u8 (B : Int), .int .i64 M, .int .i32 S, .int .i64 F, .int .i64 G, .int .u32 (s : Int), .int .i32 (d : Int), .int .u8 (ek : Int), .int .i64 (m : Int)])
  have HB0 := Lib.hid (b_alloc w (.cells #[.int .u8 (k : Int), .int .u32 (a : Int), .int .u8 (K : Int), .int .i64 P, .int .u32 (R : Int), .int .u8 (B : Int), .int .i64 M, .int .i32 S, .int .i64 F, .int .i64 G, .int .u32 (s : Int), .int .i32 (d : Int), .int .u8 (ek : Int), .int .i64 (m : Int)] 32))
  go_enter Tryz.func9, Tryz.ntmps9
  go_wp2_with (with_reducible refine wpl_loadB (o := ⟨some 5, _, _, _, _, _⟩) rfl 32 (.tmp 1) rfl w.heap.size 0 rfl HQ.out #[.int .u8 (k : Int), .int .u32 (a : Int), .int .u8 (K : Int), .int .i64 P, .int .u32 (R : Int), .int .u8 (B : Int), .int .i64 M, .int .i32 S, .int .i64 F, .int .i64 G, .int .u32 (s : Int), .int .i32 (d : Int), .int .u8 (ek : Int), .int .i64 (m : Int)] ?g1 ?g2 ?_)
  case g1 => exact part_of (by rfl)
  case g2 => exact rowOr
  go_wp2_with fail
  refine (hT _).mono ?_
  rintro e w1 ⟨rfl, hb1⟩
  have HB1 := Lib.hid (HB0.out.trans (hb1.mono HB0.out.size))
  have HQ1 := Lib.hid (HQ.out.below hb1 HQ.out.lt)
  clear hb1 HQ HB0 hT
  go_upto_region 4 with (fail)
  have hnew := Qu.new (w := w1) (B := w1.heap.size) (Nat.le_refl _)
  have hent := HQ1.out.alloc (.cells #[.slice none 0 0] 66)
  have hbw := HB1.out.alloc HB1.out.size (.cells #[.slice none 0 0] 66)
  have hsz2 : w1.heap.size < (w1.alloc (.cells #[.slice none 0 0] 66)).heap.size := by simp
  have hbq := HQ1.out.lt
  have hwq := HB1.out.size
  obtain ⟨w2, hw2⟩ : ∃ W, w1.alloc (.cells #[.slice none 0 0] 66) = W := ⟨_, rfl⟩
  rw [hw2] at hnew hent hbw hsz2
  rw [hw2]
  obtain ⟨q, hq⟩ : ∃ q, w1.heap.size = q := ⟨_, rfl⟩
  rw [hq] at hnew hsz2 hbq hwq
  rw [hq]
  obtain ⟨b, hb⟩ : ∃ b, w.heap.size = b := ⟨_, rfl⟩
  rw [hb] at hent hbq
  rw [hb]
  have HWB := Lib.hid hb
  have HENT := Lib.hid hent
  have HBW := Lib.hid hbw
  have HSZ := Lib.hid (And.intro hsz2 (And.intro hbq hwq))
  have S0 : St w2 q q [] w2 := ⟨none, hnew, Stays.refl _ _, Far.refl _ _ _⟩
  have KC : ∀ (m1 : List UInt8) (W' : World), St w2 q q m1 W' → Blk W' b 32 #[.int .u8 (k : Int), .int .u32 (a : Int), .int .u8 (K : Int), .int .i64 P, .int .u32 (R : Int), .int .u8 (B : Int), .int .i64 M, .int .i32 S, .int .i64 F, .int .i64 G, .int .u32 (s : Int), .int .i32 (d : Int), .int .u8 (ek : Int), .int .i64 (m : Int)] := fun m1 W' h => h.blk HENT.out (by have := HSZ.out.2.1; omega)
  have KC2 : ∀ (m1 : List UInt8) (W' : World), St w2 q q m1 W' → W'.cell? ⟨b, 0, none⟩ = some (.int .u8 (k : Int)) ∧ W'.cell? ⟨b, 1, none⟩ = some (.int .u32 (a : Int)) := fun m1 W' h => by
    obtain ⟨c0, c1, -⟩ := blk14 (KC m1 W' h)
    exact ⟨c0, c1⟩
  have ik : IntKind.u64.wrap (k : Int) = (k : Int) := by rw [IntKind.wrap_u64]; omega
  have Ak : k < 18446744073709551616 := by omega
  have mk := layN_le 0 k Ak
  have ia : IntKind.u64.wrap (a : Int) = (a : Int) := by rw [IntKind.wrap_u64]; omega
  have Aa : a < 18446744073709551616 := by omega
  have ma := layN_le 0 a Aa
  have is : IntKind.u64.wrap (s : Int) = (s : Int) := by rw [IntKind.wrap_u64]; omega
  have As : s < 18446744073709551616 := by omega
  have ms := layN_le 0 s As
  have id : IntKind.u64.wrap (d : Int) = (d : Int) := by rw [IntKind.wrap_u64]; omega
  have Ad : d < 18446744073709551616 := by omega
  have md := layN_le 0 d Ad
  have iek : IntKind.u64.wrap (ek : Int) = (ek : Int) := by rw [IntKind.wrap_u64]; omega
  have Aek : ek < 18446744073709551616 := by omega
  have mek := layN_le 0 ek Aek
  have im : IntKind.u64.wrap (m : Int) = (m : Int) := by rw [IntKind.wrap_u64]; omega
  have Am : m < 18446744073709551616 := by omega
  have mm := layN_le 0 m Am
  clear hnew hent hbw hsz2 hbq hwq hw2 hq hb HQ1 HB1 hk ha hs hd he hm
  have V0 := S0.drew
  have LA0 : ([] : List UInt8).length ≤ 1000000 := by decide
  have LB0 : (([] : List UInt8) ++ layN 0 k).length ≤ 1000000 := by rw [List.nil_append]; omega
  go_region_held3 (fun W' => W'.cell? ⟨b, 0, none⟩ = some (.int .u8 (k : Int)) ∧ W'.cell? ⟨b, 1, none⟩ = some (.int .u32 (a : Int)))
    (first | exact KC2 _ _ Z0b | exact KC2 _ _ Z0a | exact KC2 _ _ V0)
    (first
      | (go_at_call 22; refine (cUintS Z0a a Aa LB0).mono ?_; rintro e w11 ⟨rfl, Z0b⟩)
      | (go_at_call 22; refine (cUintS V0 k Ak LA0).mono ?_; rintro e w10 ⟨rfl, Z0a⟩))
  have ZL1 : ((([] : List UInt8) ++ layN 0 k) ++ layN 0 a).length ≤ 18 := by rw [List.length_append, List.nil_append]; omega
  obtain ⟨X1, hX1⟩ : ∃ X, (([] : List UInt8) ++ layN 0 k) ++ layN 0 a = X := ⟨_, rfl⟩
  rw [hX1] at Z0b ZL1
  have HX1 := Lib.hid hX1
  clear hX1 Z0a V0 KC2 LA0 LB0 S0 ik ia Ak Aa mk ma
  have HK1 := Lib.hid (KC _ _ Z0b)
  have HKa := Lib.hid (HK1.out.alloc (.cells #[.int .u32 (s : Int), .int .i32 (d : Int), .int .u8 (ek : Int), .int .i64 (m : Int)] 30))
  obtain ⟨cc, -⟩ := blk14 HKa.out
  go_wp2_with (first | (with_reducible refine wpl_loadB (o := ⟨some 17, _, _, _, _, _⟩) rfl 30 (.tmp 16) rfl b 10 rfl HK1.out #[.int .u32 (s : Int), .int .i32 (d : Int), .int .u8 (ek : Int), .int .i64 (m : Int)] ?g3 ?g4 ?_) | (with_reducible refine wpl_loadB (o := ⟨some 23, _, _, _, _, _⟩) rfl 28 (.tmp 22) rfl b 2 rfl HKa.out #[.int .u8 (K : Int), .int .i64 P, .int .u32 (R : Int), .int .u8 (B : Int), .int .i64 M, .int .i32 S, .int .i64 F, .int .i64 G] ?g5 ?g6 ?_))
  case g3 => exact part_of (by rfl)
  case g4 => exact rowEv
  case g5 => exact part_of (by rfl)
  case g6 => exact rowTm
  clear cc HKa
  have HE6 := Lib.hid (Blk.new w11 30 #[.int .u32 (s : Int), .int .i32 (d : Int), .int .u8 (ek : Int), .int .i64 (m : Int)])
  have S6 := Z0b.alloc (.cells #[.int .u32 (s : Int), .int .i32 (d : Int), .int .u8 (ek : Int), .int .i64 (m : Int)] 30)
  obtain ⟨w6, hw6⟩ : ∃ W, w11.alloc (.cells #[.int .u32 (s : Int), .int .i32 (d : Int), .int .u8 (ek : Int), .int .i64 (m : Int)] 30) = W := ⟨_, rfl⟩
  rw [hw6] at S6 HE6
  rw [hw6]
  obtain ⟨g, hg⟩ : ∃ g, w11.heap.size = g := ⟨_, rfl⟩
  rw [hg] at HE6
  rw [hg]
  have HSZ6 : Hid (q < g) := Lib.hid (by
    have h := Z0b.size
    have := HSZ.out.1
    omega)
  clear hw6 hg Z0b HK1
  refine (cT _).mono ?_
  rintro e w7 ⟨⟨A7, g7, rfl, hA7, hg7, hrg7⟩, hb7⟩
  have S7 := S6.later hb7
  have hcv := conv_rg (n := LT.length) (c := LT.length) hrg7 rfl
  have hs7 : (⟨LT.toArray⟩ : ByteArray).size ≤ 1000 := by simp [ByteArray.size]; omega
  have LA1 : X1.length ≤ 1000000 := by omega
  have HC8 := Lib.hid (cTextS S7 ⟨LT.toArray⟩ hs7 LA1)
  have HLT := Lib.hid hLT
  clear S6 S7 hb7 hA7 hg7 hrg7 cT HE6 KC hs7 hLT
  go_wp2_with fail
  refine HC8.out.mono ?_
  rintro e w8 ⟨rfl, S8⟩
  replace S8 : St w2 q q (X1 ++ layT LT) w8 := S8
  have ZL2 : (X1 ++ layT LT).length ≤ 1000000 := by
    have h9 := layN_le 0 LT.length (by have := HLT.out; omega)
    have := HLT.out
    unfold layT
    rw [List.length_append, List.length_append]
    omega
  clear HC8 hcv
  have hb9 := S8.below HBW.out (by have := HSZ.out; omega) (by have := HSZ.out; omega)
  have hsz9 := S8.size
  obtain ⟨r, h1, h2, h3⟩ := S8
  have HQD := Lib.hid (QDone_any q q r _ (by omega) _ h1)
  have HB9 := Lib.hid hb9
  have HZ9 := Lib.hid hsz9
  clear h1 h2 h3 hb9 hsz9
  go_wp2_with fail
  refine HQD.out.mono ?_
  rintro e w20 ⟨⟨A9, g9, rfl, hA9, hg9, hrg9⟩, hbd⟩
  have HPOST : Hid (DPost w ((([] ++ layN 0 k) ++ layN 0 a) ++ layT LT) (.returned (.slice A9 ((X1 ++ layT LT)).length ((X1 ++ layT LT)).length)) w20) := Lib.hid (by
    rw [HX1.out]
    have z1 := HB9.out.size
    exact ⟨⟨A9, g9, rfl, hA9, by omega, hrg9⟩, HB9.out.trans (hbd.mono z1)⟩)
  clear hA9 hg9 hrg9 hbd HQD
  go_wp2_with fail
  go_ret
  simpa using HPOST.out
set_option maxRecDepth 100000 in
set_option maxHeartbeats 4000000 in
theorem OBytes_2 {k a K R B s d ek m : Nat} {P M S F G : Int} (hk : k < 256) (ha : a < 4294967296) (hs : s < 4294967296) (hd : d < 4294967296) (he : ek < 256) (hm : m < 9223372036854775808) (j : k = 2) (hT : ∀ W, Calls Tryz.prog 12 #[.agg #[.int .u8 (k : Int), .int .u32 (a : Int), .int .u8 (K : Int), .int .i64 P, .int .u32 (R : Int), .int .u8 (B : Int), .int .i64 M, .int .i32 S, .int .i64 F, .int .i64 G, .int .u32 (s : Int), .int .i32 (d : Int), .int .u8 (ek : Int), .int .i64 (m : Int)]] W (Ret (.bool true) W)) (w : World) : Calls Tryz.prog 9 #[.agg #[.int .u8 (k : Int), .int .u32 (a : Int), .int .u8 (K : Int), .int .i64 P, .int .u32 (R : Int), .int .u8 (B : Int), .int .i64 M, .int .i32 S, .int .i64 F, .int .i64 G, .int .u32 (s : Int), .int .i32 (d : Int), .int .u8 (ek : Int), .int .i64 (m : Int)]] w (DPost w (((((([] ++ layN 0 k) ++ layN 0 a) ++ layN 0 s) ++ layN 0 d) ++ layN 0 ek) ++ layN 0 m)) := by
  have j1 : ((k : Int) == 1) = false := by rw [beq_eq_false_iff_ne]; omega
  have j2 : ((k : Int) == 2) = true := by rw [beq_iff_eq]; omega
  clear j
  have HQ := Lib.hid (Blk.new w 32 #[.int .u8 (k : Int), .int .u32 (a : Int), .int .u8 (K : Int), .int .i64 P, .int .u32 (R : Int), .int .u8 (B : Int), .int .i64 M, .int .i32 S, .int .i64 F, .int .i64 G, .int .u32 (s : Int), .int .i32 (d : Int), .int .u8 (ek : Int), .int .i64 (m : Int)])
  have HB0 := Lib.hid (b_alloc w (.cells #[.int .u8 (k : Int), .int .u32 (a : Int), .int .u8 (K : Int), .int .i64 P, .int .u32 (R : Int), .int .u8 (B : Int), .int .i64 M, .int .i32 S, .int .i64 F, .int .i64 G, .int .u32 (s : Int), .int .i32 (d : Int), .int .u8 (ek : Int), .int .i64 (m : Int)] 32))
  go_enter Tryz.func9, Tryz.ntmps9
  go_wp2_with (with_reducible refine wpl_loadB (o := ⟨some 5, _, _, _, _, _⟩) rfl 32 (.tmp 1) rfl w.heap.size 0 rfl HQ.out #[.int .u8 (k : Int), .int .u32 (a : Int), .int .u8 (K : Int), .int .i64 P, .int .u32 (R : Int), .int .u8 (B : Int), .int .i64 M, .int .i32 S, .int .i64 F, .int .i64 G, .int .u32 (s : Int), .int .i32 (d : Int), .int .u8 (ek : Int), .int .i64 (m : Int)] ?g1 ?g2 ?_)
  case g1 => exact part_of (by rfl)
  case g2 => exact rowOr
  go_wp2_with fail
  refine (hT _).mono ?_
  rintro e w1 ⟨rfl, hb1⟩
  have HB1 := Lib.hid (HB0.out.trans (hb1.mono HB0.out.size))
  have HQ1 := Lib.hid (HQ.out.below hb1 HQ.out.lt)
  clear hb1 HQ HB0 hT
  go_upto_region 4 with (fail)
  have hnew := Qu.new (w := w1) (B := w1.heap.size) (Nat.le_refl _)
  have hent := HQ1.out.alloc (.cells #[.slice none 0 0] 66)
  have hbw := HB1.out.alloc HB1.out.size (.cells #[.slice none 0 0] 66)
  have hsz2 : w1.heap.size < (w1.alloc (.cells #[.slice none 0 0] 66)).heap.size := by simp
  have hbq := HQ1.out.lt
  have hwq := HB1.out.size
  obtain ⟨w2, hw2⟩ : ∃ W, w1.alloc (.cells #[.slice none 0 0] 66) = W := ⟨_, rfl⟩
  rw [hw2] at hnew hent hbw hsz2
  rw [hw2]
  obtain ⟨q, hq⟩ : ∃ q, w1.heap.size = q := ⟨_, rfl⟩
  rw [hq] at hnew hsz2 hbq hwq
  rw [hq]
  obtain ⟨b, hb⟩ : ∃ b, w.heap.size = b := ⟨_, rfl⟩
  rw [hb] at hent hbq
  rw [hb]
  have HWB := Lib.hid hb
  have HENT := Lib.hid hent
  have HBW := Lib.hid hbw
  have HSZ := Lib.hid (And.intro hsz2 (And.intro hbq hwq))
  have S0 : St w2 q q [] w2 := ⟨none, hnew, Stays.refl _ _, Far.refl _ _ _⟩
  have KC : ∀ (m1 : List UInt8) (W' : World), St w2 q q m1 W' → Blk W' b 32 #[.int .u8 (k : Int), .int .u32 (a : Int), .int .u8 (K : Int), .int .i64 P, .int .u32 (R : Int), .int .u8 (B : Int), .int .i64 M, .int .i32 S, .int .i64 F, .int .i64 G, .int .u32 (s : Int), .int .i32 (d : Int), .int .u8 (ek : Int), .int .i64 (m : Int)] := fun m1 W' h => h.blk HENT.out (by have := HSZ.out.2.1; omega)
  have KC2 : ∀ (m1 : List UInt8) (W' : World), St w2 q q m1 W' → W'.cell? ⟨b, 0, none⟩ = some (.int .u8 (k : Int)) ∧ W'.cell? ⟨b, 1, none⟩ = some (.int .u32 (a : Int)) := fun m1 W' h => by
    obtain ⟨c0, c1, -⟩ := blk14 (KC m1 W' h)
    exact ⟨c0, c1⟩
  have ik : IntKind.u64.wrap (k : Int) = (k : Int) := by rw [IntKind.wrap_u64]; omega
  have Ak : k < 18446744073709551616 := by omega
  have mk := layN_le 0 k Ak
  have ia : IntKind.u64.wrap (a : Int) = (a : Int) := by rw [IntKind.wrap_u64]; omega
  have Aa : a < 18446744073709551616 := by omega
  have ma := layN_le 0 a Aa
  have is : IntKind.u64.wrap (s : Int) = (s : Int) := by rw [IntKind.wrap_u64]; omega
  have As : s < 18446744073709551616 := by omega
  have ms := layN_le 0 s As
  have id : IntKind.u64.wrap (d : Int) = (d : Int) := by rw [IntKind.wrap_u64]; omega
  have Ad : d < 18446744073709551616 := by omega
  have md := layN_le 0 d Ad
  have iek : IntKind.u64.wrap (ek : Int) = (ek : Int) := by rw [IntKind.wrap_u64]; omega
  have Aek : ek < 18446744073709551616 := by omega
  have mek := layN_le 0 ek Aek
  have im : IntKind.u64.wrap (m : Int) = (m : Int) := by rw [IntKind.wrap_u64]; omega
  have Am : m < 18446744073709551616 := by omega
  have mm := layN_le 0 m Am
  clear hnew hent hbw hsz2 hbq hwq hw2 hq hb HQ1 HB1 hk ha hs hd he hm
  have V0 := S0.drew
  have LA0 : ([] : List UInt8).length ≤ 1000000 := by decide
  have LB0 : (([] : List UInt8) ++ layN 0 k).length ≤ 1000000 := by rw [List.nil_append]; omega
  go_region_held3 (fun W' => W'.cell? ⟨b, 0, none⟩ = some (.int .u8 (k : Int)) ∧ W'.cell? ⟨b, 1, none⟩ = some (.int .u32 (a : Int)))
    (first | exact KC2 _ _ Z0b | exact KC2 _ _ Z0a | exact KC2 _ _ V0)
    (first
      | (go_at_call 22; refine (cUintS Z0a a Aa LB0).mono ?_; rintro e w11 ⟨rfl, Z0b⟩)
      | (go_at_call 22; refine (cUintS V0 k Ak LA0).mono ?_; rintro e w10 ⟨rfl, Z0a⟩))
  have ZL1 : ((([] : List UInt8) ++ layN 0 k) ++ layN 0 a).length ≤ 18 := by rw [List.length_append, List.nil_append]; omega
  obtain ⟨X1, hX1⟩ : ∃ X, (([] : List UInt8) ++ layN 0 k) ++ layN 0 a = X := ⟨_, rfl⟩
  rw [hX1] at Z0b ZL1
  have HX1 := Lib.hid hX1
  clear hX1 Z0a V0 KC2 LA0 LB0 S0 ik ia Ak Aa mk ma
  have HK1 := Lib.hid (KC _ _ Z0b)
  have HKa := Lib.hid (HK1.out.alloc (.cells #[.int .u32 (s : Int), .int .i32 (d : Int), .int .u8 (ek : Int), .int .i64 (m : Int)] 30))
  obtain ⟨cc, -⟩ := blk14 HKa.out
  go_wp2_with (first | (with_reducible refine wpl_loadB (o := ⟨some 17, _, _, _, _, _⟩) rfl 30 (.tmp 16) rfl b 10 rfl HK1.out #[.int .u32 (s : Int), .int .i32 (d : Int), .int .u8 (ek : Int), .int .i64 (m : Int)] ?g3 ?g4 ?_))
  case g3 => exact part_of (by rfl)
  case g4 => exact rowEv
  clear cc HKa
  have HE6 := Lib.hid (Blk.new w11 30 #[.int .u32 (s : Int), .int .i32 (d : Int), .int .u8 (ek : Int), .int .i64 (m : Int)])
  have S6 := Z0b.alloc (.cells #[.int .u32 (s : Int), .int .i32 (d : Int), .int .u8 (ek : Int), .int .i64 (m : Int)] 30)
  obtain ⟨w6, hw6⟩ : ∃ W, w11.alloc (.cells #[.int .u32 (s : Int), .int .i32 (d : Int), .int .u8 (ek : Int), .int .i64 (m : Int)] 30) = W := ⟨_, rfl⟩
  rw [hw6] at S6 HE6
  rw [hw6]
  obtain ⟨g, hg⟩ : ∃ g, w11.heap.size = g := ⟨_, rfl⟩
  rw [hg] at HE6
  rw [hg]
  have HSZ6 : Hid (q < g) := Lib.hid (by
    have h := Z0b.size
    have := HSZ.out.1
    omega)
  have SZ := Z0b
  obtain ⟨r0, hQ0, -, -⟩ := Z0b
  have hr0 := hQ0.row
  rw [hg] at hr0
  have hb6 : Below w11.heap.size w11 w6 := by rw [← hw6]; exact b_alloc _ _
  have R0 : StR w6 r0 q q X1 w6 := ⟨r0, hQ0.below hb6, Stays.refl _ _, Far.refl _ _ _⟩
  have HR0 := Lib.hid hr0
  have HB6 := Lib.hid (S6.below HBW.out (by have := HSZ.out; omega) (by have := HSZ.out; omega))
  clear hw6 hg SZ hQ0 hr0 hb6 HK1
  have KE : ∀ (m1 : List UInt8) (W' : World), StR w6 r0 q q m1 W' → W'.cell? ⟨g, 0, none⟩ = some (.int .u32 (s : Int)) ∧ W'.cell? ⟨g, 1, none⟩ = some (.int .i32 (d : Int)) ∧ W'.cell? ⟨g, 2, none⟩ = some (.int .u8 (ek : Int)) ∧ W'.cell? ⟨g, 3, none⟩ = some (.int .i64 (m : Int)) := fun m1 W' h => by
    have hh := h.blk HE6.out (by have := HSZ6.out; omega) (fun e => by have := (HR0.out g e).2; omega)
    have e0 := hh.cell 0
    have e1 := hh.cell 1
    have e2 := hh.cell 2
    have e3 := hh.cell 3
    simp at e0 e1 e2 e3
    exact ⟨e0, e1, e2, e3⟩
  clear KC S6
  have V1 := R0.drew
  have L1 : X1.length ≤ 1000000 := by omega
  have L2 : (X1 ++ layN 0 s).length ≤ 1000000 := by rw [List.length_append]; omega
  have L3 : ((X1 ++ layN 0 s) ++ layN 0 d).length ≤ 1000000 := by rw [List.length_append, List.length_append]; omega
  have L4 : (((X1 ++ layN 0 s) ++ layN 0 d) ++ layN 0 ek).length ≤ 1000000 := by rw [List.length_append, List.length_append, List.length_append]; omega
  have L5 : ((((X1 ++ layN 0 s) ++ layN 0 d) ++ layN 0 ek) ++ layN 0 m).length ≤ 1000000 := by rw [List.length_append, List.length_append, List.length_append, List.length_append]; omega
  clear ms md mek mm ZL1
  go_region_held3 (fun W' => W'.cell? ⟨g, 0, none⟩ = some (.int .u32 (s : Int)) ∧ W'.cell? ⟨g, 1, none⟩ = some (.int .i32 (d : Int)) ∧ W'.cell? ⟨g, 2, none⟩ = some (.int .u8 (ek : Int)) ∧ W'.cell? ⟨g, 3, none⟩ = some (.int .i64 (m : Int)))
    (first | exact KE _ _ Z4 | exact KE _ _ Z3 | exact KE _ _ Z2 | exact KE _ _ Z1 | exact KE _ _ V1)
    (first
      | (go_at_call 22; refine (cUintR Z3 m Am L4).mono ?_; rintro e w17 ⟨rfl, Z4⟩)
      | (go_at_call 22; refine (cUintR Z2 ek Aek L3).mono ?_; rintro e w16 ⟨rfl, Z3⟩)
      | (go_at_call 22; refine (cUintR Z1 d Ad L2).mono ?_; rintro e w15 ⟨rfl, Z2⟩)
      | (go_at_call 22; refine (cUintR V1 s As L1).mono ?_; rintro e w14 ⟨rfl, Z1⟩))
  have hb9 := Z4.below HB6.out (by have := HB6.out.size; omega) (by have := HSZ.out; omega) (fun g e => by have := (HR0.out g e).1; have := HSZ.out; omega)
  obtain ⟨r, h1, h2, h3⟩ := Z4
  have HQD := Lib.hid (QDone_any q q r _ L5 _ h1)
  have HB9 := Lib.hid hb9
  clear h1 h2 h3 hb9 KE V1 Z1 Z2 Z3 L1 L2 L3 L4 L5 is id iek im As Ad Aek Am R0
  go_wp2_with fail
  refine HQD.out.mono ?_
  rintro e w20 ⟨⟨A9, g9, rfl, hA9, hg9, hrg9⟩, hbd⟩
  have HPOST : Hid (DPost w (((((([] ++ layN 0 k) ++ layN 0 a) ++ layN 0 s) ++ layN 0 d) ++ layN 0 ek) ++ layN 0 m) (.returned (.slice A9 (((((X1 ++ layN 0 s) ++ layN 0 d) ++ layN 0 ek) ++ layN 0 m)).length (((((X1 ++ layN 0 s) ++ layN 0 d) ++ layN 0 ek) ++ layN 0 m)).length)) w20) := Lib.hid (by
    rw [HX1.out]
    have z1 := HB9.out.size
    exact ⟨⟨A9, g9, rfl, hA9, by omega, hrg9⟩, HB9.out.trans (hbd.mono z1)⟩)
  clear hA9 hg9 hrg9 hbd HQD
  go_wp2_with fail
  go_ret
  simpa using HPOST.out
set_option maxRecDepth 100000 in
set_option maxHeartbeats 4000000 in
theorem OBytes_3 {k a K R B s d ek m : Nat} {P M S F G : Int} (hk : k < 256) (ha : a < 4294967296) (hs : s < 4294967296) (hd : d < 4294967296) (he : ek < 256) (hm : m < 9223372036854775808) (j : k = 3) (hT : ∀ W, Calls Tryz.prog 12 #[.agg #[.int .u8 (k : Int), .int .u32 (a : Int), .int .u8 (K : Int), .int .i64 P, .int .u32 (R : Int), .int .u8 (B : Int), .int .i64 M, .int .i32 S, .int .i64 F, .int .i64 G, .int .u32 (s : Int), .int .i32 (d : Int), .int .u8 (ek : Int), .int .i64 (m : Int)]] W (Ret (.bool true) W)) (w : World) : Calls Tryz.prog 9 #[.agg #[.int .u8 (k : Int), .int .u32 (a : Int), .int .u8 (K : Int), .int .i64 P, .int .u32 (R : Int), .int .u8 (B : Int), .int .i64 M, .int .i32 S, .int .i64 F, .int .i64 G, .int .u32 (s : Int), .int .i32 (d : Int), .int .u8 (ek : Int), .int .i64 (m : Int)]] w (DPost w ((([] ++ layN 0 k) ++ layN 0 a) ++ layN 0 s)) := by
  have j1 : ((k : Int) == 1) = false := by rw [beq_eq_false_iff_ne]; omega
  have j2 : ((k : Int) == 2) = false := by rw [beq_eq_false_iff_ne]; omega
  have j3 : ((k : Int) == 3) = true := by rw [beq_iff_eq]; omega
  clear j
  have HQ := Lib.hid (Blk.new w 32 #[.int .u8 (k : Int), .int .u32 (a : Int), .int .u8 (K : Int), .int .i64 P, .int .u32 (R : Int), .int .u8 (B : Int), .int .i64 M, .int .i32 S, .int .i64 F, .int .i64 G, .int .u32 (s : Int), .int .i32 (d : Int), .int .u8 (ek : Int), .int .i64 (m : Int)])
  have HB0 := Lib.hid (b_alloc w (.cells #[.int .u8 (k : Int), .int .u32 (a : Int), .int .u8 (K : Int), .int .i64 P, .int .u32 (R : Int), .int .u8 (B : Int), .int .i64 M, .int .i32 S, .int .i64 F, .int .i64 G, .int .u32 (s : Int), .int .i32 (d : Int), .int .u8 (ek : Int), .int .i64 (m : Int)] 32))
  go_enter Tryz.func9, Tryz.ntmps9
  go_wp2_with (with_reducible refine wpl_loadB (o := ⟨some 5, _, _, _, _, _⟩) rfl 32 (.tmp 1) rfl w.heap.size 0 rfl HQ.out #[.int .u8 (k : Int), .int .u32 (a : Int), .int .u8 (K : Int), .int .i64 P, .int .u32 (R : Int), .int .u8 (B : Int), .int .i64 M, .int .i32 S, .int .i64 F, .int .i64 G, .int .u32 (s : Int), .int .i32 (d : Int), .int .u8 (ek : Int), .int .i64 (m : Int)] ?g1 ?g2 ?_)
  case g1 => exact part_of (by rfl)
  case g2 => exact rowOr
  go_wp2_with fail
  refine (hT _).mono ?_
  rintro e w1 ⟨rfl, hb1⟩
  have HB1 := Lib.hid (HB0.out.trans (hb1.mono HB0.out.size))
  have HQ1 := Lib.hid (HQ.out.below hb1 HQ.out.lt)
  clear hb1 HQ HB0 hT
  go_upto_region 4 with (fail)
  have hnew := Qu.new (w := w1) (B := w1.heap.size) (Nat.le_refl _)
  have hent := HQ1.out.alloc (.cells #[.slice none 0 0] 66)
  have hbw := HB1.out.alloc HB1.out.size (.cells #[.slice none 0 0] 66)
  have hsz2 : w1.heap.size < (w1.alloc (.cells #[.slice none 0 0] 66)).heap.size := by simp
  have hbq := HQ1.out.lt
  have hwq := HB1.out.size
  obtain ⟨w2, hw2⟩ : ∃ W, w1.alloc (.cells #[.slice none 0 0] 66) = W := ⟨_, rfl⟩
  rw [hw2] at hnew hent hbw hsz2
  rw [hw2]
  obtain ⟨q, hq⟩ : ∃ q, w1.heap.size = q := ⟨_, rfl⟩
  rw [hq] at hnew hsz2 hbq hwq
  rw [hq]
  obtain ⟨b, hb⟩ : ∃ b, w.heap.size = b := ⟨_, rfl⟩
  rw [hb] at hent hbq
  rw [hb]
  have HWB := Lib.hid hb
  have HENT := Lib.hid hent
  have HBW := Lib.hid hbw
  have HSZ := Lib.hid (And.intro hsz2 (And.intro hbq hwq))
  have S0 : St w2 q q [] w2 := ⟨none, hnew, Stays.refl _ _, Far.refl _ _ _⟩
  have KC : ∀ (m1 : List UInt8) (W' : World), St w2 q q m1 W' → Blk W' b 32 #[.int .u8 (k : Int), .int .u32 (a : Int), .int .u8 (K : Int), .int .i64 P, .int .u32 (R : Int), .int .u8 (B : Int), .int .i64 M, .int .i32 S, .int .i64 F, .int .i64 G, .int .u32 (s : Int), .int .i32 (d : Int), .int .u8 (ek : Int), .int .i64 (m : Int)] := fun m1 W' h => h.blk HENT.out (by have := HSZ.out.2.1; omega)
  have KC2 : ∀ (m1 : List UInt8) (W' : World), St w2 q q m1 W' → W'.cell? ⟨b, 0, none⟩ = some (.int .u8 (k : Int)) ∧ W'.cell? ⟨b, 1, none⟩ = some (.int .u32 (a : Int)) := fun m1 W' h => by
    obtain ⟨c0, c1, -⟩ := blk14 (KC m1 W' h)
    exact ⟨c0, c1⟩
  have ik : IntKind.u64.wrap (k : Int) = (k : Int) := by rw [IntKind.wrap_u64]; omega
  have Ak : k < 18446744073709551616 := by omega
  have mk := layN_le 0 k Ak
  have ia : IntKind.u64.wrap (a : Int) = (a : Int) := by rw [IntKind.wrap_u64]; omega
  have Aa : a < 18446744073709551616 := by omega
  have ma := layN_le 0 a Aa
  have is : IntKind.u64.wrap (s : Int) = (s : Int) := by rw [IntKind.wrap_u64]; omega
  have As : s < 18446744073709551616 := by omega
  have ms := layN_le 0 s As
  have id : IntKind.u64.wrap (d : Int) = (d : Int) := by rw [IntKind.wrap_u64]; omega
  have Ad : d < 18446744073709551616 := by omega
  have md := layN_le 0 d Ad
  have iek : IntKind.u64.wrap (ek : Int) = (ek : Int) := by rw [IntKind.wrap_u64]; omega
  have Aek : ek < 18446744073709551616 := by omega
  have mek := layN_le 0 ek Aek
  have im : IntKind.u64.wrap (m : Int) = (m : Int) := by rw [IntKind.wrap_u64]; omega
  have Am : m < 18446744073709551616 := by omega
  have mm := layN_le 0 m Am
  clear hnew hent hbw hsz2 hbq hwq hw2 hq hb HQ1 HB1 hk ha hs hd he hm
  have V0 := S0.drew
  have LA0 : ([] : List UInt8).length ≤ 1000000 := by decide
  have LB0 : (([] : List UInt8) ++ layN 0 k).length ≤ 1000000 := by rw [List.nil_append]; omega
  go_region_held3 (fun W' => W'.cell? ⟨b, 0, none⟩ = some (.int .u8 (k : Int)) ∧ W'.cell? ⟨b, 1, none⟩ = some (.int .u32 (a : Int)))
    (first | exact KC2 _ _ Z0b | exact KC2 _ _ Z0a | exact KC2 _ _ V0)
    (first
      | (go_at_call 22; refine (cUintS Z0a a Aa LB0).mono ?_; rintro e w11 ⟨rfl, Z0b⟩)
      | (go_at_call 22; refine (cUintS V0 k Ak LA0).mono ?_; rintro e w10 ⟨rfl, Z0a⟩))
  have ZL1 : ((([] : List UInt8) ++ layN 0 k) ++ layN 0 a).length ≤ 18 := by rw [List.length_append, List.nil_append]; omega
  obtain ⟨X1, hX1⟩ : ∃ X, (([] : List UInt8) ++ layN 0 k) ++ layN 0 a = X := ⟨_, rfl⟩
  rw [hX1] at Z0b ZL1
  have HX1 := Lib.hid hX1
  clear hX1 Z0a V0 KC2 LA0 LB0 S0 ik ia Ak Aa mk ma
  have HK1 := Lib.hid (KC _ _ Z0b)
  have HKa := Lib.hid (HK1.out.alloc (.cells #[.int .u32 (s : Int), .int .i32 (d : Int), .int .u8 (ek : Int), .int .i64 (m : Int)] 30))
  obtain ⟨cc, -⟩ := blk14 HKa.out
  go_wp2_with (first | (with_reducible refine wpl_loadB (o := ⟨some 17, _, _, _, _, _⟩) rfl 30 (.tmp 16) rfl b 10 rfl HK1.out #[.int .u32 (s : Int), .int .i32 (d : Int), .int .u8 (ek : Int), .int .i64 (m : Int)] ?g3 ?g4 ?_))
  case g3 => exact part_of (by rfl)
  case g4 => exact rowEv
  clear cc HKa
  have HE6 := Lib.hid (Blk.new w11 30 #[.int .u32 (s : Int), .int .i32 (d : Int), .int .u8 (ek : Int), .int .i64 (m : Int)])
  have S6 := Z0b.alloc (.cells #[.int .u32 (s : Int), .int .i32 (d : Int), .int .u8 (ek : Int), .int .i64 (m : Int)] 30)
  obtain ⟨w6, hw6⟩ : ∃ W, w11.alloc (.cells #[.int .u32 (s : Int), .int .i32 (d : Int), .int .u8 (ek : Int), .int .i64 (m : Int)] 30) = W := ⟨_, rfl⟩
  rw [hw6] at S6 HE6
  rw [hw6]
  obtain ⟨g, hg⟩ : ∃ g, w11.heap.size = g := ⟨_, rfl⟩
  rw [hg] at HE6
  rw [hg]
  have HSZ6 : Hid (q < g) := Lib.hid (by
    have h := Z0b.size
    have := HSZ.out.1
    omega)
  clear hw6 hg Z0b HK1
  have LA1 : X1.length ≤ 1000000 := by omega
  refine (cUintS S6 s As LA1).mono ?_
  rintro e w7 ⟨rfl, S7⟩
  clear S6 HE6 KC
  have ZL2 : (X1 ++ layN 0 s).length ≤ 1000000 := by rw [List.length_append]; omega
  have hb9 := S7.below HBW.out (by have := HSZ.out; omega) (by have := HSZ.out; omega)
  have hsz9 := S7.size
  obtain ⟨r, h1, h2, h3⟩ := S7
  have HQD := Lib.hid (QDone_any q q r _ (by omega) _ h1)
  have HB9 := Lib.hid hb9
  have HZ9 := Lib.hid hsz9
  clear h1 h2 h3 hb9 hsz9
  go_wp2_with fail
  refine HQD.out.mono ?_
  rintro e w20 ⟨⟨A9, g9, rfl, hA9, hg9, hrg9⟩, hbd⟩
  have HPOST : Hid (DPost w ((([] ++ layN 0 k) ++ layN 0 a) ++ layN 0 s) (.returned (.slice A9 ((X1 ++ layN 0 s)).length ((X1 ++ layN 0 s)).length)) w20) := Lib.hid (by
    rw [HX1.out]
    have z1 := HB9.out.size
    exact ⟨⟨A9, g9, rfl, hA9, by omega, hrg9⟩, HB9.out.trans (hbd.mono z1)⟩)
  clear hA9 hg9 hrg9 hbd HQD
  go_wp2_with fail
  go_ret
  simpa using HPOST.out
set_option maxRecDepth 100000 in
set_option maxHeartbeats 4000000 in
theorem OBytes_4 {k a K R B s d ek m : Nat} {P M S F G : Int} (hk : k < 256) (ha : a < 4294967296) (hs : s < 4294967296) (hd : d < 4294967296) (he : ek < 256) (hm : m < 9223372036854775808) (j : k = 4) (hT : ∀ W, Calls Tryz.prog 12 #[.agg #[.int .u8 (k : Int), .int .u32 (a : Int), .int .u8 (K : Int), .int .i64 P, .int .u32 (R : Int), .int .u8 (B : Int), .int .i64 M, .int .i32 S, .int .i64 F, .int .i64 G, .int .u32 (s : Int), .int .i32 (d : Int), .int .u8 (ek : Int), .int .i64 (m : Int)]] W (Ret (.bool true) W)) (w : World) : Calls Tryz.prog 9 #[.agg #[.int .u8 (k : Int), .int .u32 (a : Int), .int .u8 (K : Int), .int .i64 P, .int .u32 (R : Int), .int .u8 (B : Int), .int .i64 M, .int .i32 S, .int .i64 F, .int .i64 G, .int .u32 (s : Int), .int .i32 (d : Int), .int .u8 (ek : Int), .int .i64 (m : Int)]] w (DPost w (([] ++ layN 0 k) ++ layN 0 a)) := by
  have j1 : ((k : Int) == 1) = false := by rw [beq_eq_false_iff_ne]; omega
  have j2 : ((k : Int) == 2) = false := by rw [beq_eq_false_iff_ne]; omega
  have j3 : ((k : Int) == 3) = false := by rw [beq_eq_false_iff_ne]; omega
  clear j
  have HQ := Lib.hid (Blk.new w 32 #[.int .u8 (k : Int), .int .u32 (a : Int), .int .u8 (K : Int), .int .i64 P, .int .u32 (R : Int), .int .u8 (B : Int), .int .i64 M, .int .i32 S, .int .i64 F, .int .i64 G, .int .u32 (s : Int), .int .i32 (d : Int), .int .u8 (ek : Int), .int .i64 (m : Int)])
  have HB0 := Lib.hid (b_alloc w (.cells #[.int .u8 (k : Int), .int .u32 (a : Int), .int .u8 (K : Int), .int .i64 P, .int .u32 (R : Int), .int .u8 (B : Int), .int .i64 M, .int .i32 S, .int .i64 F, .int .i64 G, .int .u32 (s : Int), .int .i32 (d : Int), .int .u8 (ek : Int), .int .i64 (m : Int)] 32))
  go_enter Tryz.func9, Tryz.ntmps9
  go_wp2_with (with_reducible refine wpl_loadB (o := ⟨some 5, _, _, _, _, _⟩) rfl 32 (.tmp 1) rfl w.heap.size 0 rfl HQ.out #[.int .u8 (k : Int), .int .u32 (a : Int), .int .u8 (K : Int), .int .i64 P, .int .u32 (R : Int), .int .u8 (B : Int), .int .i64 M, .int .i32 S, .int .i64 F, .int .i64 G, .int .u32 (s : Int), .int .i32 (d : Int), .int .u8 (ek : Int), .int .i64 (m : Int)] ?g1 ?g2 ?_)
  case g1 => exact part_of (by rfl)
  case g2 => exact rowOr
  go_wp2_with fail
  refine (hT _).mono ?_
  rintro e w1 ⟨rfl, hb1⟩
  have HB1 := Lib.hid (HB0.out.trans (hb1.mono HB0.out.size))
  have HQ1 := Lib.hid (HQ.out.below hb1 HQ.out.lt)
  clear hb1 HQ HB0 hT
  go_upto_region 4 with (fail)
  have hnew := Qu.new (w := w1) (B := w1.heap.size) (Nat.le_refl _)
  have hent := HQ1.out.alloc (.cells #[.slice none 0 0] 66)
  have hbw := HB1.out.alloc HB1.out.size (.cells #[.slice none 0 0] 66)
  have hsz2 : w1.heap.size < (w1.alloc (.cells #[.slice none 0 0] 66)).heap.size := by simp
  have hbq := HQ1.out.lt
  have hwq := HB1.out.size
  obtain ⟨w2, hw2⟩ : ∃ W, w1.alloc (.cells #[.slice none 0 0] 66) = W := ⟨_, rfl⟩
  rw [hw2] at hnew hent hbw hsz2
  rw [hw2]
  obtain ⟨q, hq⟩ : ∃ q, w1.heap.size = q := ⟨_, rfl⟩
  rw [hq] at hnew hsz2 hbq hwq
  rw [hq]
  obtain ⟨b, hb⟩ : ∃ b, w.heap.size = b := ⟨_, rfl⟩
  rw [hb] at hent hbq
  rw [hb]
  have HWB := Lib.hid hb
  have HENT := Lib.hid hent
  have HBW := Lib.hid hbw
  have HSZ := Lib.hid (And.intro hsz2 (And.intro hbq hwq))
  have S0 : St w2 q q [] w2 := ⟨none, hnew, Stays.refl _ _, Far.refl _ _ _⟩
  have KC : ∀ (m1 : List UInt8) (W' : World), St w2 q q m1 W' → Blk W' b 32 #[.int .u8 (k : Int), .int .u32 (a : Int), .int .u8 (K : Int), .int .i64 P, .int .u32 (R : Int), .int .u8 (B : Int), .int .i64 M, .int .i32 S, .int .i64 F, .int .i64 G, .int .u32 (s : Int), .int .i32 (d : Int), .int .u8 (ek : Int), .int .i64 (m : Int)] := fun m1 W' h => h.blk HENT.out (by have := HSZ.out.2.1; omega)
  have KC2 : ∀ (m1 : List UInt8) (W' : World), St w2 q q m1 W' → W'.cell? ⟨b, 0, none⟩ = some (.int .u8 (k : Int)) ∧ W'.cell? ⟨b, 1, none⟩ = some (.int .u32 (a : Int)) := fun m1 W' h => by
    obtain ⟨c0, c1, -⟩ := blk14 (KC m1 W' h)
    exact ⟨c0, c1⟩
  have ik : IntKind.u64.wrap (k : Int) = (k : Int) := by rw [IntKind.wrap_u64]; omega
  have Ak : k < 18446744073709551616 := by omega
  have mk := layN_le 0 k Ak
  have ia : IntKind.u64.wrap (a : Int) = (a : Int) := by rw [IntKind.wrap_u64]; omega
  have Aa : a < 18446744073709551616 := by omega
  have ma := layN_le 0 a Aa
  have is : IntKind.u64.wrap (s : Int) = (s : Int) := by rw [IntKind.wrap_u64]; omega
  have As : s < 18446744073709551616 := by omega
  have ms := layN_le 0 s As
  have id : IntKind.u64.wrap (d : Int) = (d : Int) := by rw [IntKind.wrap_u64]; omega
  have Ad : d < 18446744073709551616 := by omega
  have md := layN_le 0 d Ad
  have iek : IntKind.u64.wrap (ek : Int) = (ek : Int) := by rw [IntKind.wrap_u64]; omega
  have Aek : ek < 18446744073709551616 := by omega
  have mek := layN_le 0 ek Aek
  have im : IntKind.u64.wrap (m : Int) = (m : Int) := by rw [IntKind.wrap_u64]; omega
  have Am : m < 18446744073709551616 := by omega
  have mm := layN_le 0 m Am
  clear hnew hent hbw hsz2 hbq hwq hw2 hq hb HQ1 HB1 hk ha hs hd he hm
  have V0 := S0.drew
  have LA0 : ([] : List UInt8).length ≤ 1000000 := by decide
  have LB0 : (([] : List UInt8) ++ layN 0 k).length ≤ 1000000 := by rw [List.nil_append]; omega
  go_region_held3 (fun W' => W'.cell? ⟨b, 0, none⟩ = some (.int .u8 (k : Int)) ∧ W'.cell? ⟨b, 1, none⟩ = some (.int .u32 (a : Int)))
    (first | exact KC2 _ _ Z0b | exact KC2 _ _ Z0a | exact KC2 _ _ V0)
    (first
      | (go_at_call 22; refine (cUintS Z0a a Aa LB0).mono ?_; rintro e w11 ⟨rfl, Z0b⟩)
      | (go_at_call 22; refine (cUintS V0 k Ak LA0).mono ?_; rintro e w10 ⟨rfl, Z0a⟩))
  have ZL1 : ((([] : List UInt8) ++ layN 0 k) ++ layN 0 a).length ≤ 18 := by rw [List.length_append, List.nil_append]; omega
  obtain ⟨X1, hX1⟩ : ∃ X, (([] : List UInt8) ++ layN 0 k) ++ layN 0 a = X := ⟨_, rfl⟩
  rw [hX1] at Z0b ZL1
  have HX1 := Lib.hid hX1
  clear hX1 Z0a V0 KC2 LA0 LB0 S0 ik ia Ak Aa mk ma
  have HK1 := Lib.hid (KC _ _ Z0b)
  have HKa := Lib.hid (HK1.out.alloc (.cells #[.int .u32 (s : Int), .int .i32 (d : Int), .int .u8 (ek : Int), .int .i64 (m : Int)] 30))
  obtain ⟨cc, -⟩ := blk14 HKa.out
  go_wp2_with (first | (with_reducible refine wpl_loadB (o := ⟨some 17, _, _, _, _, _⟩) rfl 30 (.tmp 16) rfl b 10 rfl HK1.out #[.int .u32 (s : Int), .int .i32 (d : Int), .int .u8 (ek : Int), .int .i64 (m : Int)] ?g3 ?g4 ?_))
  case g3 => exact part_of (by rfl)
  case g4 => exact rowEv
  clear cc HKa
  have HE6 := Lib.hid (Blk.new w11 30 #[.int .u32 (s : Int), .int .i32 (d : Int), .int .u8 (ek : Int), .int .i64 (m : Int)])
  have S6 := Z0b.alloc (.cells #[.int .u32 (s : Int), .int .i32 (d : Int), .int .u8 (ek : Int), .int .i64 (m : Int)] 30)
  obtain ⟨w6, hw6⟩ : ∃ W, w11.alloc (.cells #[.int .u32 (s : Int), .int .i32 (d : Int), .int .u8 (ek : Int), .int .i64 (m : Int)] 30) = W := ⟨_, rfl⟩
  rw [hw6] at S6 HE6
  rw [hw6]
  obtain ⟨g, hg⟩ : ∃ g, w11.heap.size = g := ⟨_, rfl⟩
  rw [hg] at HE6
  rw [hg]
  have HSZ6 : Hid (q < g) := Lib.hid (by
    have h := Z0b.size
    have := HSZ.out.1
    omega)
  clear hw6 hg Z0b HK1
  clear HE6 KC
  have hb9 := S6.below HBW.out (by have := HSZ.out; omega) (by have := HSZ.out; omega)
  have hsz9 := S6.size
  obtain ⟨r, h1, h2, h3⟩ := S6
  have HQD := Lib.hid (QDone_any q q r _ (by omega) _ h1)
  have HB9 := Lib.hid hb9
  have HZ9 := Lib.hid hsz9
  clear h1 h2 h3 hb9 hsz9
  refine HQD.out.mono ?_
  rintro e w20 ⟨⟨A9, g9, rfl, hA9, hg9, hrg9⟩, hbd⟩
  have HPOST : Hid (DPost w (([] ++ layN 0 k) ++ layN 0 a) (.returned (.slice A9 (X1).length (X1).length)) w20) := Lib.hid (by
    rw [HX1.out]
    have z1 := HB9.out.size
    exact ⟨⟨A9, g9, rfl, hA9, by omega, hrg9⟩, HB9.out.trans (hbd.mono z1)⟩)
  clear hA9 hg9 hrg9 hbd HQD
  go_wp2_with fail
  go_ret
  simpa using HPOST.out
theorem OBytes_yes {o : Ord} (hi : o.In) (h : o.Right) (w : World) : Calls Tryz.prog 9 #[o.v] w (DPost w (layO o)) := by
  have hT := fun W => ORight_true h W
  obtain ⟨h0, h1, h2, h3, h4⟩ := h
  obtain ⟨ik, ia, it, ie, id, ie2, im⟩ := hi
  have hd : 0 ≤ o.e.d ∧ 0 ≤ o.e.m := by
    by_cases k2 : o.k = 2
    · obtain ⟨hd, hk⟩ := h2 k2
      omega
    · rw [h0]
      unfold Ord.named
      rw [if_neg k2]
      split
      · exact ⟨Int.le_refl _, Int.le_refl _⟩
      · split <;> exact ⟨Int.le_refl _, Int.le_refl _⟩
  by_cases k1 : o.k = 1
  · have hR := h1 k1
    have hT1 := layTm_len hR
    have cT := fun W => TBytes_yes hR W
    have hl : layO o = ((([] ++ layN 0 o.k) ++ layN 0 o.a) ++ layT (layTm o.t)) := by unfold layO; rw [if_pos k1]
    rw [hl]
    clear h0 h1 h2 h3 h4 hl hR it
    obtain ⟨k, a, ⟨K, P, R, B, M, S, F, G⟩, s, d, ek, m⟩ := o
    dsimp only at *
    obtain ⟨d, rfl⟩ : ∃ n : Nat, d = n := ⟨d.toNat, by omega⟩
    obtain ⟨m, rfl⟩ : ∃ n : Nat, m = n := ⟨m.toNat, by omega⟩
    exact OBytes_1 hT1.2 cT ik ia ie (by omega) ie2 (by omega) k1 hT w
  by_cases k2 : o.k = 2
  · have hl : layO o = ((((([] ++ layN 0 o.k) ++ layN 0 o.a) ++ layN 0 o.e.s) ++ layN 0 o.e.d.toNat) ++ layN 0 o.e.k) ++ layN 0 o.e.m.toNat := by unfold layO; rw [if_neg k1, if_pos k2]
    rw [hl]
    clear h0 h1 h2 h3 h4 hl it
    obtain ⟨k, a, ⟨K, P, R, B, M, S, F, G⟩, s, d, ek, m⟩ := o
    dsimp only at *
    obtain ⟨d, rfl⟩ : ∃ n : Nat, d = n := ⟨d.toNat, by omega⟩
    obtain ⟨m, rfl⟩ : ∃ n : Nat, m = n := ⟨m.toNat, by omega⟩
    exact OBytes_2 ik ia ie (by omega) ie2 (by omega) k2 hT w
  by_cases k3 : o.k = 3
  · have hl : layO o = (([] ++ layN 0 o.k) ++ layN 0 o.a) ++ layN 0 o.e.s := by unfold layO; rw [if_neg k1, if_neg k2, if_pos k3]
    rw [hl]
    clear h0 h1 h2 h3 h4 hl it
    obtain ⟨k, a, ⟨K, P, R, B, M, S, F, G⟩, s, d, ek, m⟩ := o
    dsimp only at *
    obtain ⟨d, rfl⟩ : ∃ n : Nat, d = n := ⟨d.toNat, by omega⟩
    obtain ⟨m, rfl⟩ : ∃ n : Nat, m = n := ⟨m.toNat, by omega⟩
    exact OBytes_3 ik ia ie (by omega) ie2 (by omega) k3 hT w
  · have hl : layO o = ([] ++ layN 0 o.k) ++ layN 0 o.a := by unfold layO; rw [if_neg k1, if_neg k2, if_neg k3]
    have k4 : o.k = 4 := by omega
    rw [hl]
    clear h0 h1 h2 h3 h4 hl it k1 k2 k3
    obtain ⟨k, a, ⟨K, P, R, B, M, S, F, G⟩, s, d, ek, m⟩ := o
    dsimp only at *
    obtain ⟨d, rfl⟩ : ∃ n : Nat, d = n := ⟨d.toNat, by omega⟩
    obtain ⟨m, rfl⟩ : ∃ n : Nat, m = n := ⟨m.toNat, by omega⟩
    exact OBytes_4 ik ia ie (by omega) ie2 (by omega) k4 hT w
end Go.Proofs.YtjlajnackecfgaaGreatDoor
