/-
  What chart.Parse reads is just what was laid. No condition.
  chart.Parse: what is read of any bytes. Conditions: the bytes are there.
-/
import Derived.Test.YtdknhjnbkmcicaaDoorLegE
import Derived.Test.YtdknhjnbkmcicaaDoorChFA
namespace Go.Proofs.YtdknhjnbkmcicaaDoor

theorem lgR_some (st : Option (List UInt8)) : ∀ (k : Nat) (r : List UInt8), (lgR st k).2 = some r → st = some (layGs (lgR st k).1 ++ r) := by
  intro k
  induction k with
  | zero => intro r h; exact h
  | succ k ih =>
    intro r h
    have h1 : iS (uS 255 (lgR st k).2) = some r := h
    obtain ⟨e1, -⟩ := iS_some h1
    obtain ⟨e2, -⟩ := uS_some e1
    have e3 := ih _ e2
    show st = some (layGs ((lgR st k).1 ++ [(uV 255 (lgR st k).2, iV (uS 255 (lgR st k).2))]) ++ r)
    rw [layGs_snoc, List.append_assoc, List.append_assoc]
    exact e3
theorem lgR_lay : ∀ (l : List (Nat × Int)) (_ : ∀ u ∈ l, LegIn u) (r : List UInt8), lgR (some (layGs l ++ r)) l.length = (l, some r) := by
  intro l
  induction l using snoc_ind with
  | h0 => intro _ r; rfl
  | h1 l u ih =>
    intro hl r
    have hu := hl u (by simp)
    rw [layGs_snoc, List.length_append, List.append_assoc, List.append_assoc]
    show lgR _ (l.length + 1) = _
    unfold lgR
    rw [ih (fun v hv => hl v (by simp [hv]))]
    obtain ⟨a1, a2⟩ := uS_lay (most := 255) (n := u.1) (r := layI u.2 ++ r) (by have := hu.1; omega) (by decide)
    obtain ⟨b1, b2⟩ := iS_lay (i := u.2) (r := r) hu.2
    simp only
    rw [a1, a2, b1, b2]
/-- What is read to its end is what was laid. -/
theorem parse_one {q : List UInt8} (h : (lgS (ky4 (some q))).2 = some []) : layE (kyR (some q)) (lgS (ky4 (some q))).1 = q := by
  have e1 := lgR_some _ _ _ h
  rw [List.append_nil] at e1
  obtain ⟨e2, -⟩ := uS_some e1
  obtain ⟨e3, -⟩ := uS_some (show uS 4294967295 (ky3 (some q)) = _ from e2)
  obtain ⟨e4, -⟩ := uS_some (show uS 255 (ky2 (some q)) = _ from e3)
  obtain ⟨e5, -⟩ := uS_some (show uS 3652058 (ky1 (some q)) = _ from e4)
  obtain ⟨e6, -⟩ := uS_some (show uS 4294967295 (some q) = _ from e5)
  injection e6 with e6
  have hn : (lgS (ky4 (some q))).1.length = uV 8 (ky4 (some q)) := lgR_len _ _
  unfold layE layKy
  rw [hn]
  conv => rhs; rw [e6]
  simp only [kyR, List.nil_append, List.append_assoc, Int.toNat_natCast]
  rfl
/-- What was laid is read. -/
theorem parse_lay (y : Ky) (l : List (Nat × Int)) (ha : y.a < 4294967296) (hd : 0 ≤ y.d ∧ y.d ≤ 3652058) (hk : y.k < 256) (hs : y.s < 4294967296) (hl : l.length ≤ 8) (hI : ∀ u ∈ l, LegIn u) :
    kyR (some (layE y l)) = y ∧ lgS (ky4 (some (layE y l))) = (l, some []) := by
  have e : layE y l = layN 0 y.a ++ (layN 0 y.d.toNat ++ (layN 0 y.k ++ (layN 0 y.s ++ (layN 0 l.length ++ (layGs l ++ []))))) := by
    unfold layE layKy
    simp only [List.nil_append, List.append_assoc, List.append_nil]
  rw [e]
  obtain ⟨a1, a2⟩ := uS_lay (most := 4294967295) (n := y.a) (r := layN 0 y.d.toNat ++ (layN 0 y.k ++ (layN 0 y.s ++ (layN 0 l.length ++ (layGs l ++ []))))) (by omega) (by decide)
  obtain ⟨b1, b2⟩ := uS_lay (most := 3652058) (n := y.d.toNat) (r := layN 0 y.k ++ (layN 0 y.s ++ (layN 0 l.length ++ (layGs l ++ [])))) (by omega) (by decide)
  obtain ⟨c1, c2⟩ := uS_lay (most := 255) (n := y.k) (r := layN 0 y.s ++ (layN 0 l.length ++ (layGs l ++ []))) (by omega) (by decide)
  obtain ⟨d1, d2⟩ := uS_lay (most := 4294967295) (n := y.s) (r := layN 0 l.length ++ (layGs l ++ [])) (by omega) (by decide)
  obtain ⟨f1, f2⟩ := uS_lay (most := 8) (n := l.length) (r := layGs l ++ []) hl (by decide)
  have g := lgR_lay l hI []
  unfold kyR ky4 ky3 ky2 ky1 lgS lgN
  rw [a1, b1, c1, d1, f1, a2, b2, c2, d2, f2, g]
  refine ⟨?_, rfl⟩
  rw [Int.toNat_of_nonneg hd.1]
end Go.Proofs.YtdknhjnbkmcicaaDoor
namespace Go.Proofs.YtdknhjnbkmcicaaDoor
open Go.ChangeShapes Go.WideShapes Go.ChangeAt Go.RowKit

def prY (q : List UInt8) : Ky := kyR (some q)
def prL (q : List UInt8) : List (Nat × Int) := (lgS (ky4 (some q))).1
def prB (q : List UInt8) : Bool := decide ((lgS (ky4 (some q))).2 = some []) && entB (prY q) (prL q)
def zeroC5 : Array Value := #[.int .u32 0, .int .i32 0, .int .u8 0, .int .u32 0, .slice Option.none 0 0]
def PaPost (q : List UInt8) (w : World) (e : Ending) (w' : World) : Prop :=
  (prB q = true → ∃ G, e = .returned (.tuple #[entV (prY q) (.slice (some ⟨G, 0, none⟩) (prL q).length (prL q).length), .nilIface]) ∧ Rs legT w' w'.heap.size (some ⟨G, 0, none⟩) (prL q)) ∧
  (prB q = false → e = .returned (.tuple #[.agg zeroC5, eno 2])) ∧ Below w.heap.size w w'
theorem prL_len (q : List UInt8) : (prL q).length ≤ 8 := by
  unfold prL lgS
  rw [lgR_len]
  exact uV_le 8 _
theorem prL_in (q : List UInt8) : ∀ u ∈ prL q, LegIn u := lgR_in _ _
theorem legs_rs {w : World} {G : Nat} {T : TypeId} {l : List (Nat × Int)} (h : Blk w G T (legsA l)) : Rs legT w w.heap.size (some ⟨G, 0, none⟩) l := fun _ =>
  ⟨G, 0, rfl, h.lt, fun j v hv i x hx => by
    rw [h.cell, Nat.zero_add]
    unfold legsA
    rw [List.getElem?_toArray]
    exact flatS_at (T := legT) l j v hv i x hx⟩
theorem fin_parse {w W : World} {T : Array Value} {q : List UInt8} {e : Value} {cs : Array Value} {g : Nat} (hB : Below w.heap.size w W) (hQ : Blk W g 32 cs) {c0 c1 c2 c3 c4 : Value} (hcs : cs = #[c0, c1, c2, c3, c4]) (h2 : T[2]? = some (.pointer (some ⟨g, 0, none⟩))) (h3 : T[3]? = some e)
    (hp : (prB q = true → ∃ G, Value.tuple #[.agg cs, e] = .tuple #[entV (prY q) (.slice (some ⟨G, 0, none⟩) (prL q).length (prL q).length), .nilIface] ∧ Rs legT W W.heap.size (some ⟨G, 0, none⟩) (prL q)) ∧ (prB q = false → Value.tuple #[.agg cs, e] = .tuple #[.agg zeroC5, eno 2])) :
    bodyPost Tryd.prog Tryd.f10 (PaPost q w) Exit.ret { tmps := T, defers := [] } W := by
  subst hcs
  have x0 := hQ.cell 0
  have x1 := hQ.cell 1
  have x2 := hQ.cell 2
  have x3 := hQ.cell 3
  have x4 := hQ.cell 4
  simp at x0 x1 x2 x3 x4
  refine bodyPost_ret (v := .tuple #[.agg #[c0, c1, c2, c3, c4], e]) ?_ rfl ⟨fun h => ?_, fun h => ?_, hB⟩
  · simp [results, Tryd.results10, go_sem, h2, h3, x0, x1, x2, x3, x4, Result.andThen]
  · obtain ⟨G, h5, h6⟩ := hp.1 h
    exact ⟨G, by rw [h5], h6⟩
  · rw [hp.2 h]
set_option maxRecDepth 100000 in
set_option maxHeartbeats 4000000 in
theorem Parse_any (A : Option Addr) (n c Bd : Nat) (q : List UInt8) (w : World) (hR : Rd w Bd A q) (hn : q.length = n) (hm : n ≤ 1000000) (hB : Bd ≤ w.heap.size) (hA : A = none → n = 0 ∧ c = 0) :
    Calls Tryd.prog 10 #[.slice A n c] w (PaPost q w) := by
  obtain ⟨g0, hg0⟩ : ∃ g, w.heap.size = g := ⟨_, rfl⟩
  obtain ⟨w1, hw1⟩ : ∃ W, w.alloc (.cells zeroC5 32) = W := ⟨_, rfl⟩
  have hq0 := Blk.new w 32 zeroC5
  have hb0 := b_alloc w (.cells zeroC5 32)
  have hR1 := hR.below (hb0.mono hB)
  rw [hw1] at hq0 hb0 hR1
  have hL := Look_any A n c Bd q w1 hR1 hn hm (Nat.le_trans hB hb0.size) hA
  rw [hg0] at hq0
  have HW := Lib.hid (And.intro hw1 hg0)
  have HQ0 := Lib.hid hq0
  have HB0 := Lib.hid hb0
  have HL := Lib.hid hL
  have hg1 : w.heap.size ≤ g0 := by omega
  have HG1 := Lib.hid hg1
  unfold zeroC5 at HW
  clear hw1 hg0 hq0 hb0 hR1 hL hR hn hA hg1
  go_enter Tryd.func10, Tryd.ntmps10
  go_upto_region 1 with (fail)
  rw [HW.out.1, HW.out.2]
  go_wp2_with fail
  refine HL.out.mono ?_
  rintro e w2 ⟨b, g, rfl, hb, hg, hgs, hln, hbl⟩
  have HLN := Lib.hid hln
  have HBG : Hid (w.heap.size ≤ b ∧ g0 < b ∧ g < w2.heap.size) := Lib.hid ⟨Nat.le_trans HB0.out.size hb, Nat.lt_of_lt_of_le HQ0.out.lt hb, hgs⟩
  have HQ2 := Lib.hid (HQ0.out.below hbl HQ0.out.lt)
  have HB2 := Lib.hid (HB0.out.trans (hbl.mono HB0.out.size))
  clear hb hg hgs hln hbl HL HQ0 HB0 HW
  go_wp2_with fail
  refine (RKey_any b g (some q) w2 HLN.out HBG.out.2.2).mono ?_
  rintro e w3 ⟨rfl, hl3, hf3⟩
  have HL3 := Lib.hid hl3
  have HQ3 := Lib.hid (HQ2.out.past hf3 (by have := HBG.out.2.1; omega) (by simp))
  have HB3 := Lib.hid (hf3.to_below HB2.out HB2.out.size HBG.out.1 (by simp))
  have HG3 : Hid (g < w3.heap.size) := Lib.hid (Nat.lt_of_lt_of_le HBG.out.2.2 hf3.2.2.2.1)
  clear hl3 hf3 HLN HQ2 HB2
  obtain ⟨y, hy⟩ : ∃ y, kyR (some q) = y := ⟨_, rfl⟩
  rw [hy]
  have HY := Lib.hid hy
  clear hy
  unfold Ky.v
  go_wp2_with fail
  refine (RLegs_any b g (ky4 (some q)) w3 HL3.out HG3.out).mono ?_
  rintro e w4 ⟨G, hG, rfl, hbk, hl4, hf4⟩
  have hGg : g0 < G := Nat.lt_of_lt_of_le HQ3.out.lt hG
  have HGG := Lib.hid hGg
  clear hGg hG
  have hLN : lgN (ky4 (some q)) = (prL q).length := by unfold prL lgS; rw [lgR_len]
  rw [hLN]
  have hP : prB q = (decide ((lgS (ky4 (some q))).2 = some []) && entB y (prL q)) := by unfold prB prY; rw [HY.out]
  have hbk2 : Blk w4 G 56 (legsA (prL q)) := hbk
  obtain ⟨s5, hs5⟩ : ∃ s, (lgS (ky4 (some q))).2 = s := ⟨_, rfl⟩
  rw [hs5] at hl4 hP
  have hl8 := prL_len q
  have hI := prL_in q
  obtain ⟨l, hl⟩ : ∃ l, prL q = l := ⟨_, rfl⟩
  rw [hl] at hbk2 hl8 hI hP
  rw [hl]
  have HQ4 := Lib.hid (HQ3.out.past hf4 (by have := HBG.out.2.1; omega) (by simp))
  have HB4 := Lib.hid (hf4.to_below HB3.out HB3.out.size HBG.out.1 (by simp))
  have hq5 := HQ4.out.alloc (.cells #[.int .u32 (y.a : Int), .int .i32 y.d, .int .u8 (y.k : Int), .int .u32 (y.s : Int), .slice (some ⟨G, 0, none⟩) l.length l.length] 32)
  have hb5 := HB4.out.alloc HB4.out.size (.cells #[.int .u32 (y.a : Int), .int .i32 y.d, .int .u8 (y.k : Int), .int .u32 (y.s : Int), .slice (some ⟨G, 0, none⟩) l.length l.length] 32)
  have hl5 := hl4.alloc (.cells #[.int .u32 (y.a : Int), .int .i32 y.d, .int .u8 (y.k : Int), .int .u32 (y.s : Int), .slice (some ⟨G, 0, none⟩) l.length l.length] 32)
  have he5 := Blk.new w4 32 #[.int .u32 (y.a : Int), .int .i32 y.d, .int .u8 (y.k : Int), .int .u32 (y.s : Int), .slice (some ⟨G, 0, none⟩) l.length l.length]
  have hk5 := hbk2.alloc (.cells #[.int .u32 (y.a : Int), .int .i32 y.d, .int .u8 (y.k : Int), .int .u32 (y.s : Int), .slice (some ⟨G, 0, none⟩) l.length l.length] 32)
  obtain ⟨w5, hw5⟩ : ∃ W, w4.alloc (.cells #[.int .u32 (y.a : Int), .int .i32 y.d, .int .u8 (y.k : Int), .int .u32 (y.s : Int), .slice (some ⟨G, 0, none⟩) l.length l.length] 32) = W := ⟨_, rfl⟩
  obtain ⟨g5, hg5⟩ : ∃ g, w4.heap.size = g := ⟨_, rfl⟩
  rw [hw5] at hq5 hb5 hl5 he5 hk5
  rw [hg5] at he5
  have HW5 := Lib.hid (And.intro hw5 hg5)
  have HQ5 := Lib.hid hq5
  have HB5 := Lib.hid hb5
  have HE5 := Lib.hid he5
  have HK5 := Lib.hid hk5
  have HS := Lib.hid (And.intro hs5 hl)
  have HI := Lib.hid hI
  have HP := Lib.hid hP
  have HEND := Lib.hid (LEnd_any b g s5 w5 hl5)
  clear hq5 hb5 hl5 he5 hk5 hw5 hg5 hs5 hl hI hP hbk hbk2 hl4 hf4 HQ3 HB3 HQ4 HB4 HL3 HG3 hLN
  go_upto_region 3 with (fail)
  rw [HW5.out.1, HW5.out.2]
  by_cases hst : s5 = some []
  · have hEnd := HEND.out
    rw [if_pos hst] at hEnd
    have HEN := Lib.hid hEnd
    have hR := Right_any13 y (some ⟨G, 0, none⟩) l.length l.length w5.heap.size l w5 (legs_rs HK5.out) rfl (by omega) (Nat.le_refl _) HI.out
    unfold entV entC at hR
    have hP2 := HP.out
    rw [decide_eq_true hst, Bool.true_and] at hP2
    rw [← hP2] at hR
    have HR := Lib.hid hR
    have x0 := HE5.out.cell 0
    have x1 := HE5.out.cell 1
    have x2 := HE5.out.cell 2
    have x3 := HE5.out.cell 3
    have x4 := HE5.out.cell 4
    simp at x0 x1 x2 x3 x4
    clear hEnd hst HEND hR hP2
    go_wp2_with fail
    refine HEN.out.mono ?_
    rintro e w6 ⟨rfl, rfl⟩
    go_wp2_with fail
    refine HR.out.mono ?_
    rintro e w7 ⟨rfl, hb7⟩
    have HQ7 := Lib.hid (HQ5.out.below hb7 HQ5.out.lt)
    have HE7 := Lib.hid (HE5.out.below hb7 HE5.out.lt)
    have HK7 := Lib.hid (HK5.out.below hb7 HK5.out.lt)
    have HB7 := Lib.hid (HB5.out.trans (hb7.mono HB5.out.size))
    clear hb7 HR HEN HQ5 HE5 HK5 HB5 x0 x1 x2 x3 x4
    have x0 := HE7.out.cell 0
    have x1 := HE7.out.cell 1
    have x2 := HE7.out.cell 2
    have x3 := HE7.out.cell 3
    have x4 := HE7.out.cell 4
    simp at x0 x1 x2 x3 x4
    have d0 := HQ7.out.cell 0
    have d1 := HQ7.out.cell 1
    have d2 := HQ7.out.cell 2
    have d3 := HQ7.out.cell 3
    have d4 := HQ7.out.cell 4
    unfold zeroC5 at d0 d1 d2 d3 d4
    simp at d0 d1 d2 d3 d4
    have e0 := HQ7.out.frozen 0
    have e1 := HQ7.out.frozen 1
    have e2 := HQ7.out.frozen 2
    have e3 := HQ7.out.frozen 3
    have e4 := HQ7.out.frozen 4
    have lz := HQ7.out.lt
    cases hp : prB q with
    | true =>
      have HPR := Lib.hid hp
      clear hp
      go_wp2_with fail
      refine fin_parse (cs := #[.int .u32 (y.a : Int), .int .i32 y.d, .int .u8 (y.k : Int), .int .u32 (y.s : Int), .slice (some ⟨G, 0, none⟩) l.length l.length]) (g := g0) ?_ (set5c (by have := HQ7.out; unfold zeroC5 at this; exact this) _ _ _ _ _) rfl rfl rfl ⟨fun _ => ⟨G, ?_, ?_⟩, fun h => ?_⟩
      · exact below_set5c HB7.out HG1.out _ _ _ _ _
      · unfold entV entC prY
        rw [HY.out, HS.out.2]
        rfl
      · rw [HS.out.2]
        have hne : G ≠ g0 := by have := HGG.out; omega
        exact legs_rs (((((HK7.out.far hne _).far hne _).far hne _).far hne _).far hne _)
      · rw [HPR.out] at h
        cases h
    | false =>
      have HPR := Lib.hid hp
      clear hp
      go_wp2_with fail
      refine fin_parse (cs := zeroC5) (g := g0) ?_ (set5c (by have := HQ7.out; unfold zeroC5 at this; exact this) _ _ _ _ _) rfl rfl rfl ⟨fun h => ?_, fun _ => rfl⟩
      · exact below_set5c HB7.out HG1.out _ _ _ _ _
      · rw [HPR.out] at h
        cases h
  · have hEnd := HEND.out
    rw [if_neg hst] at hEnd
    have HEN := Lib.hid hEnd
    have hP2 := HP.out
    rw [decide_eq_false hst, Bool.false_and] at hP2
    have HP2 := Lib.hid hP2
    clear hEnd hst HEND hP2 HP
    go_wp2_with fail
    refine HEN.out.mono ?_
    rintro e w6 ⟨rfl, rfl⟩
    have d0 := HQ5.out.cell 0
    have d1 := HQ5.out.cell 1
    have d2 := HQ5.out.cell 2
    have d3 := HQ5.out.cell 3
    have d4 := HQ5.out.cell 4
    unfold zeroC5 at d0 d1 d2 d3 d4
    simp at d0 d1 d2 d3 d4
    have e0 := HQ5.out.frozen 0
    have e1 := HQ5.out.frozen 1
    have e2 := HQ5.out.frozen 2
    have e3 := HQ5.out.frozen 3
    have e4 := HQ5.out.frozen 4
    have lz := HQ5.out.lt
    go_wp2_with fail
    refine fin_parse (cs := zeroC5) (g := g0) ?_ (set5c (by have := HQ5.out; unfold zeroC5 at this; exact this) _ _ _ _ _) rfl rfl rfl ⟨fun h => ?_, fun _ => rfl⟩
    · exact below_set5c HB5.out HG1.out _ _ _ _ _
    · rw [HP2.out] at h
      cases h
end Go.Proofs.YtdknhjnbkmcicaaDoor
