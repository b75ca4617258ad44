/-
chart.Make: an entry of legs. Conditions: the rows are there.
The law's key and own: as the document has them. Conditions: the rows are there.
The reference's Live, walked. Conditions: the ledger is there.
The reference's Post, walked. Conditions: the ledger is there; the legs are there.
The reference's Reverse, walked. Conditions: the ledger is there.
-/
import Derived.Test.YtdnnkdldolhbpaaGreatDoorChCX9
import Derived.Test.YtdnnkdldolhbpaaGreatDoorChHX9
import Derived.Maps.Ext
import Derived.Test.YtdnnkdldolhbpaaGreatDoorLrFX9
import Derived.Test.YtdnnkdldolhbpaaGreatDoorLedMX9
namespace Go.Proofs.YtdnnkdldolhbpaaGreatDoor
open Go.ChangeShapes Go.WideShapes Go.ChangeAt Go.RowKit Go.Maps

def MakePost (y : Ky) (L : List (Nat × Int)) (w : World) (e : Ending) (w' : World) : Prop :=
  ∃ (A : Option Addr) (c : Nat), e = .returned (entV y (.slice A (mkL L).length c)) ∧ OwnS legT 53 w' w.heap.size (.slice A (mkL L).length c) (mkL L).length (mkL L) ∧ Below w.heap.size w w'
set_option maxRecDepth 100000 in
theorem fin_make {w W : World} {T : Array Value} {y : Ky} {L : List (Nat × Int)} {A : Option Addr} {c g : Nat} (hB : Below w.heap.size w W) (hQ : Blk W g 40 (entC y (.slice A (mkL L).length c)))
    (hO : OwnS legT 53 W w.heap.size (.slice A (mkL L).length c) (mkL L).length (mkL L)) (h2 : T[4]? = some (.pointer (some ⟨g, 0, none⟩))) :
    bodyPost Tryz.prog Tryz.f25 (MakePost y L w) Exit.ret { tmps := T, defers := [] } W := by
  have c0 := hQ.cell 0
  have c1 := hQ.cell 1
  have c2 := hQ.cell 2
  have c3 := hQ.cell 3
  have c4 := hQ.cell 4
  unfold entC at c0 c1 c2 c3 c4
  simp at c0 c1 c2 c3 c4
  refine bodyPost_ret (v := entV y (.slice A (mkL L).length c)) ?_ rfl ⟨A, c, rfl, hO, hB⟩
  unfold entV entC
  simp [results, Tryz.results25, go_sem, h2, c0, c1, c2, c3, c4, Result.andThen]
set_option maxRecDepth 100000 in
set_option maxHeartbeats 4000000 in
theorem Make_no (y : Ky) (A : Option Addr) (n c B : Nat) (L : List (Nat × Int)) (w : World) (hR : Rs legT w B A L) (hn : L.length = n) (hm : n ≤ 1000) (hB : B ≤ w.heap.size) (hI : ∀ u ∈ L, LegIn u) (hok : ¬ okL L) :
    Calls Tryz.prog 25 #[y.v, .slice A n c] w (MakePost y L w) := by
  have hmk := mkL_no hok
  have hA := fun W (h : Below w.heap.size w W) => Added_any A n c B L W (hR.below (h.mono hB)) hn (by omega) (Nat.le_trans hB h.size) hI
  have HQ0 := Lib.hid ((Blk.new w 33 #[.int .u32 (y.a : Int), .int .i32 y.d, .int .u8 (y.k : Int), .int .u32 (y.s : Int)]).alloc (.cells #[.int .u32 0, .int .i32 0, .int .u8 0, .int .u32 0, .slice Option.none 0 0] 40))
  have HE0 : Hid (Blk ((w.alloc (.cells #[.int .u32 (y.a : Int), .int .i32 y.d, .int .u8 (y.k : Int), .int .u32 (y.s : Int)] 33)).alloc (.cells #[.int .u32 0, .int .i32 0, .int .u8 0, .int .u32 0, .slice Option.none 0 0] 40)) (w.heap.size + 1) 40 #[.int .u32 0, .int .i32 0, .int .u8 0, .int .u32 0, .slice Option.none 0 0]) := Lib.hid (by
    have h := Blk.new (w.alloc (.cells #[.int .u32 (y.a : Int), .int .i32 y.d, .int .u8 (y.k : Int), .int .u32 (y.s : Int)] 33)) 40 #[.int .u32 0, .int .i32 0, .int .u8 0, .int .u32 0, .slice Option.none 0 0]
    rw [show (w.alloc (.cells #[.int .u32 (y.a : Int), .int .i32 y.d, .int .u8 (y.k : Int), .int .u32 (y.s : Int)] 33)).heap.size = w.heap.size + 1 by simp] at h
    exact h)
  have HB0 := Lib.hid ((b_alloc w (.cells #[.int .u32 (y.a : Int), .int .i32 y.d, .int .u8 (y.k : Int), .int .u32 (y.s : Int)] 33)).alloc (by simp) (.cells #[.int .u32 0, .int .i32 0, .int .u8 0, .int .u32 0, .slice Option.none 0 0] 40))
  unfold Ky.v
  clear hR hI
  go_enter Tryz.func25, Tryz.ntmps25
  go_wp2_with fail
  refine (hA _ HB0.out).mono ?_
  rintro e w1 ⟨_, h2, hb1⟩
  obtain rfl := h2 hok
  have HQ1 := Lib.hid (HQ0.out.below hb1 HQ0.out.lt)
  have HE1 := Lib.hid (HE0.out.below hb1 HE0.out.lt)
  have HB1 := Lib.hid (HB0.out.trans (hb1.mono HB0.out.size))
  clear hb1 h2 hA hok
  have c0 := HQ1.out.cell 0
  have c1 := HQ1.out.cell 1
  have c2 := HQ1.out.cell 2
  have c3 := HQ1.out.cell 3
  have e0 := HE1.out.cell 0
  have e1 := HE1.out.cell 1
  have e2 := HE1.out.cell 2
  have e3 := HE1.out.cell 3
  have e4 := HE1.out.cell 4
  have f0 := HE1.out.frozen 0
  have f1 := HE1.out.frozen 1
  have f2 := HE1.out.frozen 2
  have f3 := HE1.out.frozen 3
  have f4 := HE1.out.frozen 4
  simp at c0 c1 c2 c3 e0 e1 e2 e3 e4 f0 f1 f2 f3 f4
  unfold eno
  go_wp2_with fail
  refine fin_make (A := Option.none) (c := 0) (g := w.heap.size + 1) ?_ ?_ ?_ rfl
  · exact below_set5c HB1.out (by omega) _ _ _ _ _
  · rw [hmk]
    exact set5c HE1.out _ _ _ _ _
  · rw [hmk]
    exact OwnS.nil_ _ _ _
/-- The ranging: these accounts have come, the others are still to come. -/
def Met (L : List (Nat × Int)) (R : List Nat) (left : Lit → Bool) : Prop := R.Nodup ∧ (∀ a : Nat, a ∈ R ↔ (hasA L a = true ∧ left (.int .u8 (a : Int)) = false))
theorem Met.start {D : DataW Unit} {L : List (Nat × Int)} (h : Is13 D L) : Met L [] (Maps.has D) := ⟨List.nodup_nil, fun a => by rw [h.2.1]; cases hasA L a <;> simp⟩
theorem Met.step {L : List (Nat × Int)} {R : List Nat} {left : Lit → Bool} {a : Nat} (h : Met L R left) (hl : left (.int .u8 (a : Int)) = true) (hh : hasA L a = true) : Met L (R ++ [a]) (fun z => left z && !z.sameKey (.int .u8 (a : Int))) := by
  obtain ⟨h1, h2⟩ := h
  have hna : a ∉ R := fun h => by
    have := ((h2 a).1 h).2
    rw [hl] at this
    cases this
  refine ⟨List.nodup_append.2 ⟨h1, by simp, fun x hx z hz => ?_⟩, fun b => ?_⟩
  · rw [List.mem_singleton.1 hz]
    exact fun e => hna (e ▸ hx)
  · rw [List.mem_append, List.mem_singleton, h2]
    by_cases e : b = a
    · subst e
      simp [hh, Lit.sameKey]
    · have : (Lit.int .u8 (b : Int)).sameKey (.int .u8 (a : Int)) = false := Maps.sameKey_ne (key_ne (fun h => e h.symm))
      simp [e, this]
theorem Met.end_ {L : List (Nat × Int)} {R : List Nat} {left : Lit → Bool} (h : Met L R left) (hl : ∀ kl, left kl = false) (hI : ∀ u ∈ L, LegIn u) : R.mergeSort (fun x y => decide (x ≤ y)) = keysA L :=
  sorted_keys h.1 (fun a => by rw [h.2, hl]; simp) (fun g hg => (hI g hg).1) _ (fun _ _ => rfl)
theorem Met.few {L : List (Nat × Int)} {R : List Nat} {left : Lit → Bool} (h : Met L R left) : R.length ≤ L.length := keys_few h.1 (fun a ha => ((h.2 a).1 ha).1)
set_option maxRecDepth 100000 in
set_option maxHeartbeats 4000000 in
theorem Make_ok (y : Ky) (A : Option Addr) (n c B : Nat) (L : List (Nat × Int)) (w : World) (hR : Rs legT w B A L) (hn : L.length = n) (hm : n ≤ 1000) (hB : B ≤ w.heap.size) (hI : ∀ u ∈ L, LegIn u) (hok : okL L) :
    Calls Tryz.prog 25 #[y.v, .slice A n c] w (MakePost y L w) := by
  have hmk := mkL_ok hok
  have HIN := Lib.hid hI
  subst hn
  have hA := fun W (h : Below w.heap.size w W) => Added_any A _ c B L W (hR.below (h.mono hB)) rfl (by omega) (Nat.le_trans hB h.size) hI
  have HQ0 := Lib.hid ((Blk.new w 33 #[.int .u32 (y.a : Int), .int .i32 y.d, .int .u8 (y.k : Int), .int .u32 (y.s : Int)]).alloc (.cells #[.int .u32 0, .int .i32 0, .int .u8 0, .int .u32 0, .slice Option.none 0 0] 40))
  have HE0 : Hid (Blk ((w.alloc (.cells #[.int .u32 (y.a : Int), .int .i32 y.d, .int .u8 (y.k : Int), .int .u32 (y.s : Int)] 33)).alloc (.cells #[.int .u32 0, .int .i32 0, .int .u8 0, .int .u32 0, .slice Option.none 0 0] 40)) (w.heap.size + 1) 40 #[.int .u32 0, .int .i32 0, .int .u8 0, .int .u32 0, .slice Option.none 0 0]) := Lib.hid (by
    have h := Blk.new (w.alloc (.cells #[.int .u32 (y.a : Int), .int .i32 y.d, .int .u8 (y.k : Int), .int .u32 (y.s : Int)] 33)) 40 #[.int .u32 0, .int .i32 0, .int .u8 0, .int .u32 0, .slice Option.none 0 0]
    rw [show (w.alloc (.cells #[.int .u32 (y.a : Int), .int .i32 y.d, .int .u8 (y.k : Int), .int .u32 (y.s : Int)] 33)).heap.size = w.heap.size + 1 by simp] at h
    exact h)
  have HB0 := Lib.hid ((b_alloc w (.cells #[.int .u32 (y.a : Int), .int .i32 y.d, .int .u8 (y.k : Int), .int .u32 (y.s : Int)] 33)).alloc (by simp) (.cells #[.int .u32 0, .int .i32 0, .int .u8 0, .int .u32 0, .slice Option.none 0 0] 40))
  unfold Ky.v
  clear hR hI
  go_enter Tryz.func25, Tryz.ntmps25
  go_wp2_with fail
  refine (hA _ HB0.out).mono ?_
  rintro e w1 ⟨h1, _, hb1⟩
  obtain ⟨D, rfl, hown, his⟩ := h1 hok
  rw [show ((w.alloc (.cells #[.int .u32 (y.a : Int), .int .i32 y.d, .int .u8 (y.k : Int), .int .u32 (y.s : Int)] 33)).alloc (.cells #[.int .u32 0, .int .i32 0, .int .u8 0, .int .u32 0, .slice Option.none 0 0] 40)).heap.size = w.heap.size + 2 by simp] at hown
  have HQ1 := Lib.hid (HQ0.out.below hb1 HQ0.out.lt)
  have HE1 := Lib.hid (HE0.out.below hb1 HE0.out.lt)
  have HB1 := Lib.hid (HB0.out.trans (hb1.mono HB0.out.size))
  have hz1 : w.heap.size + 2 ≤ w1.heap.size := by have := hb1.size; simpa using this
  have HIS := Lib.hid his
  have hmb := hown.lt
  clear hb1 h1 hA hok his
  have c0 := HQ1.out.cell 0
  have c1 := HQ1.out.cell 1
  have c2 := HQ1.out.cell 2
  have c3 := HQ1.out.cell 3
  simp at c0 c1 c2 c3
  have HMO := Lib.hid (hown.alloc (.cells #[.int .u32 (y.a : Int), .int .i32 y.d, .int .u8 (y.k : Int), .int .u32 (y.s : Int), .slice Option.none 0 0] 40))
  have HE2 := Lib.hid (HE1.out.alloc (.cells #[.int .u32 (y.a : Int), .int .i32 y.d, .int .u8 (y.k : Int), .int .u32 (y.s : Int), .slice Option.none 0 0] 40))
  have HN2 := Lib.hid (Blk.new w1 40 #[.int .u32 (y.a : Int), .int .i32 y.d, .int .u8 (y.k : Int), .int .u32 (y.s : Int), .slice Option.none 0 0])
  have HB2 := Lib.hid (HB1.out.alloc HB1.out.size (.cells #[.int .u32 (y.a : Int), .int .i32 y.d, .int .u8 (y.k : Int), .int .u32 (y.s : Int), .slice Option.none 0 0] 40))
  obtain ⟨W, hW⟩ : ∃ W, w1.alloc (.cells #[.int .u32 (y.a : Int), .int .i32 y.d, .int .u8 (y.k : Int), .int .u32 (y.s : Int), .slice Option.none 0 0] 40) = W := ⟨_, rfl⟩
  have hWs : W.heap.size = w1.heap.size + 1 := by rw [← hW]; simp
  rw [hW] at HMO HE2 HN2 HB2
  have HWW := Lib.hid hW
  have HWs := Lib.hid hWs
  clear hown hW hWs
  go_wp2_with (at_range; rw [HWW.out]; refine wpList_range_own _ rfl _ 123 rfl 5 51 lawK Tryz.underlying123 _ (w.heap.size + 2) L.length _ rfl HMO.out ?_; intro w3 hrg3 hg3 hs3)
  go_frame
  have HE3 := Lib.hid (HE2.out.grown hg3 (by simp))
  have HN3 := Lib.hid (HN2.out.grown hg3 (by simp))
  have HB3 := Lib.hid (HB2.out.grown hg3 HB2.out.size (fun j hj => by cases hj))
  have HR3 := Lib.hid hrg3
  clear hrg3 hg3 hs3 HMO c0 c1 c2 c3
  go_loopw [8, 9] (fun _ _ wr => ∃ (R : List Nat) (left : Lit → Bool) (cnt : Nat) (v : Value), Hid (Met L R left) ∧ Hid (wr.ranges Tryz.prog 5 (plainElem Tryz.prog 51) (w.heap.size + 2) W.heap.size L.length D left cnt) ∧ Hid (Blk wr w1.heap.size 40 #[.int .u32 (y.a : Int), .int .i32 y.d, .int .u8 (y.k : Int), .int .u32 (y.s : Int), v]) ∧ Hid (Blk wr (w.heap.size + 1) 40 #[.int .u32 0, .int .i32 0, .int .u8 0, .int .u32 0, .slice Option.none 0 0]) ∧ Hid (OwnS legT 53 wr w.heap.size v R.length (R.map (rowA L))) ∧ Hid (Below w.heap.size w wr))
    (fun _ _ wr => wr.rangeLeft (w.heap.size + 2) W.heap.size)
  case atStart => exact ⟨[], _, _, .slice Option.none 0 0, Lib.hid (Met.start HIS.out), HR3, HN3, HE3, Lib.hid (OwnS.nil_ _ _ _), HB3⟩
  case round =>
    obtain ⟨R, left, cnt, v, HM, HR, HN, HE, HO, HBL⟩ := hrel
    have hfew := HM.out.few
    go_wp2_with (at_next; refine wpList_next_ranges_ii _ rfl _ rfl 5 51 .u8 .i64 lawK Tryz.underlying5 Tryz.underlying51 (w.heap.size + 2) W.heap.size L.length _ _ _ rfl HR.out ?_ ?_)
    · intro _ hl0
      have HS := Lib.hid (HM.out.end_ hl0 HIN.out)
      have hNe := HO.out.ne_blk HN.out entNe
      have hEe := HO.out.ne_blk HE.out entNe
      have HNE := Lib.hid hNe
      have HEE := Lib.hid hEe
      have n4 := HN.out.cell 4
      simp at n4
      clear hl0 hNe hEe
      rcases HO.out.2 with ⟨hv, hr0⟩ | ⟨g, cap, cur, hv, hbg, _, hncap, _, _, _⟩
      · obtain rfl : R = [] := List.eq_nil_of_length_eq_zero hr0
        subst hv
        clear hr0
        have hSn := fun W => AnyF.slices_SortFunc_none Tryz.sortLeg Option.none 0 (.func (.func 54) #[] #[]) W
        replace hSn : ∀ W, Calls Tryz.prog 53 #[.slice Option.none 0 0, .func (.func 54) #[] #[]] W fun e w' => e = .returned (.tuple #[]) ∧ w' = W := hSn
        go_wp2_with fail
        refine (hSn _).mono ?_
        rintro e w5 ⟨rfl, rfl⟩
        clear hSn n4
        have d0 := HN.out.cell 0
        have d1 := HN.out.cell 1
        have d2 := HN.out.cell 2
        have d3 := HN.out.cell 3
        have d4 := HN.out.cell 4
        simp at d0 d1 d2 d3 d4
        have e0 := HE.out.cell 0
        have e1 := HE.out.cell 1
        have e2 := HE.out.cell 2
        have e3 := HE.out.cell 3
        have e4 := HE.out.cell 4
        have ef0 := HE.out.frozen 0
        have ef1 := HE.out.frozen 1
        have ef2 := HE.out.frozen 2
        have ef3 := HE.out.frozen 3
        have ef4 := HE.out.frozen 4
        simp at e0 e1 e2 e3 e4 ef0 ef1 ef2 ef3 ef4
        go_wp2_with fail
        have hm0 : mkL L = [] := by rw [hmk, ← HS.out]; simp
        refine fin_make (A := Option.none) (c := 0) (g := w.heap.size + 1) ?_ ?_ ?_ rfl
        · exact below_set5c HBL.out (by omega) _ _ _ _ _
        · rw [hm0]
          exact set5c HE.out _ _ _ _ _
        · rw [hm0]
          exact OwnS.nil_ _ _ _
      · subst hv
        have hSo := Sort_any L R wr w.heap.size g R.length cap HO.out (by omega)
        clear hncap
        go_wp2_with fail
        refine hSo.mono ?_
        rintro e w5 ⟨rfl, ho5, hg5⟩
        rw [HS.out] at ho5
        have hgn : w1.heap.size ≠ g := fun e => HNE.out (by rw [← e]; rfl)
        have hge : w.heap.size + 1 ≠ g := fun e => HEE.out (by rw [← e]; rfl)
        have HN := Lib.hid (HN.out.grown hg5 (fun e => hgn (Option.some.inj e)))
        have HE := Lib.hid (HE.out.grown hg5 (fun e => hge (Option.some.inj e)))
        have HO5 := Lib.hid ho5
        have HB5 := Lib.hid (HBL.out.grown hg5 HBL.out.size (fun j hj => by cases hj; exact hbg))
        have HKL := Lib.hid (show ((keysA L).map (rowA L)).length = R.length by rw [← HS.out]; simp)
        clear hSo ho5 hg5 n4 hgn
        have d0 := HN.out.cell 0
        have d1 := HN.out.cell 1
        have d2 := HN.out.cell 2
        have d3 := HN.out.cell 3
        have d4 := HN.out.cell 4
        simp at d0 d1 d2 d3 d4
        have e0 := HE.out.cell 0
        have e1 := HE.out.cell 1
        have e2 := HE.out.cell 2
        have e3 := HE.out.cell 3
        have e4 := HE.out.cell 4
        have ef0 := HE.out.frozen 0
        have ef1 := HE.out.frozen 1
        have ef2 := HE.out.frozen 2
        have ef3 := HE.out.frozen 3
        have ef4 := HE.out.frozen 4
        simp at e0 e1 e2 e3 e4 ef0 ef1 ef2 ef3 ef4
        go_wp2_with fail
        refine fin_make (A := some ⟨g, 0, none⟩) (c := cap) (g := w.heap.size + 1) ?_ ?_ ?_ rfl
        · exact below_set5c HB5.out (by omega) _ _ _ _ _
        · rw [hmk, HKL.out]
          exact set5c HE.out _ _ _ _ _
        · rw [hmk, HKL.out]
          exact OwnS.set5 HO5.out HEE.out _ _ _ _ _
    · intro x cc w4 cnt4 hwx hwc hlx hat hrg4 hlt4 hg4 hs4 hen
      obtain ⟨a, rfl, ha⟩ := wf_u8 hwx
      have hh : hasA L a = true := by rw [← HIS.out.2.1 a]; exact has_true_of_atKey hat
      have hcc : cc = sumA L a := by
        have h1 := (hat (.lit (.int .i64 0))).symm.trans (HIS.out.2.2 a)
        injection h1 with h1
        injection h1 with _ h1
      have HM4 := Lib.hid (HM.out.step hlx hh)
      have hir := HO.out.ne_iter HR.out
      have HR4 := Lib.hid (hrg4.alloc (.cells #[.int .u8 (a : Int), .int .i64 cc] 53))
      have HN4 := Lib.hid ((HN.out.grown hg4 (fun e => by have h1 := HR.out.lt; have h2 := HWs.out; injection e with e; omega)).alloc (.cells #[.int .u8 (a : Int), .int .i64 cc] 53))
      have HE4 := Lib.hid ((HE.out.grown hg4 (fun e => by have h2 := HWs.out; injection e with e; omega)).alloc (.cells #[.int .u8 (a : Int), .int .i64 cc] 53))
      have HO4' := HO.out.grown hg4 (.inl (fun e => hir e.symm))
      have HO4 := Lib.hid (HO4'.alloc (.cells #[.int .u8 (a : Int), .int .i64 cc] 53))
      have hb4 := HBL.out.grown hg4 HBL.out.size (fun j hj => by cases hj; have h2 := HWs.out; omega)
      have HB4 := Lib.hid (hb4.alloc hb4.size (.cells #[.int .u8 (a : Int), .int .i64 cc] 53))
      have HL := Lib.hid (Rs.block (T := legT) (u := (a, cc)) (Blk.new w4 53 #[.int .u8 (a : Int), .int .i64 cc]))
      have HRW := Lib.hid (show R.map (rowA L) ++ [(a, cc)] = (R ++ [a]).map (rowA L) by rw [hcc]; simp [rowA])
      have hsz4 := hb4.size
      have HLT := Lib.hid hlt4
      have HMS := Lib.hid HR.out.left_eq
      have n4 := (HN.out.grown hg4 (fun e => by have h1 := HR.out.lt; have h2 := HWs.out; injection e with e; omega)).cell 4
      simp at n4
      clear hrg4 hg4 hs4 hat hlx hwx hwc hh hcc hir HO4' hb4 hlt4
      go_wp2_with (with_reducible refine wpList_appendS (o := ⟨some 34, _, _, _, _, _⟩) rfl rowLeg (.tmp 29) (.tmp 33) rfl w.heap.size _ R.length (R.map (rowA L)) ?h1 HO4.out _ (some ⟨w4.heap.size, 0, none⟩) 1 1 [(a, cc)] ?h2 HL.out rfl ?h3 ?h4 ?h5 ?_)
      try (case h1 => rfl)
      try (case h2 => rfl)
      try (case h3 => unfold maxLen; omega)
      try (case h4 => omega)
      try (case h5 => first | omega | (simp; omega))
      intro v5 w5 ho5 hg5 _ _
      rw [HRW.out] at ho5
      obtain ⟨_, A5, c5, rfl, _, _, _⟩ := ho5.form (by decide)
      have hN5 := HN4.out.grown hg5 (fun e => HO4.out.ne_blk HN4.out entNe e.symm)
      have hE5 := HE4.out.grown hg5 (fun e => HO4.out.ne_blk HE4.out entNe e.symm)
      have hR5 := HR4.out.kept hg5 (fun e => HO4.out.ne_map HR4.out.owns e.symm) (fun e => HO4.out.ne_iter HR4.out e.symm)
      have hb5 := HB4.out.grown hg5 HB4.out.size (fun j hj => (HO4.out.lt j hj).1)
      have hne5 := ho5.ne_blk hN5 entNe
      have HO5 := Lib.hid (ho5.grown (grown_set w5 w1.heap.size 4 (.slice A5 (R.length + 1) c5)) (.inl (fun e => hne5 e.symm)))
      have HN5 := Lib.hid (hN5.set_ 4 (.slice A5 (R.length + 1) c5))
      have HE5 := Lib.hid (hE5.grown (grown_set w5 w1.heap.size 4 (.slice A5 (R.length + 1) c5)) (fun e => by injection e with e; omega))
      have HR5 := Lib.hid (hR5.kept (grown_set w5 w1.heap.size 4 (.slice A5 (R.length + 1) c5)) (fun e => by injection e with e; omega) (fun e => by have h2 := HWs.out; injection e with e; omega))
      have HB5 := Lib.hid (hb5.setCell (by show w.heap.size ≤ w1.heap.size; omega) (.slice A5 (R.length + 1) c5) (p := ⟨w1.heap.size, 4, none⟩))
      have p4 := hN5.cell 4
      have q4 := hN5.frozen 4
      simp at p4 q4
      clear ho5 hg5 hN5 hE5 hR5 hb5 hne5 n4 HO4 HR4 HN4 HE4 HB4 HL
      go_wp2_with fail
      go_roundw
      case rel => exact ⟨R ++ [a], _, cnt4, _, HM4, HR5, HN5, HE5, Lib.hid (by rw [List.length_append]; exact HO5.out), HB5⟩
      case measure => rw [HR5.out.left_eq, HMS.out]; exact HLT.out
end Go.Proofs.YtdnnkdldolhbpaaGreatDoor
namespace Go.Proofs.YtdnnkdldolhbpaaGreatDoor
open Go.ChangeShapes Go.WideShapes Go.ChangeAt Go.RowKit

theorem Make_any (y : Ky) (A : Option Addr) (n c B : Nat) (L : List (Nat × Int)) (w : World) (hR : Rs legT w B A L) (hn : L.length = n) (hm : n ≤ 1000) (hB : B ≤ w.heap.size) (hI : ∀ u ∈ L, LegIn u) :
    Calls Tryz.prog 25 #[y.v, .slice A n c] w (MakePost y L w) := by
  by_cases h : okL L
  · exact Make_ok y A n c B L w hR hn hm hB hI h
  · exact Make_no y A n c B L w hR hn hm hB hI h
theorem mkL_in (L : List (Nat × Int)) : ∀ u ∈ mkL L, LegIn u := by
  intro u hu
  by_cases h : okL L
  · rw [mkL_ok h] at hu
    obtain ⟨a, ha, rfl⟩ := List.mem_map.1 hu
    exact ⟨(keysA_mem.1 ha).1, sumA_fit L a⟩
  · rw [mkL_no h] at hu
    cases hu
theorem mkL_len (L : List (Nat × Int)) : (mkL L).length ≤ 256 := by
  by_cases h : okL L
  · rw [mkL_ok h, List.length_map]
    have := keysTo_len L 256
    exact this
  · rw [mkL_no h]
    exact Nat.zero_le _
set_option maxRecDepth 100000 in
theorem fin_key {w W : World} {T : Array Value} {y : Ky} {g : Nat} (hB : Below w.heap.size w W) (hQ : Blk W g 74 #[.int .u32 (y.a : Int), .int .i32 y.d, .int .u8 (y.k : Int), .int .u32 (y.s : Int)]) (h2 : T[2]? = some (.pointer (some ⟨g, 0, none⟩))) :
    bodyPost Tryz.prog Tryz.f27 (Ret y.v w) Exit.ret { tmps := T, defers := [] } W := by
  have c0 := hQ.cell 0
  have c1 := hQ.cell 1
  have c2 := hQ.cell 2
  have c3 := hQ.cell 3
  simp at c0 c1 c2 c3
  refine bodyPost_ret (v := y.v) ?_ rfl ⟨rfl, hB⟩
  unfold Ky.v
  simp [results, Tryz.results27, go_sem, h2, c0, c1, c2, c3, Result.andThen]
set_option maxRecDepth 100000 in
set_option maxHeartbeats 4000000 in
theorem Key_any (y : Ky) (w : World) : Calls Tryz.prog 27 #[y.v] w (Ret y.v w) := by
  unfold Ky.v
  have HQ0 := Lib.hid ((Blk.new w 33 #[.int .u32 (y.a : Int), .int .i32 y.d, .int .u8 (y.k : Int), .int .u32 (y.s : Int)]).alloc (.cells #[.int .u32 (y.a : Int), .int .i32 y.d, .int .u8 (y.k : Int), .int .u32 (y.s : Int)] 74))
  have HB0 := Lib.hid ((b_alloc w (.cells #[.int .u32 (y.a : Int), .int .i32 y.d, .int .u8 (y.k : Int), .int .u32 (y.s : Int)] 33)).alloc (by simp) (.cells #[.int .u32 (y.a : Int), .int .i32 y.d, .int .u8 (y.k : Int), .int .u32 (y.s : Int)] 74))
  have HE0 : Hid (Blk ((w.alloc (.cells #[.int .u32 (y.a : Int), .int .i32 y.d, .int .u8 (y.k : Int), .int .u32 (y.s : Int)] 33)).alloc (.cells #[.int .u32 (y.a : Int), .int .i32 y.d, .int .u8 (y.k : Int), .int .u32 (y.s : Int)] 74)) (w.heap.size + 1) 74 #[.int .u32 (y.a : Int), .int .i32 y.d, .int .u8 (y.k : Int), .int .u32 (y.s : Int)]) := Lib.hid (by
    have h := Blk.new (w.alloc (.cells #[.int .u32 (y.a : Int), .int .i32 y.d, .int .u8 (y.k : Int), .int .u32 (y.s : Int)] 33)) 74 #[.int .u32 (y.a : Int), .int .i32 y.d, .int .u8 (y.k : Int), .int .u32 (y.s : Int)]
    rw [show (w.alloc (.cells #[.int .u32 (y.a : Int), .int .i32 y.d, .int .u8 (y.k : Int), .int .u32 (y.s : Int)] 33)).heap.size = w.heap.size + 1 by simp] at h
    exact h)
  go_enter Tryz.func27, Tryz.ntmps27
  go_wp2_with fail
  exact fin_key (y := y) HB0.out HE0.out rfl
def OwnPost13 (y : Ky) (l : List (Nat × Int)) (w : World) (e : Ending) (w' : World) : Prop :=
  ∃ (A : Option Addr) (c : Nat), e = .returned (entV y (.slice A l.length c)) ∧ OwnS legT 130 w' w.heap.size (.slice A l.length c) l.length l ∧ Below w.heap.size w w'
set_option maxRecDepth 100000 in
theorem fin_own {w W : World} {T : Array Value} {y : Ky} {l : List (Nat × Int)} {A : Option Addr} {c g : Nat} (hB : Below w.heap.size w W) (hQ : Blk W g 77 (entC y (.slice A l.length c)))
    (hO : OwnS legT 130 W w.heap.size (.slice A l.length c) l.length l) (h2 : T[2]? = some (.pointer (some ⟨g, 0, none⟩))) :
    bodyPost Tryz.prog Tryz.f29 (OwnPost13 y l w) Exit.ret { tmps := T, defers := [] } W := by
  unfold entC at hQ
  have c0 := hQ.cell 0
  have c1 := hQ.cell 1
  have c2 := hQ.cell 2
  have c3 := hQ.cell 3
  have c4 := hQ.cell 4
  simp at c0 c1 c2 c3 c4
  refine bodyPost_ret (v := entV y (.slice A l.length c)) ?_ rfl ⟨A, c, rfl, hO, hB⟩
  unfold entV entC
  simp [results, Tryz.results29, go_sem, h2, c0, c1, c2, c3, c4, Result.andThen]
theorem rentNe : (77 : TypeId) ≠ 130 := by decide
set_option maxRecDepth 100000 in
set_option maxHeartbeats 4000000 in
theorem Own_any (y : Ky) (A : Option Addr) (n c B : Nat) (l : List (Nat × Int)) (w : World) (hR : Rs legT w B A l) (hn : l.length = n) (hm : n ≤ 100000) (hB : B ≤ w.heap.size) (hI : ∀ u ∈ l, LegIn u) :
    Calls Tryz.prog 29 #[entV y (.slice A n c)] w (OwnPost13 y l w) := by
  subst hn
  have hK := fun W => Key_any y W
  have HR := Lib.hid hR
  have HI := Lib.hid hI
  clear hR hI
  unfold Ky.v at hK
  unfold entV entC
  have HQ0 := Lib.hid ((Blk.new w 40 #[.int .u32 (y.a : Int), .int .i32 y.d, .int .u8 (y.k : Int), .int .u32 (y.s : Int), .slice A l.length c]).alloc (.cells #[.int .u32 0, .int .i32 0, .int .u8 0, .int .u32 0, .slice Option.none 0 0] 77))
  have HE0 : Hid (Blk ((w.alloc (.cells #[.int .u32 (y.a : Int), .int .i32 y.d, .int .u8 (y.k : Int), .int .u32 (y.s : Int), .slice A l.length c] 40)).alloc (.cells #[.int .u32 0, .int .i32 0, .int .u8 0, .int .u32 0, .slice Option.none 0 0] 77)) (w.heap.size + 1) 77 #[.int .u32 0, .int .i32 0, .int .u8 0, .int .u32 0, .slice Option.none 0 0]) := Lib.hid (by
    have h := Blk.new (w.alloc (.cells #[.int .u32 (y.a : Int), .int .i32 y.d, .int .u8 (y.k : Int), .int .u32 (y.s : Int), .slice A l.length c] 40)) 77 #[.int .u32 0, .int .i32 0, .int .u8 0, .int .u32 0, .slice Option.none 0 0]
    rw [show (w.alloc (.cells #[.int .u32 (y.a : Int), .int .i32 y.d, .int .u8 (y.k : Int), .int .u32 (y.s : Int), .slice A l.length c] 40)).heap.size = w.heap.size + 1 by simp] at h
    exact h)
  have HB0 := Lib.hid ((b_alloc w (.cells #[.int .u32 (y.a : Int), .int .i32 y.d, .int .u8 (y.k : Int), .int .u32 (y.s : Int), .slice A l.length c] 40)).alloc (by simp) (.cells #[.int .u32 0, .int .i32 0, .int .u8 0, .int .u32 0, .slice Option.none 0 0] 77))
  go_enter Tryz.func29, Tryz.ntmps29
  go_wp2_with fail
  refine (hK _).mono ?_
  rintro e w1 ⟨rfl, hb1⟩
  have HQ1 := Lib.hid (HQ0.out.below hb1 HQ0.out.lt)
  have HE1 := Lib.hid (HE0.out.below hb1 HE0.out.lt)
  have HB1 := Lib.hid (HB0.out.trans (hb1.mono HB0.out.size))
  have hz1 : w.heap.size + 2 ≤ w1.heap.size := by have := hb1.size; simpa using this
  have HE2 := Lib.hid (HE1.out.alloc (.cells #[.int .u32 (y.a : Int), .int .i32 y.d, .int .u8 (y.k : Int), .int .u32 (y.s : Int), .slice Option.none 0 0] 77))
  have HN2 := Lib.hid (Blk.new w1 77 #[.int .u32 (y.a : Int), .int .i32 y.d, .int .u8 (y.k : Int), .int .u32 (y.s : Int), .slice Option.none 0 0])
  have HB2 := Lib.hid (HB1.out.alloc HB1.out.size (.cells #[.int .u32 (y.a : Int), .int .i32 y.d, .int .u8 (y.k : Int), .int .u32 (y.s : Int), .slice Option.none 0 0] 77))
  have c4 := HQ1.out.cell 4
  simp at c4
  have hz0 : w.heap.size < w1.heap.size := by omega
  clear hb1 hK
  go_wp2_with fail
  clear c4
  go_loopw [5, 13] (fun _ i wr => ∃ (k : Nat) (v : Value), k ≤ l.length ∧ i = .int .i64 k ∧ Hid (Blk wr w1.heap.size 77 #[.int .u32 (y.a : Int), .int .i32 y.d, .int .u8 (y.k : Int), .int .u32 (y.s : Int), v]) ∧ Hid (Blk wr (w.heap.size + 1) 77 #[.int .u32 0, .int .i32 0, .int .u8 0, .int .u32 0, .slice Option.none 0 0]) ∧ Hid (OwnS legT 130 wr w.heap.size v k (l.take k)) ∧ Hid (Below w.heap.size w wr)) (fun _ i _ => l.length - (intOf i).toNat)
  case atStart => exact ⟨0, .slice Option.none 0 0, Nat.zero_le _, rfl, HN2, HE2, Lib.hid (OwnS.nil_ _ _ _), HB2⟩
  case round =>
    obtain ⟨k, v, hk, rfl, HN, HE, HO, HBL⟩ := hrel
    by_cases hlt : k < l.length
    · obtain ⟨b1, o1, rfl, hb1, d0, d1⟩ := HR.out.leg hlt
      have d0 := (HBL.out.cell (p := ⟨b1, o1 + k * 2, none⟩) (by exact Nat.lt_of_lt_of_le hb1 hB)).trans d0
      have d1 := (HBL.out.cell (p := ⟨b1, o1 + k * 2 + 1, none⟩) (by exact Nat.lt_of_lt_of_le hb1 hB)).trans d1
      obtain ⟨x0, y0, y1⟩ := HI.out _ (List.getElem_mem hlt)
      obtain ⟨x, hx⟩ : ∃ x, (l[k]).1 = x := ⟨_, rfl⟩
      obtain ⟨z, hz⟩ : ∃ z, (l[k]).2 = z := ⟨_, rfl⟩
      have hg : l[k] = (x, z) := Prod.ext hx hz
      rw [hx] at d0 x0
      rw [hz] at d1 y0 y1
      have HT := Lib.hid (show l.take k ++ [(x, z)] = l.take (k + 1) from by rw [List.take_succ_eq_append_getElem hlt, hg])
      have hsz := HBL.out.size
      have HO4 := Lib.hid ((HO.out.alloc (.cells #[.int .u8 (x : Int), .int .i64 z] 53)).alloc (.cells #[.int .u8 (x : Int), .int .i64 z] 130))
      have HN4 := Lib.hid ((HN.out.alloc (.cells #[.int .u8 (x : Int), .int .i64 z] 53)).alloc (.cells #[.int .u8 (x : Int), .int .i64 z] 130))
      have HE4 := Lib.hid ((HE.out.alloc (.cells #[.int .u8 (x : Int), .int .i64 z] 53)).alloc (.cells #[.int .u8 (x : Int), .int .i64 z] 130))
      have HB4 := Lib.hid ((HBL.out.alloc hsz (.cells #[.int .u8 (x : Int), .int .i64 z] 53)).alloc (by simp; omega) (.cells #[.int .u8 (x : Int), .int .i64 z] 130))
      have HL := Lib.hid (Rs.block (T := legT) (u := (x, z)) (Blk.new (wr.alloc (.cells #[.int .u8 (x : Int), .int .i64 z] 53)) 130 #[.int .u8 (x : Int), .int .i64 z]))
      rw [show (wr.alloc (.cells #[.int .u8 (x : Int), .int .i64 z] 53)).heap.size = wr.heap.size + 1 by simp] at HL
      have n4 := HN.out.cell 4
      have nl := HN.out.lt
      simp at n4
      clear hx hz hg HN HE HO HBL
      go_wp2_with (with_reducible refine wpList_appendS (o := ⟨some 25, _, _, _, _, _⟩) rfl rowRLeg (.tmp 18) (.tmp 24) rfl w.heap.size _ k (l.take k) ?h1 HO4.out _ (some ⟨wr.heap.size + 1, 0, none⟩) 1 1 [(x, z)] ?h2 HL.out rfl ?h3 ?h4 ?h5 ?_)
      try (case h1 => rfl)
      try (case h2 => rfl)
      try (case h3 => unfold maxLen; omega)
      try (case h4 => omega)
      try (case h5 => first | omega | (simp; omega))
      intro v5 w5 ho5 hg5 _ _
      rw [HT.out] at ho5
      obtain ⟨_, A5, c5, rfl, _, _, _⟩ := ho5.form (by decide)
      have hN5 := HN4.out.grown hg5 (fun e => HO4.out.ne_blk HN4.out rentNe e.symm)
      have hE5 := HE4.out.grown hg5 (fun e => HO4.out.ne_blk HE4.out rentNe e.symm)
      have hb5 := HB4.out.grown hg5 HB4.out.size (fun j hj => (HO4.out.lt j hj).1)
      have hne5 := ho5.ne_blk hN5 rentNe
      have HO5 := Lib.hid (ho5.grown (grown_set w5 w1.heap.size 4 (.slice A5 (k + 1) c5)) (.inl (fun e => hne5 e.symm)))
      have HN5 := Lib.hid (hN5.set_ 4 (.slice A5 (k + 1) c5))
      have HE5 := Lib.hid (hE5.grown (grown_set w5 w1.heap.size 4 (.slice A5 (k + 1) c5)) (fun e => by injection e with e; omega))
      have HB5 := Lib.hid (hb5.setCell (by show w.heap.size ≤ w1.heap.size; omega) (.slice A5 (k + 1) c5) (p := ⟨w1.heap.size, 4, none⟩))
      have p4 := hN5.cell 4
      have q4 := hN5.frozen 4
      simp at p4 q4
      clear ho5 hg5 hN5 hE5 hb5 hne5 n4 HO4 HN4 HE4 HB4 HL d0 d1
      go_wp2_with fail
      go_roundw
      case rel => exact ⟨k + 1, _, by omega, by go_num, HN5, HE5, HO5, HB5⟩
      case measure => simp [intOf]; omega
    · obtain rfl : k = l.length := by omega
      rw [List.take_length] at HO
      obtain ⟨_, A5, c5, rfl, _, _, _⟩ := HO.out.form (by decide)
      have HEE := Lib.hid (HO.out.ne_blk HE.out rentNe)
      have d0 := HN.out.cell 0
      have d1 := HN.out.cell 1
      have d2 := HN.out.cell 2
      have d3 := HN.out.cell 3
      have d4 := HN.out.cell 4
      simp at d0 d1 d2 d3 d4
      have e0 := HE.out.cell 0
      have e1 := HE.out.cell 1
      have e2 := HE.out.cell 2
      have e3 := HE.out.cell 3
      have e4 := HE.out.cell 4
      have ef0 := HE.out.frozen 0
      have ef1 := HE.out.frozen 1
      have ef2 := HE.out.frozen 2
      have ef3 := HE.out.frozen 3
      have ef4 := HE.out.frozen 4
      simp at e0 e1 e2 e3 e4 ef0 ef1 ef2 ef3 ef4
      go_wp2_with fail
      refine fin_own (A := A5) (c := c5) (g := w.heap.size + 1) ?_ ?_ ?_ rfl
      · exact below_set5c HBL.out (by omega) _ _ _ _ _
      · exact set5c HE.out _ _ _ _ _
      · exact OwnS.set5 HO.out HEE.out _ _ _ _ _
end Go.Proofs.YtdnnkdldolhbpaaGreatDoor
namespace Go.Proofs.YtdnnkdldolhbpaaGreatDoor
open Go.ChangeShapes Go.WideShapes Go.ChangeAt Go.RowKit Go.Maps

set_option maxRecDepth 100000 in
set_option maxHeartbeats 8000000 in
theorem RLive_any (X : Nat) (E : Nat → Prop) (M : List Li) (y : Ky) (hy : y.In) (w : World) (h : RefL w X E M) (hT : Tame M) : Calls Tryz.prog 56 #[.pointer (some ⟨X, 0, none⟩), y.v] w (Ret (.int .i64 (outZ (liveL M y))) w) := by
  unfold Ky.v
  obtain ⟨KV, hKV⟩ : ∃ KV : Array Value, KV = #[.int .u32 (y.a : Int), .int .i32 y.d, .int .u8 (y.k : Int), .int .u32 (y.s : Int)] := ⟨_, rfl⟩
  have HQ0 := Lib.hid (Blk.new w 74 KV)
  have HB0 := Lib.hid (b_alloc w (.cells KV 74))
  have HL0 := h.below HB0.out
  obtain ⟨A, c, V, hX, hc, hm, hV, hE, hEl⟩ := HL0
  subst hKV
  have x0 := hX.cell 0
  simp at x0
  obtain ⟨W0, hW⟩ : ∃ W, w.alloc (.cells #[.int .u32 (y.a : Int), .int .i32 y.d, .int .u8 (y.k : Int), .int .u32 (y.s : Int)] 74) = W := ⟨_, rfl⟩
  have HW := Lib.hid hW
  rw [hW] at HQ0 HB0 x0 hV hX hEl
  have HV := Lib.hid hV
  have HT := Lib.hid hT
  have hlen := hT.len
  clear hW hV hT h hX hE hEl
  go_enter Tryz.func56, Tryz.ntmps56
  go_upto_region 2 with (fail)
  rw [HW.out]
  clear HW
  go_wp2_with fail
  have HS0 := Lib.hid (HB0.out.size)
  go_loopw [5, 6, 7, 13] (fun v _ _ i wr => ∃ (k : Nat), k ≤ M.length ∧ i = .int .i64 k ∧ v = .int .i64 (outZ (liveL (M.take k) y)) ∧ Hid (Blk wr w.heap.size 74 #[.int .u32 (y.a : Int), .int .i32 y.d, .int .u8 (y.k : Int), .int .u32 (y.s : Int)]) ∧ Hid (Below W0.heap.size W0 wr)) (fun _ _ _ i _ => M.length - (intOf i).toNat)
  case atStart => exact ⟨0, Nat.zero_le _, rfl, rfl, HQ0, Lib.hid (Below.refl _ _)⟩
  case round =>
    obtain ⟨k, hk, rfl, rfl, HQ, HBL⟩ := hrel
    by_cases hlt : k < M.length
    · obtain ⟨b, o, P, cp, rfl, hb1, -, d0, d1, d2, d3, d4, d5⟩ := HV.out.line hlt
      have hcell : ∀ {p : Addr} {v : Value}, p.block = b → W0.cell? p = some v → wr.cell? p = some v := fun hp hv => (HBL.out.cell (by rw [hp]; exact hb1)).trans hv
      have d0 := hcell rfl d0
      have d1 := hcell rfl d1
      have d2 := hcell rfl d2
      have d3 := hcell rfl d3
      have d4 := hcell rfl d4
      have d5 := hcell rfl d5
      clear hcell
      have hst := liveF_take y M hlt
      obtain ⟨x, hx⟩ : ∃ x, M[k] = x := ⟨_, rfl⟩
      have hin := HT.out.inn x (by rw [← hx]; exact List.getElem_mem hlt)
      rw [hx] at d0 d1 d2 d3 d4 d5 hst
      obtain ⟨out, hout⟩ : ∃ out, liveL (M.take k) y = out := ⟨_, rfl⟩
      have hol : ∀ i, out = some i → i < k := fun i hi => by
        have := liveL_lt (hout.trans hi)
        rw [List.length_take_of_le (Nat.le_of_lt hlt)] at this
        exact this
      rw [hout] at hst ⊢
      have HST := Lib.hid hst
      have hxo := hin.2.2.2
      obtain ⟨⟨xa, xd, xk, xs⟩, xl, xo⟩ := x
      simp only at d0 d1 d2 d3 d4 d5 hxo
      have HQ1 := Lib.hid (HQ.out.alloc (.cells #[.int .u32 (xa : Int), .int .i32 xd, .int .u8 (xk : Int), .int .u32 (xs : Int), .slice P xl.length cp, .int .i64 (xo : Int)] 79))
      have HB1 := Lib.hid (HBL.out.alloc HBL.out.size (.cells #[.int .u32 (xa : Int), .int .i32 xd, .int .u8 (xk : Int), .int .u32 (xs : Int), .slice P xl.length cp, .int .i64 (xo : Int)] 79))
      have HN1 := Lib.hid (Blk.new wr 79 #[.int .u32 (xa : Int), .int .i32 xd, .int .u8 (xk : Int), .int .u32 (xs : Int), .slice P xl.length cp, .int .i64 (xo : Int)])
      clear hx hst hin hout
      go_upto_region 5 with (fail)
      obtain ⟨W, hW⟩ : ∃ W, wr.alloc (.cells #[.int .u32 (xa : Int), .int .i32 xd, .int .u8 (xk : Int), .int .u32 (xs : Int), .slice P xl.length cp, .int .i64 (xo : Int)] 79) = W := ⟨_, rfl⟩
      rw [hW] at HQ1 HB1 HN1 ⊢
      clear hW d0 d1 d2 d3 d4 d5 HQ HBL
      have e0 := HN1.out.cell 0
      have e1 := HN1.out.cell 1
      have e2 := HN1.out.cell 2
      have e3 := HN1.out.cell 3
      have e4 := HN1.out.cell 4
      have e5 := HN1.out.cell 5
      have k0 := HQ1.out.cell 0
      have k1 := HQ1.out.cell 1
      have k2 := HQ1.out.cell 2
      have k3 := HQ1.out.cell 3
      simp at e0 e1 e2 e3 e4 e5 k0 k1 k2 k3
      rcases Nat.eq_zero_or_pos xo with h0 | h0
      · subst h0
        by_cases hyk : (⟨xa, xd, xk, xs⟩ : Ky) = y
        · subst hyk
          have hs2 : liveL (M.take (k + 1)) ⟨xa, xd, xk, xs⟩ = some k := HST.out.trans (if_pos ⟨rfl, rfl⟩)
          have HS2 := Lib.hid hs2
          clear hs2
          go_wp2_with fail
          go_roundw
          case rel => exact ⟨k + 1, by omega, by go_num, by rw [HS2.out]; rfl, HQ1, HB1⟩
          case measure => simp [intOf]; omega
        · have hs2 : liveL (M.take (k + 1)) y = out := HST.out.trans (by unfold stepL; rw [if_neg (fun hh => hyk hh.2), if_neg (fun hh => absurd hh.1 (Nat.lt_irrefl _))])
          have HS2 := Lib.hid hs2
          have hne : ¬ (xa = y.a ∧ xd = y.d ∧ xk = y.k ∧ xs = y.s) := fun hh => hyk (by obtain ⟨h1, h2, h3, h4⟩ := hh; subst h1 h2 h3 h4; rfl)
          clear hs2
          go_wp2_with fail
          all_goals refine ⟨⟨k + 1, by omega, by go_num, by rw [HS2.out], HQ1, HB1⟩, ?_⟩
          all_goals simp [intOf]
          all_goals omega
      · by_cases hoz : out = some (xo - 1)
        · have hs2 : liveL (M.take (k + 1)) y = none := HST.out.trans (by unfold stepL; rw [if_neg (fun hh => by have := hh.1; simp only at this; omega), if_pos ⟨h0, hoz⟩])
          have HS2 := Lib.hid hs2
          have hz : outZ out = (xo : Int) - 1 := by rw [hoz]; show ((xo - 1 : Nat) : Int) = _; omega
          rw [hz]
          have hp : (0 : Int) < (xo : Int) := by omega
          have hp0 : ¬ (xo : Int) = 0 := by omega
          have hp1 : ¬ xo = 0 := by omega
          have hpw : IntKind.i64.wrap ((xo : Int) - 1) = (xo : Int) - 1 := by rw [IntKind.wrap_i64]; omega
          clear hs2 hz hoz
          go_wp2_with fail
          go_roundw
          case rel => exact ⟨k + 1, by omega, by go_num, by rw [HS2.out]; rfl, HQ1, HB1⟩
          case measure => simp [intOf]; omega
        · have hs2 : liveL (M.take (k + 1)) y = out := HST.out.trans (by unfold stepL; rw [if_neg (fun hh => by have := hh.1; simp only at this; omega), if_neg (fun hh => hoz hh.2)])
          have HS2 := Lib.hid hs2
          obtain ⟨z, hz⟩ : ∃ z, outZ out = z := ⟨_, rfl⟩
          have hzn : ¬ (xo : Int) - 1 = z := fun hh => hoz (by
            cases out with
            | none => have hz' : (-1 : Int) = z := hz; omega
            | some i => have hz' : (i : Int) = z := hz; congr 1; omega)
          rw [hz]
          have hp : (0 : Int) < (xo : Int) := by omega
          have hp0 : ¬ (xo : Int) = 0 := by omega
          have hp1 : ¬ xo = 0 := by omega
          have hpw : IntKind.i64.wrap ((xo : Int) - 1) = (xo : Int) - 1 := by rw [IntKind.wrap_i64]; omega
          have HZ := Lib.hid hz
          clear hs2 hz hoz
          go_wp2_with fail
          go_roundw
          case rel => exact ⟨k + 1, by omega, by go_num, by rw [HS2.out, HZ.out], HQ1, HB1⟩
          case measure => simp [intOf]; omega
    · have hkl : k = M.length := by omega
      subst hkl
      rw [List.take_length]
      go_wp2_with fail
      go_ret
      exact ⟨rfl, HB0.out.trans (HBL.out.mono HB0.out.size)⟩
end Go.Proofs.YtdnnkdldolhbpaaGreatDoor
namespace Go.Proofs.YtdnnkdldolhbpaaGreatDoor
open Go.ChangeShapes Go.WideShapes Go.ChangeAt Go.RowKit Go.Maps

theorem RAddPost.back {w w2 w' : World} {X : Nat} {E : Nat → Prop} {M : List Li} {x : Li} {e : Ending} (h : RAddPost w2 X E M x e w') (hb : Below w.heap.size w w2) : RAddPost w X E M x e w' := by
  refine ⟨fun hh => ?_, fun hh => ?_⟩
  · obtain ⟨h1, h2, E', h3, h4⟩ := h.1 hh
    refine ⟨h1, ⟨h2.os.trans hb.os, h2.tape.trans hb.tape, h2.output.trans hb.output, Nat.le_trans hb.size h2.size, fun i hi hx => (h2.block i (Nat.lt_of_lt_of_le hi hb.size) hx).trans (hb.block i hi)⟩, E', h3, fun i hi => ?_⟩
    rcases h4 i hi with h5 | h5
    · exact .inl h5
    · exact .inr (Nat.le_trans hb.size h5)
  · obtain ⟨h1, h2⟩ := h.2 hh
    exact ⟨h1, hb.trans (h2.mono hb.size)⟩
theorem Tame.init {M : List Li} {x : Li} (h : Tame (M ++ [x])) : Tame M := ⟨fun z hz => h.inn z (by simp [hz]), by have := h.len; simp at this; omega⟩
def RPostPost (w : World) (X : Nat) (E : Nat → Prop) (M : List Li) (y : Ky) (l : List (Nat × Int)) (e : Ending) (w' : World) : Prop :=
  (entB y l = false → e = .returned (.int .i64 1) ∧ Below w.heap.size w w') ∧ (entB y l = true → liveL M y ≠ none → e = .returned (.int .i64 10) ∧ Below w.heap.size w w') ∧
  (entB y l = true → liveL M y = none → RAddPost w X E M ⟨y, l, 0⟩ e w')
set_option maxRecDepth 100000 in
set_option maxHeartbeats 8000000 in
theorem RPost_any (X : Nat) (E : Nat → Prop) (M : List Li) (y : Ky) (P : Option Addr) (n c : Nat) (l : List (Nat × Int)) (w : World) (h : RefL w X E M) (hT : Tame (M ++ [⟨y, l, 0⟩])) (hR : Rs legT w w.heap.size P l) (hn : l.length = n) (hP : ∀ p, P = some p → E p.block ∧ p.block ≠ X) :
    Calls Tryz.prog 28 #[.pointer (some ⟨X, 0, none⟩), entV y (.slice P n c)] w (RPostPost w X E M y l) := by
  subst hn
  have hyl := hT.inn ⟨y, l, 0⟩ (by simp)
  obtain ⟨KV, hKV⟩ : ∃ KV : Array Value, KV = #[.int .u32 (y.a : Int), .int .i32 y.d, .int .u8 (y.k : Int), .int .u32 (y.s : Int), .slice P l.length c] := ⟨_, rfl⟩
  have HQ0 := Lib.hid (Blk.new w 77 KV)
  have HB0 := Lib.hid (b_alloc w (.cells KV 77))
  have HL0 := Lib.hid (h.below HB0.out)
  have HR0 := Lib.hid ((hR.below HB0.out).more HB0.out.size)
  subst hKV
  obtain ⟨W0, hW⟩ : ∃ W, w.alloc (.cells #[.int .u32 (y.a : Int), .int .i32 y.d, .int .u8 (y.k : Int), .int .u32 (y.s : Int), .slice P l.length c] 77) = W := ⟨_, rfl⟩
  have HW := Lib.hid hW
  rw [hW] at HQ0 HB0 HL0 HR0
  have HT := Lib.hid hT
  have HP := Lib.hid hP
  have HRi := Lib.hid (RRight_any y P l.length c W0.heap.size l W0 HR0.out rfl hyl.2.2.1 (Nat.le_refl _) hyl.2.1)
  have HYI := Lib.hid hyl
  clear hW hT h hR hP hyl
  unfold entV entC at HRi ⊢
  have m0 := HQ0.out.cell 0
  have m1 := HQ0.out.cell 1
  have m2 := HQ0.out.cell 2
  have m3 := HQ0.out.cell 3
  have m4 := HQ0.out.cell 4
  simp at m0 m1 m2 m3 m4
  go_enter Tryz.func28, Tryz.ntmps28
  go_upto_region 1 with (fail)
  rw [HW.out]
  clear HW
  obtain ⟨eb, heb⟩ : ∃ eb, entB y l = eb := ⟨_, rfl⟩
  rw [heb] at HRi
  have HEB := Lib.hid heb
  clear heb
  go_wp2_with fail
  refine HRi.out.mono ?_
  rintro e w2 ⟨rfl, hb⟩
  have HQ2 := Lib.hid (HQ0.out.below hb HQ0.out.lt)
  have HB2 := Lib.hid (HB0.out.trans (hb.mono HB0.out.size))
  have HL2 := Lib.hid (HL0.out.below hb)
  have HR2 := Lib.hid ((HR0.out.below hb).more hb.size)
  clear hb m0 m1 m2 m3 m4 HQ0 HB0 HL0 HR0 HRi
  have m0 := HQ2.out.cell 0
  have m1 := HQ2.out.cell 1
  have m2 := HQ2.out.cell 2
  have m3 := HQ2.out.cell 3
  have m4 := HQ2.out.cell 4
  simp at m0 m1 m2 m3 m4
  cases eb
  · go_wp2_with fail
    go_ret
    exact ⟨fun _ => ⟨rfl, HB2.out⟩, fun hh => absurd hh (by rw [HEB.out]; decide), fun hh => absurd hh (by rw [HEB.out]; decide)⟩
  · have HLv := Lib.hid (RLive_any X E M y HYI.out.1 w2 HL2.out HT.out.init)
    unfold Ky.v at HLv
    obtain ⟨r, hr⟩ : ∃ r, liveL M y = r := ⟨_, rfl⟩
    rw [hr] at HLv
    have HRR := Lib.hid hr
    clear hr
    go_wp2_with fail
    refine HLv.out.mono ?_
    rintro e w3 ⟨rfl, hb⟩
    have HQ3 := Lib.hid (HQ2.out.below hb HQ2.out.lt)
    have HB3 := Lib.hid (HB2.out.trans (hb.mono HB2.out.size))
    have HL3 := Lib.hid (HL2.out.below hb)
    have HR3 := Lib.hid ((HR2.out.below hb).more hb.size)
    clear hb m0 m1 m2 m3 m4 HQ2 HB2 HL2 HR2 HLv
    have m0 := HQ3.out.cell 0
    have m1 := HQ3.out.cell 1
    have m2 := HQ3.out.cell 2
    have m3 := HQ3.out.cell 3
    have m4 := HQ3.out.cell 4
    simp at m0 m1 m2 m3 m4
    cases r with
    | some i =>
      have hz : ¬ outZ (some i) < 0 := by show ¬ (i : Int) < 0; omega
      go_wp2_with fail
      go_ret
      exact ⟨fun hh => absurd hh (by rw [HEB.out]; decide), fun _ _ => ⟨rfl, HB3.out⟩, fun _ hh => absurd hh (by rw [HRR.out]; simp)⟩
    | none =>
      have hz : outZ none < 0 := by show (-1 : Int) < 0; decide
      have HA := Lib.hid (RAdd_any X E M y P l.length c l 0 w3 HL3.out HT.out HR3.out rfl HP.out)
      unfold entV entC at HA
      go_wp2_with fail
      refine HA.out.mono ?_
      rintro e w4 h4
      have h5 := h4.back HB3.out
      have hv : ∃ v, e = .returned v := by
        by_cases hh : addOk M ⟨y, l, 0⟩ l
        · exact ⟨_, (h5.1 hh).1⟩
        · exact ⟨_, (h5.2 hh).1⟩
      obtain ⟨v, rfl⟩ := hv
      have H5 := Lib.hid h5
      clear h4 h5
      go_wp2_with fail
      go_ret
      exact ⟨fun hh => absurd hh (by rw [HEB.out]; decide), fun _ hh => absurd HRR.out hh, fun _ _ => H5.out⟩
end Go.Proofs.YtdnnkdldolhbpaaGreatDoor
namespace Go.Proofs.YtdnnkdldolhbpaaGreatDoor
open Go.ChangeShapes Go.WideShapes Go.ChangeAt Go.RowKit Go.Maps

theorem RAddPost.from {w w2 w' : World} {X : Nat} {E E2 : Nat → Prop} {M : List Li} {x : Li} {e : Ending} (h : RAddPost w2 X E2 M x e w') (hb : Below w.heap.size w w2) (hE : ∀ i, E2 i → E i ∨ w.heap.size ≤ i) : RAddPost w X E M x e w' := by
  have h' := h.back hb
  refine ⟨fun hh => ?_, h'.2⟩
  obtain ⟨h1, h2, E', h3, h4⟩ := h'.1 hh
  refine ⟨h1, h2, E', h3, fun i hi => ?_⟩
  rcases h4 i hi with h5 | h5
  · exact hE i h5
  · exact .inr h5
def RRevPost (w : World) (X : Nat) (E : Nat → Prop) (M : List Li) (y : Ky) (e : Ending) (w' : World) : Prop :=
  (liveL M y = none → e = .returned (.int .i64 3) ∧ Below w.heap.size w w') ∧
  (∀ i, liveL M y = some i → (lowB (legsAt M i) = true → e = .returned (.int .i64 12) ∧ Below w.heap.size w w') ∧ (lowB (legsAt M i) = false → RAddPost w X E M ⟨y, negL (legsAt M i), i + 1⟩ e w'))
theorem lowB_take {l : List (Nat × Int)} {k : Nat} (h : k < l.length) : lowB (l.take (k + 1)) = (lowB (l.take k) || (l[k]).2 == -9223372036854775808) := by
  unfold lowB
  rw [List.take_succ_eq_append_getElem h, List.any_append]
  simp
theorem lowB_all {l : List (Nat × Int)} {k : Nat} (h : lowB (l.take k) = true) : lowB l = true := by
  unfold lowB at h ⊢
  rw [List.any_eq_true] at h ⊢
  obtain ⟨x, hx, hy⟩ := h
  exact ⟨x, List.mem_of_mem_take hx, hy⟩
theorem negL_take {l : List (Nat × Int)} {k : Nat} (h : k < l.length) : negL (l.take k) ++ [((l[k]).1, 0 - (l[k]).2)] = negL (l.take (k + 1)) := by
  unfold negL
  rw [List.take_succ_eq_append_getElem h, List.map_append]
  rfl
set_option maxRecDepth 100000 in
set_option maxHeartbeats 8000000 in
theorem RRev_any (X : Nat) (E : Nat → Prop) (M : List Li) (y : Ky) (hy : y.In) (w : World) (h : RefL w X E M) (hT : Tame M) (hM : M.length + 1 ≤ 1000000) : Calls Tryz.prog 26 #[.pointer (some ⟨X, 0, none⟩), y.v] w (RRevPost w X E M y) := by
  obtain ⟨KV, hKV⟩ : ∃ KV : Array Value, KV = #[.int .u32 (y.a : Int), .int .i32 y.d, .int .u8 (y.k : Int), .int .u32 (y.s : Int)] := ⟨_, rfl⟩
  have HQ0 := Lib.hid (Blk.new w 74 KV)
  have HB0 := Lib.hid (b_alloc w (.cells KV 74))
  have HL0 := Lib.hid (h.below HB0.out)
  subst hKV
  obtain ⟨W0, hW⟩ : ∃ W, w.alloc (.cells #[.int .u32 (y.a : Int), .int .i32 y.d, .int .u8 (y.k : Int), .int .u32 (y.s : Int)] 74) = W := ⟨_, rfl⟩
  have HW := Lib.hid hW
  rw [hW] at HQ0 HB0 HL0
  have HT := Lib.hid hT
  have HY := Lib.hid hy
  have HEl := Lib.hid h.lt
  have HLv := Lib.hid (RLive_any X E M y hy W0 HL0.out hT)
  unfold Ky.v at HLv ⊢
  obtain ⟨r, hr⟩ : ∃ r, liveL M y = r := ⟨_, rfl⟩
  rw [hr] at HLv
  have HRR := Lib.hid hr
  clear hW hT h hy hr
  have m0 := HQ0.out.cell 0
  have m1 := HQ0.out.cell 1
  have m2 := HQ0.out.cell 2
  have m3 := HQ0.out.cell 3
  simp at m0 m1 m2 m3
  go_enter Tryz.func26, Tryz.ntmps26
  go_upto_region 1 with (fail)
  rw [HW.out]
  clear HW
  go_wp2_with fail
  refine HLv.out.mono ?_
  rintro e w2 ⟨rfl, hb⟩
  have HQ2 := Lib.hid (HQ0.out.below hb HQ0.out.lt)
  have HB2 := Lib.hid (HB0.out.trans (hb.mono HB0.out.size))
  have HL2 := Lib.hid (HL0.out.below hb)
  clear hb m0 m1 m2 m3 HQ0 HB0 HL0 HLv
  have m0 := HQ2.out.cell 0
  have m1 := HQ2.out.cell 1
  have m2 := HQ2.out.cell 2
  have m3 := HQ2.out.cell 3
  simp at m0 m1 m2 m3
  cases r with
  | none =>
    have hz : outZ none < 0 := by show (-1 : Int) < 0; decide
    go_wp2_with fail
    go_ret
    exact ⟨fun _ => ⟨rfl, HB2.out⟩, fun i hh => absurd hh (by rw [HRR.out]; simp)⟩
  | some i =>
    have hil : i < M.length := liveL_lt HRR.out
    have hz : ¬ outZ (some i) < 0 := by show ¬ (i : Int) < 0; omega
    have hzi : outZ (some i) = (i : Int) := rfl
    have hil' : (i : Int) < (M.length : Int) := by omega
    rw [hzi] at hz ⊢
    have HB3 := Lib.hid (b_alloc w2 (.cells #[.int .u32 (y.a : Int), .int .i32 y.d, .int .u8 (y.k : Int), .int .u32 (y.s : Int), .slice Option.none 0 0] 77))
    have HN3 := Lib.hid (Blk.new w2 77 #[.int .u32 (y.a : Int), .int .i32 y.d, .int .u8 (y.k : Int), .int .u32 (y.s : Int), .slice Option.none 0 0])
    clear hzi
    go_upto_region 5 with (fail)
    have hbe : w.heap.size < w2.heap.size := HQ2.out.lt
    obtain ⟨W3, hW⟩ : ∃ W, w2.alloc (.cells #[.int .u32 (y.a : Int), .int .i32 y.d, .int .u8 (y.k : Int), .int .u32 (y.s : Int), .slice Option.none 0 0] 77) = W := ⟨_, rfl⟩
    rw [hW] at HB3 HN3 ⊢
    clear hW HQ2 m0 m1 m2 m3
    obtain ⟨A, cM, V, hX, hc, hm, hV, hE, hEl⟩ := HL2.out
    obtain ⟨b, o, P, cp, rfl, hb1, hRs, _, _, _, _, d4, _⟩ := hV.line hil
    have hmi : legsAt M i = (M[i]).l := by unfold legsAt; rw [List.getElem?_eq_getElem hil]
    obtain ⟨l, hl⟩ : ∃ l, (M[i]).l = l := ⟨_, rfl⟩
    have hin := HT.out.inn (M[i]) (List.getElem_mem hil)
    rw [hl] at hRs d4 hmi hin
    have HI := Lib.hid hin.2.1
    have hl5 := hin.2.2.1
    have HR := Lib.hid hRs
    have HMI := Lib.hid hmi
    have x0 := (hX.below HB3.out hX.lt).cell 0
    have d4 := (HB3.out.cell (p := ⟨b, o + i * 6 + 4, none⟩) hb1).trans d4
    simp at x0
    clear hl hin hRs hmi hV hX hE hEl
    go_wp2_with fail
    clear d4 x0
    go_loopw [8, 26] (fun _ ix wr => ∃ (k : Nat) (v : Value), k ≤ l.length ∧ ix = .int .i64 k ∧ Hid (lowB (l.take k) = false) ∧ Hid (Blk wr w2.heap.size 77 #[.int .u32 (y.a : Int), .int .i32 y.d, .int .u8 (y.k : Int), .int .u32 (y.s : Int), v]) ∧ Hid (OwnS legT 130 wr w2.heap.size v k (negL (l.take k))) ∧ Hid (Below w2.heap.size w2 wr)) (fun _ ix _ => l.length - (intOf ix).toNat)
    case atStart => exact ⟨0, .slice Option.none 0 0, Nat.zero_le _, rfl, Lib.hid rfl, HN3, Lib.hid (OwnS.nil_ _ _ _), HB3⟩
    case round =>
      obtain ⟨k, v, hk, rfl, HLo, HN, HO, HBL⟩ := hrel
      by_cases hlt : k < l.length
      · obtain ⟨b1, o1, rfl, hb2, d0, d1⟩ := HR.out.leg hlt
        have d0 := (HBL.out.cell (p := ⟨b1, o1 + k * 2, none⟩) hb2).trans d0
        have d1 := (HBL.out.cell (p := ⟨b1, o1 + k * 2 + 1, none⟩) hb2).trans d1
        obtain ⟨x0, y0, y1⟩ := HI.out _ (List.getElem_mem hlt)
        have hlo := lowB_take hlt
        have hng := negL_take hlt
        obtain ⟨x, hx⟩ : ∃ x, (l[k]).1 = x := ⟨_, rfl⟩
        obtain ⟨z, hz⟩ : ∃ z, (l[k]).2 = z := ⟨_, rfl⟩
        rw [hx] at d0 x0 hng
        rw [hz, Int.zero_sub] at hng
        rw [hz] at d1 y0 y1 hlo
        rw [HLo.out, Bool.false_or] at hlo
        have HT2 := Lib.hid hng
        have HLW := Lib.hid hlo
        have hsz := HBL.out.size
        have n4 := HN.out.cell 4
        have nl := HN.out.lt
        simp at n4
        by_cases hzl : z = -9223372036854775808
        · have hno : lowB l = true := lowB_all (k := k + 1) (by rw [HLW.out, hzl]; decide)
          have HNO := Lib.hid hno
          have HBF := Lib.hid (HBL.out.alloc hsz (.cells #[.int .u8 (x : Int), .int .i64 z] 130))
          subst hzl
          clear hx hz hno hlo hng y0 y1 HLo HN HO HBL n4
          go_wp2_with fail
          go_ret
          refine ⟨fun hh => absurd hh (by rw [HRR.out]; simp), fun j hj => ?_⟩
          obtain rfl : i = j := Option.some.inj (HRR.out.symm.trans hj)
          rw [HMI.out, HNO.out]
          exact ⟨fun _ => ⟨rfl, HB2.out.trans (HBF.out.mono HB2.out.size)⟩, fun hh => absurd hh (by decide)⟩
        · have hneg : IntKind.i64.wrap (-z) = -z := by rw [IntKind.wrap_i64]; omega
          have HLo2 : Hid (lowB (l.take (k + 1)) = false) := Lib.hid (by rw [HLW.out]; simpa using hzl)
          have HO4 := Lib.hid ((HO.out.alloc (.cells #[.int .u8 (x : Int), .int .i64 z] 130)).alloc (.cells #[.int .u8 (x : Int), .int .i64 (-z)] 130))
          have HN4 := Lib.hid ((HN.out.alloc (.cells #[.int .u8 (x : Int), .int .i64 z] 130)).alloc (.cells #[.int .u8 (x : Int), .int .i64 (-z)] 130))
          have HB4 := Lib.hid ((HBL.out.alloc hsz (.cells #[.int .u8 (x : Int), .int .i64 z] 130)).alloc (by simp; omega) (.cells #[.int .u8 (x : Int), .int .i64 (-z)] 130))
          have HL := Lib.hid (Rs.block (T := legT) (u := (x, -z)) (Blk.new (wr.alloc (.cells #[.int .u8 (x : Int), .int .i64 z] 130)) 130 #[.int .u8 (x : Int), .int .i64 (-z)]))
          rw [show (wr.alloc (.cells #[.int .u8 (x : Int), .int .i64 z] 130)).heap.size = wr.heap.size + 1 by simp] at HL
          clear hx hz hlo hng HLo HN HO HBL HLW
          go_wp2_with (with_reducible refine wpList_appendS (o := ⟨some 42, _, _, _, _, _⟩) rfl rowRLeg (.tmp 34) (.tmp 41) rfl w2.heap.size _ k (negL (l.take k)) ?h1 HO4.out _ (some ⟨wr.heap.size + 1, 0, none⟩) 1 1 [(x, -z)] ?h2 HL.out rfl ?h3 ?h4 ?h5 ?_)
          try (case h1 => rfl)
          try (case h2 => rfl)
          try (case h3 => unfold maxLen; omega)
          try (case h4 => omega)
          try (case h5 => first | omega | (simp; omega))
          intro v5 w5 ho5 hg5 _ _
          rw [HT2.out] at ho5
          obtain ⟨_, A5, c5, rfl, _, _, _⟩ := ho5.form (by decide)
          have hN5 := HN4.out.grown hg5 (fun e => HO4.out.ne_blk HN4.out rentNe e.symm)
          have hb5 := HB4.out.grown hg5 HB4.out.size (fun j hj => (HO4.out.lt j hj).1)
          have hne5 := ho5.ne_blk hN5 rentNe
          have HO5 := Lib.hid (ho5.grown (grown_set w5 w2.heap.size 4 (.slice A5 (k + 1) c5)) (.inl (fun e => hne5 e.symm)))
          have HN5 := Lib.hid (hN5.set_ 4 (.slice A5 (k + 1) c5))
          have HB5 := Lib.hid (hb5.setCell (Nat.le_refl _) (.slice A5 (k + 1) c5) (p := ⟨w2.heap.size, 4, none⟩))
          have p4 := hN5.cell 4
          have q4 := hN5.frozen 4
          simp at p4 q4
          clear ho5 hg5 hN5 hb5 hne5 n4 HO4 HN4 HB4 HL d0 d1
          go_wp2_with fail
          go_roundw
          case rel => exact ⟨k + 1, _, by omega, by go_num, HLo2, HN5, HO5, HB5⟩
          case measure => simp [intOf]; omega
      · obtain rfl : k = l.length := by omega
        rw [List.take_length] at HO HLo
        obtain ⟨_, A5, c5, rfl, _, _, hR5⟩ := HO.out.form (by decide)
        have hol := HO.out.lt
        have d0 := HN.out.cell 0
        have d1 := HN.out.cell 1
        have d2 := HN.out.cell 2
        have d3 := HN.out.cell 3
        have d4 := HN.out.cell 4
        simp at d0 d1 d2 d3 d4
        have HL5 := HL2.out.below HBL.out
        have HA := Lib.hid (RAdd_any X (fun j => j < wr.heap.size ∧ (E j ∨ w2.heap.size ≤ j)) M y A5 l.length c5 (negL l) (i + 1) wr (HL5.wider (fun j hj => ⟨HL5.lt j hj, .inl hj⟩) (fun j hj => hj.1)) ⟨fun q hq => by
          rcases List.mem_append.1 hq with h1 | h1
          · exact HT.out.inn q h1
          · obtain rfl := List.mem_singleton.1 h1
            exact ⟨HY.out, negL_in HI.out HLo.out, by rw [negL_len]; exact hl5, by show i + 1 ≤ 1000000; omega⟩, by simpa using hM⟩ hR5 (negL_len l) (fun p hp => by
          subst hp
          obtain ⟨h1, h2⟩ := hol p.block rfl
          refine ⟨⟨h2, .inr h1⟩, ?_⟩
          have := HL2.out.lt X HL2.out.self
          omega))
        unfold entV entC at HA
        have hw1 : IntKind.i64.wrap ((i : Int) + 1) = (i : Int) + 1 := by rw [IntKind.wrap_i64]; omega
        have hcast : (((i + 1 : Nat)) : Int) = (i : Int) + 1 := by omega
        rw [hcast] at HA
        clear hcast HL5 hol hR5 HO HN
        go_wp2_with fail
        refine HA.out.mono ?_
        rintro e w4 h4
        have h5 := h4.from (E := E) (HB2.out.trans (HBL.out.mono HB2.out.size)) (fun j hj => by
          rcases hj.2 with h1 | h1
          · exact .inl h1
          · exact .inr (by omega))
        have hv : ∃ v, e = .returned v := by
          by_cases hh : addOk M ⟨y, negL l, i + 1⟩ (negL l)
          · exact ⟨_, (h5.1 hh).1⟩
          · exact ⟨_, (h5.2 hh).1⟩
        obtain ⟨v, rfl⟩ := hv
        have H5 := Lib.hid h5
        clear h4 h5 HA d0 d1 d2 d3 d4
        go_wp2_with fail
        go_ret
        refine ⟨fun hh => absurd hh (by rw [HRR.out]; simp), fun j hj => ?_⟩
        obtain rfl : i = j := Option.some.inj (HRR.out.symm.trans hj)
        rw [HMI.out, HLo.out]
        exact ⟨fun hh => absurd hh (by decide), fun _ => H5.out⟩
end Go.Proofs.YtdnnkdldolhbpaaGreatDoor
