/-
  The document's examples. No condition.
-/
import Derived.Test.YtdknhjnbkmcicaaDoorChI
namespace Go.Proofs.YtdknhjnbkmcicaaDoor
open Go.ChangeShapes Go.WideShapes Go.ChangeAt Go.RowKit

def exA : List (Nat × Int) := [(2, 100), (1, -100)]
def exB : List (Nat × Int) := [(1, -100)]
theorem exA_rows (w : World) (ty : TypeId) : Rs legT (w.alloc (.cells #[.int .u8 2, .int .i64 100, .int .u8 1, .int .i64 (-100)] ty)) (w.heap.size + 1) (some ⟨w.heap.size, 0, none⟩) exA := fun _ =>
  ⟨w.heap.size, 0, rfl, by omega, fun j v hv i x hx => by
    rcases j with _ | _ | j
    · obtain rfl : (2, 100) = v := by simpa [exA] using hv
      rcases i with _ | _ | i <;> simp [legT] at hx ⊢ <;> exact hx
    · obtain rfl : (1, -100) = v := by simpa [exA] using hv
      rcases i with _ | _ | i <;> simp [legT] at hx ⊢ <;> exact hx
    · simp [exA] at hv⟩
theorem exB_rows (w : World) (ty : TypeId) : Rs legT (w.alloc (.cells #[.int .u8 1, .int .i64 (-100)] ty)) (w.heap.size + 1) (some ⟨w.heap.size, 0, none⟩) exB := fun _ =>
  ⟨w.heap.size, 0, rfl, by omega, fun j v hv i x hx => by
    rcases j with _ | j
    · obtain rfl : (1, -100) = v := by simpa [exB] using hv
      rcases i with _ | _ | i <;> simp [legT] at hx ⊢ <;> exact hx
    · simp [exB] at hv⟩
theorem exA_in : ∀ u ∈ exA, LegIn u := fun u hu => by
  simp only [exA, List.mem_cons, List.not_mem_nil, or_false] at hu
  rcases hu with rfl | rfl <;> simp [LegIn]
theorem exB_in : ∀ u ∈ exB, LegIn u := fun u hu => by
  simp only [exB, List.mem_cons, List.not_mem_nil, or_false] at hu
  rcases hu with rfl <;> simp [LegIn]
theorem exA_ok : okL exA := okTo_all (by unfold okTo; decide +kernel) exA_in
theorem exB_ok : okL exB := okTo_all (by unfold okTo; decide +kernel) exB_in
theorem exA_mk : mkL exA = [(1, -100), (2, 100)] := (mkL_ok exA_ok).trans (by decide +kernel)
theorem exB_mk : mkL exB = [(1, -100)] := (mkL_ok exB_ok).trans (by decide +kernel)
def exK : Ky := ⟨0, 0, 1, 0⟩
theorem exA_right : entB exK [(1, -100), (2, 100)] = true := by decide +kernel
theorem exB_right : entB exK [(1, -100)] = false := by decide +kernel
theorem acct1 : acctS 1 = ⟨#[99, 97, 115, 104]⟩ := rfl
set_option maxRecDepth 100000 in
set_option maxHeartbeats 4000000 in
theorem exA_make (W : World) (n : Nat) (hn : n = W.heap.size) : Calls Tryd.prog 6 #[.agg #[.int .u32 0, .int .i32 0, .int .u8 1, .int .u32 0], .slice (some ⟨n, 0, none⟩) 2 2] (W.alloc (.cells #[.int .u8 2, .int .i64 100, .int .u8 1, .int .i64 (-100)] 56)) fun e w' =>
    ∃ A c, e = .returned (.agg #[.int .u32 0, .int .i32 0, .int .u8 1, .int .u32 0, .slice A 2 c]) ∧ (∀ W', Below w'.heap.size w' W' → Calls Tryd.prog 9 #[.agg #[.int .u32 0, .int .i32 0, .int .u8 1, .int .u32 0, .slice A 2 c]] W' (Ret (.bool true) W')) ∧ Below (W.alloc (.cells #[.int .u8 2, .int .i64 100, .int .u8 1, .int .i64 (-100)] 56)).heap.size (W.alloc (.cells #[.int .u8 2, .int .i64 100, .int .u8 1, .int .i64 (-100)] 56)) w' := by
  subst hn
  refine (Make_any exK (some ⟨W.heap.size, 0, none⟩) 2 2 (W.heap.size + 1) exA (W.alloc (.cells #[.int .u8 2, .int .i64 100, .int .u8 1, .int .i64 (-100)] 56)) (exA_rows W _) rfl (by omega) (by simp) exA_in).mono ?_
  rintro e w' ⟨A, c, rfl, ho, hb⟩
  rw [exA_mk] at ho ⊢
  refine ⟨A, c, rfl, fun W' hW => ?_, hb⟩
  have hr : Rs legT w' w'.heap.size A [(1, -100), (2, 100)] := by
    obtain ⟨_, A9, c9, he, _, _, hr9⟩ := ho.form (by decide)
    injection he with e1
    rw [e1]
    exact hr9
  have h := Right_any13 exK A 2 c w'.heap.size [(1, -100), (2, 100)] W' (hr.below hW) rfl (by omega) hW.size (fun u hu => mkL_in exA u (by rw [exA_mk]; exact hu))
  rw [exA_right] at h
  exact h
set_option maxRecDepth 100000 in
set_option maxHeartbeats 4000000 in
theorem exB_make (W : World) (n : Nat) (hn : n = W.heap.size) : Calls Tryd.prog 6 #[.agg #[.int .u32 0, .int .i32 0, .int .u8 1, .int .u32 0], .slice (some ⟨n, 0, none⟩) 1 1] (W.alloc (.cells #[.int .u8 1, .int .i64 (-100)] 56)) fun e w' =>
    ∃ A c, e = .returned (.agg #[.int .u32 0, .int .i32 0, .int .u8 1, .int .u32 0, .slice A 1 c]) ∧ (∀ W', Below w'.heap.size w' W' → Calls Tryd.prog 9 #[.agg #[.int .u32 0, .int .i32 0, .int .u8 1, .int .u32 0, .slice A 1 c]] W' (Ret (.bool false) W')) ∧ Below (W.alloc (.cells #[.int .u8 1, .int .i64 (-100)] 56)).heap.size (W.alloc (.cells #[.int .u8 1, .int .i64 (-100)] 56)) w' := by
  subst hn
  refine (Make_any exK (some ⟨W.heap.size, 0, none⟩) 1 1 (W.heap.size + 1) exB (W.alloc (.cells #[.int .u8 1, .int .i64 (-100)] 56)) (exB_rows W _) rfl (by omega) (by simp) exB_in).mono ?_
  rintro e w' ⟨A, c, rfl, ho, hb⟩
  rw [exB_mk] at ho ⊢
  refine ⟨A, c, rfl, fun W' hW => ?_, hb⟩
  have hr : Rs legT w' w'.heap.size A [(1, -100)] := by
    obtain ⟨_, A9, c9, he, _, _, hr9⟩ := ho.form (by decide)
    injection he with e1
    rw [e1]
    exact hr9
  have h := Right_any13 exK A 1 c w'.heap.size [(1, -100)] W' (hr.below hW) rfl (by omega) hW.size (fun u hu => mkL_in exB u (by rw [exB_mk]; exact hu))
  rw [exB_right] at h
  exact h
set_option maxRecDepth 100000 in
set_option maxHeartbeats 4000000 in
theorem awake13 (w : World) : Calls Tryd.prog 4 #[] w (Ret (.bool true) w) := by
  have hAc : ∀ W, Calls Tryd.prog 17 #[.int .u8 1] W fun e w' => e = .returned (.string ⟨#[99, 97, 115, 104]⟩) ∧ W = w' := fun W => Account_any 1 W
  have HQ0 := Lib.hid (Blk.new w 25 #[.int .u32 0, .int .i32 0, .int .u8 1, .int .u32 0])
  have HB0 := Lib.hid (b_alloc w (.cells #[.int .u32 0, .int .i32 0, .int .u8 1, .int .u32 0] 25))
  go_enter Tryd.func4, Tryd.ntmps4
  go_wp2_with fail
  refine (exA_make _ _ (by simp)).mono ?_
  rintro e w1 ⟨A1, c1, rfl, hR1, hb1⟩
  have HA := Lib.hid (HB0.out.alloc HB0.out.size (.cells #[.int .u8 2, .int .i64 100, .int .u8 1, .int .i64 (-100)] 56))
  have HQ1 := Lib.hid ((HQ0.out.alloc (.cells #[.int .u8 2, .int .i64 100, .int .u8 1, .int .i64 (-100)] 56)).below hb1 (HQ0.out.alloc _).lt)
  have HB1 := Lib.hid (HA.out.trans (hb1.mono HA.out.size))
  clear hb1
  go_wp2_with fail
  refine (hR1 _ (Below.refl _ _)).mono ?_
  rintro e w2 ⟨rfl, hb2⟩
  have HQ2 := Lib.hid (HQ1.out.below hb2 HQ1.out.lt)
  have HB2 := Lib.hid (HB1.out.trans (hb2.mono HB1.out.size))
  clear hb2 hR1
  have c0 := HQ2.out.cell 0
  have c1' := HQ2.out.cell 1
  have c2' := HQ2.out.cell 2
  have c3 := HQ2.out.cell 3
  simp at c0 c1' c2' c3
  go_wp2_with fail
  refine (exB_make _ _ rfl).mono ?_
  rintro e w3 ⟨A3, c4, rfl, hR3, hb3⟩
  have HC := Lib.hid (HB2.out.alloc HB2.out.size (.cells #[.int .u8 1, .int .i64 (-100)] 56))
  have HB3 := Lib.hid (HC.out.trans (hb3.mono HC.out.size))
  clear hb3 c0 c1' c2' c3
  go_wp2_with fail
  refine (hR3 _ (Below.refl _ _)).mono ?_
  rintro e w4 ⟨rfl, hb4⟩
  have HB4 := Lib.hid (HB3.out.trans (hb4.mono HB3.out.size))
  clear hb4 hR3
  go_wp2_with fail
  refine (hAc _).mono ?_
  rintro e w9 ⟨rfl, rfl⟩
  go_wp2_with fail
  go_ret
  exact ⟨by first | rfl | simp, HB4.out⟩
end Go.Proofs.YtdknhjnbkmcicaaDoor
