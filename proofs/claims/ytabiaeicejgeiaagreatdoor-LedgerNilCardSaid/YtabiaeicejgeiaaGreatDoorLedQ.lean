/-
  api.At of a Fault; the document's example in numbers. Condition: errors.errorType is laid.
-/
import Derived.Test.YtabiaeicejgeiaaGreatDoorLedO
import Derived.Test.YtabiaeicejgeiaaGreatDoorLedM
namespace Go.Proofs.YtabiaeicejgeiaaGreatDoor
open Go.ChangeShapes Go.WideShapes Go.ChangeAt Go.RowKit Go.Maps

set_option maxRecDepth 100000 in
set_option maxHeartbeats 2000000 in
theorem At_fault (N : Nat) (a : Nat) (v : Value) (w : World) (hg : Laid w) (hN : Blk w N 122 #[.int .u64 (a : Int), v]) : Calls Tryz.prog 24 #[.iface 119 (.pointer (some ⟨N, 0, none⟩))] w (Ret (.int .u64 (a : Int)) w) := by
  have hA : ∀ o : Obj, Laid (w.alloc o) := fun o => hg.below ((Below.refl _ w).alloc (Nat.le_refl _) o)
  have HA := Lib.hid (as_hitQ ⟨N, 0, none⟩ ⟨w.heap.size, 0, none⟩ (.pointer none) (w.alloc (.cells #[.pointer none] 119)) (hA _) (by simp) (by simp))
  have HN := Lib.hid hN
  clear hA hN
  go_enter Tryz.func24, Tryz.ntmps24
  go_wp2_with fail
  refine HA.out.mono ?_
  rintro ev w1 ⟨rfl, hw⟩
  have hc : w1.cell? ⟨w.heap.size, 0, none⟩ = some (.pointer (some ⟨N, 0, none⟩)) := by
    rw [hw]
    refine World.cell?_setCell_same' _ _ _ ?_
    rw [World.cell?_alloc_lt _ _ _ (by simp; omega), World.cell?_alloc_lt _ _ _ (by simp; omega), World.cell?_alloc_lt _ _ _ (by simp; omega), World.cell?_alloc_lt _ _ _ (by simp)]
    simp
  have hb : Below w.heap.size w w1 := by
    rw [hw]
    exact ((((((Below.refl _ w).alloc (Nat.le_refl _) _).alloc (by simp) _).alloc (by simp; omega) _).alloc (by simp; omega) _).alloc (by simp; omega) _).setCell (Nat.le_refl _) _
  clear hw
  have c0 := (HN.out.below hb HN.out.lt).cell 0
  simp at c0
  go_wp2_with fail
  go_ret
  exact ⟨rfl, hb⟩
theorem Code_err (N : Nat) (x : Value) (n : Int) (w : World) (hg : Laid w) (hN : Blk w N 122 #[x, eno14 n]) : Calls Tryz.prog 18 #[.iface 119 (.pointer (some ⟨N, 0, none⟩))] w (Ret (.int .i64 n) w) := Code_fault N x n w hg hN
/-! the example -/
def exL : List (Nat × Int) := [(1, -5), (2, 5)]
def exY (a : Nat) : Ky := ⟨a, 0, 1, 0⟩
theorem exY_in {a : Nat} (h : a < 4294967296) : (exY a).In := ⟨h, by show -2147483648 ≤ (0 : Int) ∧ (0 : Int) ≤ 2147483647; decide, by show (1 : Nat) < 256; decide, by show (0 : Nat) < 4294967296; decide⟩
theorem exL_in : ∀ u ∈ exL, LegIn u := fun u hu => by
  simp [exL] at hu
  rcases hu with rfl | rfl <;> exact ⟨by decide, by decide, by decide⟩
theorem exEnt (a : Nat) : entB (exY a) exL = true := by kernel_rfl
theorem okW_ex {f : Nat → Int} (h1 : fitB (f 1 + -5) = true) (h2 : fitB (f 2 + 5) = true) : okW f exL := fun j hj => by
  match j, hj with
  | 0, _ => simpa [exL, plusL, legS] using h1
  | 1, _ => simpa [exL, plusL, legS] using h2
theorem okW_neg {f : Nat → Int} (h1 : fitB (f 1 + 5) = true) (h2 : fitB (f 2 + -5) = true) : okW f (negL exL) := fun j hj => by
  match j, hj with
  | 0, _ => simpa [exL, negL, plusL, legS] using h1
  | 1, _ => simpa [exL, negL, plusL, legS] using h2
def exM1 (a : Nat) : List Li := [⟨exY a, exL, 0⟩]
theorem exOk1 (a : Nat) : postOk [] (exY a) exL := ⟨exEnt a, rfl, okW_ex (by rfl) (by rfl), okW_ex (by rfl) (by rfl)⟩
theorem exLive1 (a : Nat) : liveL (exM1 a) (exY a) = some 0 := by
  have := liveL_post (M := []) (x := (⟨exY a, exL, 0⟩ : Li)) rfl (exY a)
  simpa [exM1] using this
theorem exLegs1 (a : Nat) : legsAt (exM1 a) 0 = exL := rfl
theorem exRev (a : Nat) : revOk (exM1 a) (exY a) 0 := by
  refine ⟨exLive1 a, by rw [exLegs1]; decide, ?_⟩
  rw [exLegs1]
  refine ⟨okW_neg ?_ ?_, okW_neg ?_ ?_⟩ <;> simp [bal, ctl, sumB, exM1, exY, exL, loanP, allP, legS, fitB]
def exM2 (a : Nat) : List Li := [⟨exY a, exL, 0⟩, ⟨exY a, negL exL, 1⟩]
theorem exLive2 (a : Nat) : liveL (exM2 a) (exY a) = none := by
  have := liveL_rev (M := exM1 a) (x := (⟨exY a, negL exL, 1⟩ : Li)) (i := 0) rfl (exLive1 a) (exY a)
  simpa [exM1, exM2] using this
theorem exOk3 (a : Nat) : postOk (exM2 a) (exY a) exL := by
  refine ⟨exEnt a, exLive2 a, okW_ex ?_ ?_, okW_ex ?_ ?_⟩ <;> simp [bal, ctl, sumB, exM2, exY, exL, negL, loanP, allP, legS, fitB]
def exM3 (a : Nat) : List Li := [⟨exY a, exL, 0⟩, ⟨exY a, negL exL, 1⟩, ⟨exY a, exL, 0⟩]
theorem exLive3 (a : Nat) : liveX (exM3 a) (exY a) = some ⟨exY a, exL, 0⟩ := by
  have := liveL_post (M := exM2 a) (x := (⟨exY a, exL, 0⟩ : Li)) rfl (exY a)
  have h2 : liveL (exM3 a) (exY a) = some 2 := by simpa [exM2, exM3] using this
  unfold liveX
  rw [h2]
  rfl
theorem exBal3 : ofV (bal (exM3 1) 1) 2 = 5 := by decide
theorem exCtl3 : ofV (ctl (exM3 1)) 1 = -5 := by decide
end Go.Proofs.YtabiaeicejgeiaaGreatDoor
