/-
  DueLasts: the walk. Conditions: the months' lengths and strconv's powers of ten are laid.
-/
import Derived.Test.YtkhjmbemjndcoaaGreatDoorDueA
import Derived.Test.YtkhjmbemjndcoaaGreatDoorTextB
namespace Go.Proofs.YtkhjmbemjndcoaaGreatDoor
open Go.RowKit

theorem text0228 : dayText 738578 = ⟨#[50, 48, 50, 51, 45, 48, 50, 45, 50, 56]⟩ := by kernel_rfl
theorem text0331 : dayText 738609 = ⟨#[50, 48, 50, 51, 45, 48, 51, 45, 51, 49]⟩ := by kernel_rfl
theorem plain0331 : plainD 738578 1 = 738609 := by kernel_rfl
theorem pT0331 : pT 738578 1 = 24266 := by kernel_rfl

set_option maxRecDepth 20000 in
set_option maxHeartbeats 1000000 in
theorem awake7 (w : World) (hw : Lens w) (hp : Pows w) : Calls Tryz.prog 6 #[] w fun e w' => e = .returned (.bool true) ∧ Below w.heap.size w w' := by
  have hR := Read_text 738578 (by decide) (by decide) w hw hp
  rw [text0228] at hR
  have hD := fun W (hW : Lens W) => Plain_ok 738578 1 (by decide) (by decide) (by decide) (by decide) (by rw [pT0331]; decide) W hW
  rw [plain0331] at hD
  have hT := fun W (hW : Lens W) (hP : Pows W) => DText_any 738609 (by decide) (by decide) W hW hP
  rw [text0331] at hT
  have HW := Lib.hid hw
  have HP := Lib.hid hp
  clear hw hp
  go_enter Tryz.func6, Tryz.ntmps6
  go_wp2_with fail
  refine hR.mono ?_
  rintro e w1 ⟨rfl, hb1⟩
  go_wp2_with fail
  refine (hD _ (HW.out.below hb1)).mono ?_
  rintro e w2 ⟨rfl, hb2⟩
  have hb2' := hb1.trans (hb2.mono hb1.size)
  clear hb1 hb2
  go_wp2_with fail
  refine (hT _ (HW.out.below hb2') (HP.out.below hb2')).mono ?_
  rintro e w3 ⟨rfl, hb3⟩
  go_wp2_with fail
  go_ret
  exact ⟨rfl, hb2'.trans (hb3.mono hb2'.size)⟩

end Go.Proofs.YtkhjmbemjndcoaaGreatDoor
