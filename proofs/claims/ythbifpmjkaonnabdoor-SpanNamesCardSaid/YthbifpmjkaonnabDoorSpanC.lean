/-
  span: Year; the references' Days and One; the document's example. Conditions: the months' lengths and strconv's powers of ten are laid.
-/
import Derived.Test.YthbifpmjkaonnabDoorSpanB
namespace Go.Proofs.YthbifpmjkaonnabDoor
open Go.RowKit

set_option maxHeartbeats 1000000 in
theorem Year_one (w : World) : Calls Tryd.prog 9 #[.int .u8 1] w fun e w' => e = .returned (.int .i64 365) ∧ w = w' := by
  go_enter Tryd.func9, Tryd.ntmps9
  go_wp2_with fail
  go_ret
  exact ⟨rfl, rfl⟩

def day228 : Int := 738578
theorem text228 : dayText day228 = ⟨#[50, 48, 50, 51, 45, 48, 50, 45, 50, 56]⟩ := by kernel_rfl
theorem days228 : daysB 2 day228 (day228 + 1) = 3 := by kernel_rfl

set_option maxRecDepth 20000 in
set_option maxHeartbeats 1000000 in
theorem awake6 (w : World) (hw : Lens w) (hp : Pows w) : Calls Tryd.prog 5 #[] w fun e w' => e = .returned (.bool true) ∧ Below w.heap.size w w' := by
  have hR := Read_text 738578 (by decide) (by decide) w hw hp
  have hT : dayText 738578 = ⟨#[50, 48, 50, 51, 45, 48, 50, 45, 50, 56]⟩ := text228
  rw [hT] at hR
  have hD := fun W (hW : Lens W) => Days_ok 2 738578 738579 (by decide) (by decide) (by decide) (by decide) W hW
  have hE : daysB 2 738578 738579 = 3 := days228
  rw [hE] at hD
  have HW := Lib.hid hw
  clear hT hE hw hp
  go_enter Tryd.func5, Tryd.ntmps5
  go_wp2_with fail
  refine hR.mono ?_
  rintro e w1 ⟨rfl, hb1⟩
  go_wp2_with fail
  refine (hD _ (HW.out.below hb1)).mono ?_
  rintro e w2 ⟨rfl, hb2⟩
  go_wp2_with fail
  refine (Year_one _).mono ?_
  rintro e w3 ⟨rfl, rfl⟩
  go_wp2_with fail
  go_ret
  exact ⟨rfl, hb1.trans (hb2.mono hb1.size)⟩

end Go.Proofs.YthbifpmjkaonnabDoor
