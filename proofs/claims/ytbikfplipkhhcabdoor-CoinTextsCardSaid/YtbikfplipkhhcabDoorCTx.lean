/-
  CoinTexts: the walk. Conditions: the numbers' kinds; strconv's powers of ten are laid; the document's example holds.
-/
import Derived.Test.YtbikfplipkhhcabDoorCRdN
namespace Go.Proofs.YtbikfplipkhhcabDoor
open Go.RowKit

set_option maxRecDepth 20000 in
set_option maxHeartbeats 4000000 in
theorem CTexts_any (a : Int) (ha : -9223372036854775808 ≤ a ∧ a ≤ 9223372036854775807) (w : World) (cW : Calls Tryd.prog 15 #[] w fun e w' => e = .returned (.bool true) ∧ Below w.heap.size w w') (hp : Pows w)
    (m : Int) (hm : w.cell? ⟨4, 0, none⟩ = some (.int .i64 m)) (te : TypeId) (pe : Value) (hR : w.cell? ⟨0, 0, none⟩ = some (.iface te pe)) :
    Calls Tryd.prog 5 #[.int .i64 a] w fun e w' => e = .returned (.bool true) ∧ Below w.heap.size w w' := by
  have hT := fun W (hP : Pows W) => CText_any a ha W hP
  have hRd := fun W (hm : W.cell? ⟨4, 0, none⟩ = some (.int .i64 m)) (hR : W.cell? ⟨0, 0, none⟩ = some (.iface te pe)) => Read_any a ha W m hm te pe hR
  have hF := fun W => RText4_any a ha W
  obtain ⟨S, hS⟩ : ∃ S, textC a = S := ⟨_, rfl⟩
  rw [hS] at hT hRd hF
  have HP := Lib.hid hp
  have HM := Lib.hid hm
  have HR := Lib.hid hR
  clear ha hp hm hR hS
  go_enter Tryd.func5, Tryd.ntmps5
  go_wp2_with fail
  refine cW.mono ?_
  rintro e w1 ⟨rfl, hb1⟩
  have HB1 := Lib.hid hb1
  clear hb1 cW
  go_wp2_with fail
  refine (hT _ (HP.out.below HB1.out)).mono ?_
  rintro e w2 ⟨rfl, hb2⟩
  have HB2 := Lib.hid (HB1.out.trans (hb2.mono HB1.out.size))
  clear hb2
  go_wp2_with fail
  refine (hRd _ ((HB2.out.cell (p := ⟨4, 0, none⟩) (block_lt_of_cell HM.out)).trans HM.out) ((HB2.out.cell (p := ⟨0, 0, none⟩) (block_lt_of_cell HR.out)).trans HR.out)).mono ?_
  rintro e w3 ⟨rfl, hb3⟩
  have HB3 := Lib.hid (HB2.out.trans (hb3.mono HB2.out.size))
  clear hb3
  go_wp2_with fail
  refine (hF _).mono ?_
  rintro e w4 ⟨rfl, rfl⟩
  go_wp2_with fail
  go_ret
  exact ⟨by first | rfl | simp, HB3.out⟩
end Go.Proofs.YtbikfplipkhhcabDoor
