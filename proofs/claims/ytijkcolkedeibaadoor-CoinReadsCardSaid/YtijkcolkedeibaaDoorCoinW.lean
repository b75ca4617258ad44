import Derived.Test.YtijkcolkedeibaaDoorCoinV
namespace Go.Proofs.YtijkcolkedeibaaDoor
open Go.RowKit Go.Lib

set_option maxHeartbeats 4000000 in
set_option maxRecDepth 20000 in
theorem isText_5 (w : World) (m : Int) (hm : w.cell? ⟨3, 0, none⟩ = some (.int .i64 m)) :
    Calls Tryd.prog 10 #[.string ⟨#[45, 48, 46, 48, 53]⟩] w fun e w' => e = .returned (.bool true) ∧ Below w.heap.size w w' := by
  have cP := fun W => Tryd.strings_CutPrefix ⟨#[45, 48, 46, 48, 53]⟩ ⟨#[45]⟩ W
  have e1 : (⟨(Lib.trimPrefix [45, 48, 46, 48, 53] [45]).toArray⟩ : ByteArray) = ⟨#[48, 46, 48, 53]⟩ := by kernel_rfl
  have e2 : Lib.hasPrefix [45, 48, 46, 48, 53] [45] = true := by kernel_rfl
  have cC := Tryd.strings_Cut ⟨#[48, 46, 48, 53]⟩ ⟨#[46]⟩ m w (show (4 : Nat) < 4294967281 by omega) hm
  have e3 : Lib.cut [48, 46, 48, 53] [46] = ([48], [48, 53], true) := by kernel_rfl
  replace cP : ∀ W, Calls Tryd.prog 16 #[.string ⟨#[45, 48, 46, 48, 53]⟩, .string ⟨#[45]⟩] W fun e w' => e = .returned (.tuple #[.string ⟨#[48, 46, 48, 53]⟩, .bool true]) ∧ w' = W := fun W => by
    have h := cP W
    dsimp only at h
    rw [e1, e2] at h
    exact h
  replace cC : Calls Tryd.prog 17 #[.string ⟨#[48, 46, 48, 53]⟩, .string ⟨#[46]⟩] w fun e w' => e = .returned (.tuple #[.string ⟨#[48]⟩, .string ⟨#[48, 53]⟩, .bool true]) ∧ ∃ n, w' = w.drewN n := by
    dsimp only at cC
    rw [e3] at cC
    exact cC
  have cD1 := fun W => digits_any W ⟨#[48]⟩
  have cD2 := fun W => digits_any W ⟨#[48, 53]⟩
  rw [show digitsOf ⟨#[48]⟩ = true by kernel_rfl] at cD1
  rw [show digitsOf ⟨#[48, 53]⟩ = true by kernel_rfl] at cD2
  clear e1 e2 e3
  go_enter Tryd.func10, Tryd.ntmps10
  go_wp2_with fail
  refine (cP _).mono ?_
  rintro e w' ⟨rfl, rfl⟩
  go_wp2_with fail
  refine cC.mono ?_
  rintro e w' ⟨rfl, n, rfl⟩
  clear cP cC
  go_wp2_with fail
  refine (cD1 _).mono ?_
  rintro e w1 ⟨rfl, hb1⟩
  clear cD1
  go_wp2_with fail
  refine (cD2 _).mono ?_
  rintro e w2 ⟨rfl, hb2⟩
  clear cD2
  go_wp2_with fail
  go_ret
  exact ⟨by kernel_rfl, Below.trans ((below_drewN (Below.refl _ _) n).trans hb1) (hb2.mono hb1.size)⟩
end Go.Proofs.YtijkcolkedeibaaDoor
