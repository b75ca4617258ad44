/-


-/
import Derived.Test.YtpbfipeinblfgaaGreatDoorLenQ9
import Derived.Test.YtpbfipeinblfgaaGreatDoorMemQ9
import Derived.WalkLawsBesides
import Derived.Handy
import Derived.RegionTactic
namespace Go.Proofs.YtpbfipeinblfgaaGreatDoor
open Go.RowKit

set_option maxHeartbeats 4000000 in
set_option maxRecDepth 20000 in
theorem Digits_105 (w : World) (hT : w.cell? ⟨6, 2, none⟩ = some (.int .u64 100)) :
    Calls Tryz.prog 173 #[.int .u64 105] w fun e w' => e = .returned (.int .i64 3) ∧ w' = w := by
  have hL := fun W => bits_Len64 105 W (by decide) (by decide)
  rw [show Lib.bitLen (105 : Int).toNat = 7 from by decide] at hL
  replace hL : ∀ W, Calls Tryz.prog 208 #[.int .u64 105] W fun e w' => e = .returned (.int .i64 7) ∧ w' = W := hL
  have hG : Calls Tryz.prog 207 #[.int .i64 7] w fun e w' => e = .returned (.int .i64 2) ∧ w' = w := by
    go_enter Tryz.func207, Tryz.ntmps207
    go_wp2
    go_ret
    exact ⟨rfl, rfl⟩
  have hB : Calls Tryz.prog 209 #[.bool true] w fun e w' => e = .returned (.int .i64 1) ∧ w' = w := by
    go_enter Tryz.func209, Tryz.ntmps209
    go_wp2
    go_ret
    exact ⟨rfl, rfl⟩
  go_enter Tryz.func173, Tryz.ntmps173
  go_wp2_with (first
    | (go_at_call 208; refine (hL _).mono ?_; rintro e w' ⟨rfl, rfl⟩)
    | (go_at_call 207; refine hG.mono ?_; rintro e w' ⟨rfl, rfl⟩)
    | (go_at_call 209; refine hB.mono ?_; rintro e w' ⟨rfl, rfl⟩))
  go_ret
  exact ⟨rfl, rfl⟩

set_option maxHeartbeats 4000000 in
set_option maxRecDepth 20000 in
theorem Format_0 (w : World) :
    Calls Tryz.prog 84 #[.int .u64 0, .int .i64 10] w fun e w' => e = .returned (.string ⟨#[48]⟩) ∧ w' = w := by
  go_enter Tryz.func84, Tryz.ntmps84
  go_wp2
  go_ret
  exact ⟨by kernel_rfl, rfl⟩

set_option maxHeartbeats 4000000 in
set_option maxRecDepth 20000 in
theorem Base_105 (w : World) (B : Nat) (t : TypeId) (hB : Blk w B t #[.int .u8 0, .int .u8 0, .int .u8 0, .int .u8 0, .int .u8 0, .int .u8 0, .int .u8 0, .int .u8 0, .int .u8 0, .int .u8 0, .int .u8 0, .int .u8 0, .int .u8 0, .int .u8 0, .int .u8 0, .int .u8 0, .int .u8 0, .int .u8 0, .int .u8 0, .int .u8 0, .int .u8 0, .int .u8 0, .int .u8 0, .int .u8 0]) :
    Calls Tryz.prog 174 #[.slice (some ⟨B, 0, none⟩) 3 24, .int .u64 105] w fun e w' => e = .returned (.tuple #[]) ∧ w' = (((w.setCell ⟨B, 2, none⟩ (.int .u8 53)).setCell ⟨B, 1, none⟩ (.int .u8 48)).setCell ⟨B, 0, none⟩ (.int .u8 49)).drew := by
  have c0 : w.cell? ⟨B, 0, none⟩ = some (.int .u8 0) := hB.cell 0
  have c1 : w.cell? ⟨B, 1, none⟩ = some (.int .u8 0) := hB.cell 1
  have c2 : w.cell? ⟨B, 2, none⟩ = some (.int .u8 0) := hB.cell 2
  have f0 := hB.frozen 0
  have f1 := hB.frozen 1
  have f2 := hB.frozen 2
  go_enter Tryz.func174, Tryz.ntmps174
  go_wp2
  go_rounds 1
  go_region
  go_wp2
  go_returns
  exact ⟨rfl, by rfl⟩

set_option maxHeartbeats 4000000 in
set_option maxRecDepth 20000 in
theorem Format_105 (w : World) (hT : w.cell? ⟨6, 2, none⟩ = some (.int .u64 100)) :
    Calls Tryz.prog 84 #[.int .u64 105, .int .i64 10] w fun e w' => e = .returned (.string ⟨#[49, 48, 53]⟩) ∧ Below w.heap.size w w' := by
  have hN := fun o => Digits_105 (w.alloc o) ((World.cell?_alloc_lt w o _ (block_lt_of_cell hT)).trans hT)
  have hF := Base_105 (w.alloc (.cells #[.int .u8 0, .int .u8 0, .int .u8 0, .int .u8 0, .int .u8 0, .int .u8 0, .int .u8 0, .int .u8 0, .int .u8 0, .int .u8 0, .int .u8 0, .int .u8 0, .int .u8 0, .int .u8 0, .int .u8 0, .int .u8 0, .int .u8 0, .int .u8 0, .int .u8 0, .int .u8 0, .int .u8 0, .int .u8 0, .int .u8 0, .int .u8 0] 251)) w.heap.size 251 (Blk.new w _ _)
  have hF2 : Calls Tryz.prog 136 #[.int .u64 105, .int .i64 10] w fun e w' => e = .returned (.string ⟨#[49, 48, 53]⟩) ∧ Below w.heap.size w w' := by
    go_enter Tryz.func136, Tryz.ntmps136
    go_wp2_with fail
    refine (hN _).mono ?_
    rintro e w1 ⟨rfl, rfl⟩
    go_wp2_with fail
    refine hF.mono ?_
    rintro e w1 ⟨rfl, e1⟩
    have hb : Below w.heap.size w w1 := by
      subst e1
      exact Below.drew (Below.setCell (Below.setCell (Below.setCell (Below.alloc (Below.refl _ w) (Nat.le_refl _) _) (Nat.le_refl _) _) (Nat.le_refl _) _) (Nat.le_refl _) _)
    have hB2 := ((((Blk.new w 251 #[.int .u8 0, .int .u8 0, .int .u8 0, .int .u8 0, .int .u8 0, .int .u8 0, .int .u8 0, .int .u8 0, .int .u8 0, .int .u8 0, .int .u8 0, .int .u8 0, .int .u8 0, .int .u8 0, .int .u8 0, .int .u8 0, .int .u8 0, .int .u8 0, .int .u8 0, .int .u8 0, .int .u8 0, .int .u8 0, .int .u8 0, .int .u8 0]).set_ 2 (.int .u8 53)).set_ 1 (.int .u8 48)).set_ 0 (.int .u8 49)).drew
    rw [← e1] at hB2
    have d0 : w1.cell? ⟨w.heap.size, 0, none⟩ = some (.int .u8 49) := hB2.cell 0
    have d1 : w1.cell? ⟨w.heap.size, 1, none⟩ = some (.int .u8 48) := hB2.cell 1
    have d2 : w1.cell? ⟨w.heap.size, 2, none⟩ = some (.int .u8 53) := hB2.cell 2
    have hcv := run_convert_bytes_back (P := Tryz.prog) w1 30 9 5 ⟨w.heap.size, 0, none⟩ 24 [49, 48, 53] (by rfl) (by rfl) (by rfl) (fun j hj => by
      match j, hj with
      | 0, _ => exact d0
      | 1, _ => exact d1
      | 2, _ => exact d2)
    rw [show ([49, 48, 53] : List UInt8).length = 3 from rfl] at hcv
    clear e1 hF hN
    go_wp2_with fail
    go_returns
    exact ⟨rfl, hb⟩
  go_enter Tryz.func84, Tryz.ntmps84
  go_wp2_with (go_at_call 136; refine hF2.mono ?_; rintro e w1 ⟨rfl, hb⟩)
  go_ret
  exact ⟨rfl, hb⟩
end Go.Proofs.YtpbfipeinblfgaaGreatDoor
namespace Go.Proofs.YtpbfipeinblfgaaGreatDoor
open Go.RowKit

set_option maxHeartbeats 4000000 in
set_option maxRecDepth 20000 in
theorem Text_5 (w : World) (hT : w.cell? ⟨6, 2, none⟩ = some (.int .u64 100)) :
    Calls Tryz.prog 83 #[.int .i64 (-5)] w fun e w' => e = .returned (.string ⟨#[45, 48, 46, 48, 53]⟩) ∧ Below w.heap.size w w' := by
  have h0 := Format_0 w
  have h1 := Format_105 w hT
  go_enter Tryz.func83, Tryz.ntmps83
  go_wp2_with (first
    | (go_at_call 84; refine h0.mono ?_; rintro e w' ⟨rfl, rfl⟩)
    | (go_at_call 84; refine h1.mono ?_; rintro e w1 ⟨rfl, hb⟩))
  go_ret
  exact ⟨by kernel_rfl, hb⟩

end Go.Proofs.YtpbfipeinblfgaaGreatDoor
