/-
A day that there isn't has no text; the reference's Text of a date. Conditions: the months' lengths and strconv's powers of ten are laid.
-/
import Derived.Test.YtjlajnackecfgaaGreatDoorTextBX9
namespace Go.Proofs.YtjlajnackecfgaaGreatDoor
open Go.RowKit

set_option maxRecDepth 20000 in
set_option maxHeartbeats 1000000 in
theorem DText_no (n : Int) (h : n < 0 ∨ 3652058 < n) (w : World) :
    Calls Tryz.prog 46 #[.int .i32 n] w fun e w' => e = .returned (.string ⟨#[]⟩) ∧ Below w.heap.size w w' := by
  have hC := DCivil_no n h w
  clear h
  go_enter Tryz.func46, Tryz.ntmps46
  go_wp2_with fail
  refine hC.mono ?_
  rintro e w1 ⟨rfl, hb1⟩
  have HB1 := Lib.hid (hb1.alloc hb1.size (.cells #[.int .i64 0, .int .i64 0, .int .i64 0] 129))
  clear hb1
  go_wp2_with fail
  go_ret
  exact ⟨rfl, HB1.out⟩

theorem ten_cut (n : Nat) (h : n < 10) : ({ data := #[48, 49, 50, 51, 52, 53, 54, 55, 56, 57] } : ByteArray).extract n (n + 1) = ⟨#[dgt n]⟩ := by
  rcases (show n = 0 ∨ n = 1 ∨ n = 2 ∨ n = 3 ∨ n = 4 ∨ n = 5 ∨ n = 6 ∨ n = 7 ∨ n = 8 ∨ n = 9 by omega) with rfl | rfl | rfl | rfl | rfl | rfl | rfl | rfl | rfl | rfl <;> rfl
set_option maxRecDepth 20000 in
set_option maxHeartbeats 1000000 in
theorem Dec_small (n : Nat) (h : n < 10) (w : World) :
    Calls Tryz.prog 48 #[.int .u64 (n : Int)] w fun e w' => e = .returned (.string ⟨#[dgt n]⟩) ∧ w = w' := by
  have hc := ten_cut n h
  have h' : (n : Int) < 10 := by omega
  go_enter Tryz.func48, Tryz.ntmps48
  go_wp2_with fail
  go_ret
  exact ⟨by rw [← hc]; first | rfl | simp, rfl⟩
theorem two_text (n : Nat) : ({ data := #[dgt (n / 10 % 10)] } : ByteArray) ++ { data := #[dgt (n % 10)] } = ⟨(pad2 n).toArray⟩ := by
  have e1 : dgt (n / 10 % 10) = dgt (n / 10) := by unfold dgt; rw [Nat.mod_mod]
  have e2 : dgt (n % 10) = dgt n := by unfold dgt; rw [Nat.mod_mod]
  rw [e1, e2]
  apply ByteArray.ext
  apply Array.toList_inj.1
  simp [ByteArray.data_append, pad2]
set_option maxRecDepth 20000 in
set_option maxHeartbeats 1000000 in
theorem two_any (n : Nat) (h : n < 100000) (w : World) :
    Calls Tryz.prog 81 #[.int .i64 (n : Int)] w fun e w' => e = .returned (.string ⟨(pad2 n).toArray⟩) ∧ Below w.heap.size w w' := by
  have hA := fun W => Dec_small (n / 10 % 10) (by omega) W
  have hB := fun W => Dec_small (n % 10) (by omega) W
  have HT := Lib.hid (two_text n)
  have e1 : ((n / 10 % 10 : Nat) : Int) = (n : Int) / 10 % 10 := by omega
  have e2 : ((n % 10 : Nat) : Int) = (n : Int) % 10 := by omega
  rw [e1] at hA
  rw [e2] at hB
  clear e1 e2
  go_enter Tryz.func81, Tryz.ntmps81
  go_wp2_with fail
  refine (hA _).mono ?_
  rintro e w1 ⟨rfl, rfl⟩
  go_wp2_with fail
  refine (hB _).mono ?_
  rintro e w1 ⟨rfl, rfl⟩
  go_wp2_with fail
  go_ret
  exact ⟨ret_string HT.out, Below.refl _ _⟩

theorem whole_text (y m d : Nat) : (((((({ data := (pad2 (y / 100)).toArray } : ByteArray) ++ { data := (pad2 y).toArray }) ++ { data := #[45] }) ++ { data := (pad2 m).toArray }) ++ { data := #[45] }) ++ { data := (pad2 d).toArray }) = textS y m d := by
  have e : dgt (y / 100 / 10) = dgt (y / 1000) := by rw [Nat.div_div_eq_div_mul]
  apply ByteArray.ext
  apply Array.toList_inj.1
  simp [ByteArray.data_append, pad2, pad4, textS, textL, e]
set_option maxRecDepth 20000 in
set_option maxHeartbeats 1000000 in
theorem RText5_any (Y M D : Nat) (hy : Y < 10000) (hm : M < 100) (hd : D < 100) (w : World) :
    Calls Tryz.prog 50 #[.agg #[.int .i64 (Y : Int), .int .i64 (M : Int), .int .i64 (D : Int)]] w fun e w' => e = .returned (.string (textS Y M D)) ∧ Below w.heap.size w w' := by
  have h1 := fun W => two_any (Y / 100) (by omega) W
  have h2 := fun W => two_any Y (by omega) W
  have h3 := fun W => two_any M (by omega) W
  have h4 := fun W => two_any D (by omega) W
  have e1 : ((Y / 100 : Nat) : Int) = (Y : Int) / 100 := by omega
  rw [e1] at h1
  have HT := Lib.hid (whole_text Y M D)
  have l1 : (pad2 (Y / 100)).length ≤ 2 := Nat.le_refl _
  have l2 : (pad2 Y).length ≤ 2 := Nat.le_refl _
  have l3 : (pad2 M).length ≤ 2 := Nat.le_refl _
  have l4 : (pad2 D).length ≤ 2 := Nat.le_refl _
  generalize textS Y M D = S at *
  generalize pad2 (Y / 100) = A at *
  generalize pad2 Y = B at *
  generalize pad2 M = C at *
  generalize pad2 D = E at *
  clear e1
  go_enter Tryz.func50, Tryz.ntmps50
  go_wp2_with fail
  obtain ⟨W0, hw0⟩ : ∃ W, w.alloc (.cells #[.int .i64 (Y : Int), .int .i64 (M : Int), .int .i64 (D : Int)] 95) = W := ⟨_, rfl⟩
  have HB0 : Hid (Below w.heap.size w W0) := Lib.hid (by rw [← hw0]; exact below_alloc w _)
  obtain ⟨b0, b1, b2⟩ := box3 hw0
  have A1 := fun (dd : Nat) (os : Array Obj) => Calls.regrown_of (h1 (Go.Sort.grow (redrawn W0 dd) os))
  have A2 := fun (dd : Nat) (os : Array Obj) => Calls.regrown_of (h2 (Go.Sort.grow (redrawn W0 dd) os))
  have A3 := fun (dd : Nat) (os : Array Obj) => Calls.regrown_of (h3 (Go.Sort.grow (redrawn W0 dd) os))
  have A4 := fun (dd : Nat) (os : Array Obj) => Calls.regrown_of (h4 (Go.Sort.grow (redrawn W0 dd) os))
  rw [hw0]
  clear hw0 h1 h2 h3 h4
  refine wp_region_quiet_below (by kernel_rfl) (by kernel_rfl) ?_
  repeat (go_big_quiet_step (fail))
  go_big_quiet_step (exact A1 _ _)
  repeat (go_big_quiet_step (fail))
  go_big_quiet_step (exact A2 _ _)
  repeat (go_big_quiet_step (fail))
  go_big_quiet_step (exact A3 _ _)
  repeat (go_big_quiet_step (fail))
  go_big_quiet_step (exact A4 _ _)
  repeat (go_big_quiet_step (fail))
  refine wpQuiet_nil ?_
  intro w9 hw'
  have hbx : Below W0.heap.size W0 w9 := by
    obtain ⟨p, rfl⟩ := hw'
    exact below_regrown _ _ _
  clear hw' A1 A2 A3 A4 b0 b1 b2
  go_wp2_with fail
  go_ret
  exact ⟨ret_string HT.out, HB0.out.trans (hbx.mono HB0.out.size)⟩
end Go.Proofs.YtjlajnackecfgaaGreatDoor
