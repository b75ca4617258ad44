/-
  A nil drum; sizes that there can't be. No condition.
-/
import Derived.Test.YthljcekodlbplaaDoorDrumX
namespace Go.Proofs.YthljcekodlbplaaDoor
open Go.RowKit

theorem New_no (n : Int) (hn : ¬ (1 ≤ n ∧ n ≤ 8192)) (w : World) : Calls Tryd.prog 5 #[.int .i64 n] w fun e w' => e = .returned (.tuple #[.pointer none, .iface 40 (.int .i64 1)]) ∧ w' = w := by
  go_enter Tryd.func5, Tryd.ntmps5
  by_cases h1 : n < 1
  · go_wp2
    go_ret2
    exact ⟨rfl, rfl⟩
  · have h2 : 8192 < n := by omega
    go_wp2
    go_ret2
    exact ⟨rfl, rfl⟩
theorem Read_nil (i : Int) (w : World) : Calls Tryd.prog 15 #[.pointer none, .int .i64 i] w fun e w' => e = .returned (.tuple #[.slice none 0 0, .iface 40 (.int .i64 3)]) ∧ w' = w := by
  go_enter Tryd.func15, Tryd.ntmps15
  go_wp2
  go_ret2
  exact ⟨rfl, rfl⟩
theorem Arm_nil (n : Int) (w : World) : Calls Tryd.prog 19 #[.pointer none, .int .i64 n] w fun e w' => e = .returned (.tuple #[]) ∧ w' = w := by
  go_enter Tryd.func19, Tryd.ntmps19
  go_wp2
  go_end0
  exact ⟨rfl, rfl⟩
theorem Size_nil (w : World) : Calls Tryd.prog 27 #[.pointer none] w fun e w' => e = .returned (.int .i64 0) ∧ w' = w := by
  go_enter Tryd.func27, Tryd.ntmps27
  go_wp2
  go_ret
  exact ⟨rfl, rfl⟩
theorem Dirty_nil (w : World) : Calls Tryd.prog 28 #[.pointer none] w fun e w' => e = .returned (.int .i64 0) ∧ w' = w := by
  go_enter Tryd.func28, Tryd.ntmps28
  go_wp2
  go_ret
  exact ⟨rfl, rfl⟩
theorem Write_nil (i : Int) (A : Option Addr) (n c : Nat) (w : World) : Calls Tryd.prog 13 #[.pointer none, .int .i64 i, .slice A n c] w fun e w' => e = .returned (.iface 40 (.int .i64 3)) ∧ w' = w := by
  go_enter Tryd.func13, Tryd.ntmps13
  go_wp2
  go_ret
  exact ⟨rfl, rfl⟩
theorem Flush_nil (w : World) : Calls Tryd.prog 17 #[.pointer none] w fun e w' => e = .returned (.iface 40 (.int .i64 3)) ∧ w' = w := by
  go_enter Tryd.func17, Tryd.ntmps17
  go_wp2
  go_ret
  exact ⟨rfl, rfl⟩
theorem Fall_nil (A : Option Addr) (n c : Nat) (t : Int) (w : World) : Calls Tryd.prog 14 #[.pointer none, .slice A n c, .int .i64 t] w fun e w' => e = .returned (.pointer none) ∧ w' = w := by
  go_enter Tryd.func14, Tryd.ntmps14
  go_wp2
  go_ret
  exact ⟨rfl, rfl⟩
theorem Clean_nil (i : Int) (w : World) : Calls Tryd.prog 31 #[.pointer none, .int .i64 i] w fun e w' => e = .returned (.bool false) ∧ w' = w := by
  go_enter Tryd.func31, Tryd.ntmps31
  go_wp2
  go_ret
  exact ⟨rfl, rfl⟩
theorem Turn_nil (i b m : Int) (w : World) : Calls Tryd.prog 18 #[.pointer none, .int .i64 i, .int .i64 b, .int .u32 m] w fun e w' => e = .returned (.iface 40 (.int .i64 3)) ∧ w' = w := by
  go_enter Tryd.func18, Tryd.ntmps18
  go_wp2
  go_ret
  exact ⟨rfl, rfl⟩
theorem Copy_nil (w : World) : Calls Tryd.prog 12 #[.pointer none] w fun e w' => e = .returned (.pointer none) ∧ w' = w := by
  go_enter Tryd.func12, Tryd.ntmps12
  go_wp2
  go_ret
  exact ⟨rfl, rfl⟩

section
variable {w w' : World} {base d n : Nat} {o o' : Nat → Prop} {fl : List (List UInt8)} {ws : List (Nat × List UInt8)} {left : Int} {A : Option Addr} {l : List UInt8}
theorem Size_dr (h : Dr w base d o fl ws left) : Calls Tryd.prog 27 #[.pointer (some ⟨d, 0, none⟩)] w fun e w' => e = .returned (.int .i64 (fl.length : Int)) ∧ w' = w := by
  obtain ⟨f, g, V, cv, T, ls, h, hr, rfl⟩ := h
  obtain ⟨c0, -⟩ := dhead_cells h.head
  clear h hr
  go_enter Tryd.func27, Tryd.ntmps27
  go_wp2
  go_ret
  exact ⟨rfl, rfl⟩
theorem Arm_dr (h : Dr w base d o fl ws left) (n : Int) : Calls Tryd.prog 19 #[.pointer (some ⟨d, 0, none⟩), .int .i64 n] w fun e w' => e = .returned (.tuple #[]) ∧ Dr w' base d o fl ws n ∧ Kept o w w' := by
  obtain ⟨f, g, V, cv, T, ls, h, hr, rfl⟩ := h
  obtain ⟨-, -, -, c3, -, -, z3⟩ := dhead_cells h.head
  have HD : Hid (Dru (w.setCell ⟨d, 3, none⟩ (.int .i64 n)) base d f g V cv T fl ws ls n) := Lib.hid (h.spent (kept_set w d 3 none _) (dhead_spent h.head n))
  have HK : Hid (Kept (ownOf d f g V) w (w.setCell ⟨d, 3, none⟩ (.int .i64 n))) := Lib.hid ((kept_set w d 3 none _).mono fun i e => .inl e)
  have HR := Lib.hid hr
  clear h hr
  go_enter Tryd.func19, Tryd.ntmps19
  go_wp2
  go_end0
  exact ⟨rfl, ⟨f, g, V, cv, T, ls, HD.out, HR.out, rfl⟩, HK.out⟩
theorem Write_index_dr (h : Dr w base d o fl ws left) (i : Int) (c : Nat) (hi : ¬ (0 ≤ i ∧ i < (fl.length : Int))) : Calls Tryd.prog 13 #[.pointer (some ⟨d, 0, none⟩), .int .i64 i, .slice A n c] w fun e w' => e = .returned (.iface 40 (.int .i64 7)) ∧ w' = w := by
  obtain ⟨f, g, V, cv, T, ls, h, hr, rfl⟩ := h
  exact Write_index i A n c h.head hi
theorem Write_long_dr (h : Dr w base d o fl ws left) (i : Int) (c : Nat) (hi : 0 ≤ i ∧ i < (fl.length : Int)) (hn : 256 < n) : Calls Tryd.prog 13 #[.pointer (some ⟨d, 0, none⟩), .int .i64 i, .slice A n c] w fun e w' => e = .returned (.iface 40 (.int .i64 4)) ∧ w' = w := by
  obtain ⟨f, g, V, cv, T, ls, h, hr, rfl⟩ := h
  exact Write_long i A n c h.head hi hn
theorem Write_off_dr (h : Dr w base d o fl ws 0) (i : Int) (c : Nat) (hi : 0 ≤ i ∧ i < (fl.length : Int)) (hn : n ≤ 256) : Calls Tryd.prog 13 #[.pointer (some ⟨d, 0, none⟩), .int .i64 i, .slice A n c] w fun e w' => e = .returned (.iface 40 (.int .i64 8)) ∧ w' = w := by
  obtain ⟨f, g, V, cv, T, ls, h, hr, rfl⟩ := h
  exact Write_off i A n c h.head hi hn
theorem Flush_off_dr (h : Dr w base d o fl ws 0) : Calls Tryd.prog 17 #[.pointer (some ⟨d, 0, none⟩)] w fun e w' => e = .returned (.iface 40 (.int .i64 8)) ∧ w' = w := by
  obtain ⟨f, g, V, cv, T, ls, h, hr, rfl⟩ := h
  have hh := h.head
  clear h hr
  go_enter Tryd.func17, Tryd.ntmps17
  go_wp2_with fail
  refine (spend_no hh).mono ?_
  rintro e w1 ⟨rfl, rfl⟩
  go_wp2
  go_ret
  exact ⟨rfl, rfl⟩
theorem Turn_index_dr (h : Dr w base d o fl ws left) (i bit mask : Int) (hi : ¬ ((0 ≤ i ∧ i < (fl.length : Int)) ∧ 0 ≤ bit ∧ bit < 2048)) :
    Calls Tryd.prog 18 #[.pointer (some ⟨d, 0, none⟩), .int .i64 i, .int .i64 bit, .int .u32 mask] w fun e w' => e = .returned (.iface 40 (.int .i64 7)) ∧ w' = w := by
  obtain ⟨f, g, V, cv, T, ls, h, hr, rfl⟩ := h
  have hh := h.head
  clear h hr
  go_enter Tryd.func18, Tryd.ntmps18
  go_wp2_with fail
  refine (has_any i hh).mono ?_
  rintro e w1 ⟨rfl, rfl⟩
  by_cases h1 : 0 ≤ i ∧ i < (fl.length : Int)
  · rw [decide_eq_true h1]
    by_cases h2 : bit < 0
    · go_wp2
      go_ret
      exact ⟨rfl, rfl⟩
    · have h3 : 2048 ≤ bit := by omega
      go_wp2
      go_ret
      exact ⟨rfl, rfl⟩
  · rw [decide_eq_false h1]
    go_wp2
    go_ret
    exact ⟨rfl, rfl⟩
end
end Go.Proofs.YthljcekodlbplaaDoor
