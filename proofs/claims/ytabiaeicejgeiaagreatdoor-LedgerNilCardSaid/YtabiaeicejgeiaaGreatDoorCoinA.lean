/-
  coin: Add, Sub, Neg, Least, Right; the references' Add and Sub. Conditions: the numbers' kinds.
-/
import Derived.Test.YtabiaeicejgeiaaGreatDoorMem
import Derived.Handy
namespace Go.Proofs.YtabiaeicejgeiaaGreatDoor
open Go.RowKit

/-- Within 64 bits. -/
def Fits (x : Int) : Prop := -9223372036854775808 ≤ x ∧ x ≤ 9223372036854775807
instance (x : Int) : Decidable (Fits x) := inferInstanceAs (Decidable (_ ∧ _))

set_option maxHeartbeats 1000000 in
theorem CoinAdd_any (a b : Int) (ha : Fits a) (hb : Fits b) (w : World) :
    Calls Tryz.prog 82 #[.int .i64 a, .int .i64 b] w fun e w' => e = .returned (if Fits (a + b) then .tuple #[.int .i64 (a + b), .nilIface] else .tuple #[.int .i64 0, .iface 59 (.int .i64 12)]) ∧ w' = w := by
  unfold Fits at ha hb
  obtain ⟨ha1, ha2⟩ := ha
  obtain ⟨hb1, hb2⟩ := hb
  have i1 : 0 < b → IntKind.i64.wrap (9223372036854775807 - b) = 9223372036854775807 - b := fun h => by rw [IntKind.wrap_i64]; omega
  have i2 : b < 0 → IntKind.i64.wrap (-9223372036854775808 - b) = -9223372036854775808 - b := fun h => by rw [IntKind.wrap_i64]; omega
  by_cases hf : Fits (a + b)
  · rw [if_pos hf]
    unfold Fits at hf
    obtain ⟨hf1, hf2⟩ := hf
    have i3 : IntKind.i64.wrap (a + b) = a + b := by rw [IntKind.wrap_i64]; omega
    rcases Int.lt_trichotomy b 0 with h | h | h
    · have i2 := i2 h
      have h2 : ¬ a < -9223372036854775808 - b := by omega
      have h3 : ¬ 0 < b := by omega
      clear i1
      go_enter Tryz.func82, Tryz.ntmps82
      go_wp2
      go_ret2
      exact ⟨rfl, rfl⟩
    · subst h
      clear i1 i2
      go_enter Tryz.func82, Tryz.ntmps82
      go_wp2
      go_ret2
      refine ⟨?_, rfl⟩
      rw [Int.add_zero]
      rfl
    · have i1 := i1 h
      have h2 : ¬ 9223372036854775807 - b < a := by omega
      have h3 : ¬ b < 0 := by omega
      clear i2
      go_enter Tryz.func82, Tryz.ntmps82
      go_wp2
      go_ret2
      exact ⟨rfl, rfl⟩
  · rw [if_neg hf]
    have hf' : ¬ (-9223372036854775808 ≤ a + b ∧ a + b ≤ 9223372036854775807) := hf
    rcases Int.lt_trichotomy b 0 with h | h | h
    · have i2 := i2 h
      have h2 : a < -9223372036854775808 - b := by omega
      have h3 : ¬ 0 < b := by omega
      clear i1 hf hf'
      go_enter Tryz.func82, Tryz.ntmps82
      go_wp2
      go_ret2
      exact ⟨rfl, rfl⟩
    · exfalso
      omega
    · have i1 := i1 h
      have h2 : 9223372036854775807 - b < a := by omega
      have h3 : ¬ b < 0 := by omega
      clear i2 hf hf'
      go_enter Tryz.func82, Tryz.ntmps82
      go_wp2
      go_ret2
      exact ⟨rfl, rfl⟩

set_option maxHeartbeats 1000000 in
theorem CoinSub_any (a b : Int) (ha : Fits a) (hb : Fits b) (w : World) :
    Calls Tryz.prog 106 #[.int .i64 a, .int .i64 b] w fun e w' => e = .returned (if Fits (a - b) then .tuple #[.int .i64 (a - b), .nilIface] else .tuple #[.int .i64 0, .iface 59 (.int .i64 12)]) ∧ w' = w := by
  unfold Fits at ha hb
  obtain ⟨ha1, ha2⟩ := ha
  obtain ⟨hb1, hb2⟩ := hb
  have i1 : b < 0 → IntKind.i64.wrap (9223372036854775807 + b) = 9223372036854775807 + b := fun h => by rw [IntKind.wrap_i64]; omega
  have i2 : 0 < b → IntKind.i64.wrap (-9223372036854775808 + b) = -9223372036854775808 + b := fun h => by rw [IntKind.wrap_i64]; omega
  by_cases hf : Fits (a - b)
  · rw [if_pos hf]
    unfold Fits at hf
    obtain ⟨hf1, hf2⟩ := hf
    have i3 : IntKind.i64.wrap (a - b) = a - b := by rw [IntKind.wrap_i64]; omega
    rcases Int.lt_trichotomy b 0 with h | h | h
    · have i1 := i1 h
      have h2 : ¬ 9223372036854775807 + b < a := by omega
      have h3 : ¬ 0 < b := by omega
      clear i2
      go_enter Tryz.func106, Tryz.ntmps106
      go_wp2
      go_ret2
      exact ⟨rfl, rfl⟩
    · subst h
      clear i1 i2
      go_enter Tryz.func106, Tryz.ntmps106
      go_wp2
      go_ret2
      refine ⟨?_, rfl⟩
      rw [Int.sub_zero]
      rfl
    · have i2 := i2 h
      have h2 : ¬ a < -9223372036854775808 + b := by omega
      have h3 : ¬ b < 0 := by omega
      clear i1
      go_enter Tryz.func106, Tryz.ntmps106
      go_wp2
      go_ret2
      exact ⟨rfl, rfl⟩
  · rw [if_neg hf]
    have hf' : ¬ (-9223372036854775808 ≤ a - b ∧ a - b ≤ 9223372036854775807) := hf
    rcases Int.lt_trichotomy b 0 with h | h | h
    · have i1 := i1 h
      have h2 : 9223372036854775807 + b < a := by omega
      have h3 : ¬ 0 < b := by omega
      clear i2 hf hf'
      go_enter Tryz.func106, Tryz.ntmps106
      go_wp2
      go_ret2
      exact ⟨rfl, rfl⟩
    · exfalso
      omega
    · have i2 := i2 h
      have h2 : a < -9223372036854775808 + b := by omega
      have h3 : ¬ b < 0 := by omega
      clear i1 hf hf'
      go_enter Tryz.func106, Tryz.ntmps106
      go_wp2
      go_ret2
      exact ⟨rfl, rfl⟩

set_option maxHeartbeats 1000000 in
theorem RefCAdd_any (a b : Int) (ha : Fits a) (hb : Fits b) (w : World) :
    Calls Tryz.prog 86 #[.int .i64 a, .int .i64 b] w fun e w' => e = .returned (if Fits (a + b) then .tuple #[.int .i64 (a + b), .bool true] else .tuple #[.int .i64 0, .bool false]) ∧ w' = w := by
  unfold Fits at ha hb
  obtain ⟨ha1, ha2⟩ := ha
  obtain ⟨hb1, hb2⟩ := hb
  have i1 : 0 < b → IntKind.i64.wrap (9223372036854775807 - b) = 9223372036854775807 - b := fun h => by rw [IntKind.wrap_i64]; omega
  have i2 : b < 0 → IntKind.i64.wrap (-9223372036854775808 - b) = -9223372036854775808 - b := fun h => by rw [IntKind.wrap_i64]; omega
  by_cases hf : Fits (a + b)
  · rw [if_pos hf]
    unfold Fits at hf
    obtain ⟨hf1, hf2⟩ := hf
    have i3 : IntKind.i64.wrap (a + b) = a + b := by rw [IntKind.wrap_i64]; omega
    rcases Int.lt_trichotomy b 0 with h | h | h
    · have i2 := i2 h
      have h2 : ¬ a < -9223372036854775808 - b := by omega
      have h3 : ¬ 0 < b := by omega
      clear i1
      go_enter Tryz.func86, Tryz.ntmps86
      go_wp2
      go_ret2
      exact ⟨rfl, rfl⟩
    · subst h
      clear i1 i2
      go_enter Tryz.func86, Tryz.ntmps86
      go_wp2
      go_ret2
      refine ⟨?_, rfl⟩
      rw [Int.add_zero]
      rfl
    · have i1 := i1 h
      have h2 : ¬ 9223372036854775807 - b < a := by omega
      have h3 : ¬ b < 0 := by omega
      clear i2
      go_enter Tryz.func86, Tryz.ntmps86
      go_wp2
      go_ret2
      exact ⟨rfl, rfl⟩
  · rw [if_neg hf]
    have hf' : ¬ (-9223372036854775808 ≤ a + b ∧ a + b ≤ 9223372036854775807) := hf
    rcases Int.lt_trichotomy b 0 with h | h | h
    · have i2 := i2 h
      have h2 : a < -9223372036854775808 - b := by omega
      have h3 : ¬ 0 < b := by omega
      clear i1 hf hf'
      go_enter Tryz.func86, Tryz.ntmps86
      go_wp2
      go_ret2
      exact ⟨rfl, rfl⟩
    · exfalso
      omega
    · have i1 := i1 h
      have h2 : 9223372036854775807 - b < a := by omega
      have h3 : ¬ b < 0 := by omega
      clear i2 hf hf'
      go_enter Tryz.func86, Tryz.ntmps86
      go_wp2
      go_ret2
      exact ⟨rfl, rfl⟩

set_option maxHeartbeats 1000000 in
theorem CoinNeg_any (a : Int) (ha : Fits a) (w : World) :
    Calls Tryz.prog 78 #[.int .i64 a] w fun e w' => e = .returned (if Fits (0 - a) then .tuple #[.int .i64 (0 - a), .nilIface] else .tuple #[.int .i64 0, .iface 59 (.int .i64 12)]) ∧ w' = w := by
  have hS := CoinSub_any 0 a (by decide) ha w
  by_cases hf : Fits (0 - a)
  · rw [if_pos hf] at hS ⊢
    go_enter Tryz.func78, Tryz.ntmps78
    go_wp2_with (go_at_call 106; refine hS.mono ?_; rintro e w' ⟨rfl, rfl⟩)
    go_ret2
    exact ⟨by rw [Int.zero_sub]; rfl, rfl⟩
  · rw [if_neg hf] at hS ⊢
    go_enter Tryz.func78, Tryz.ntmps78
    go_wp2_with (go_at_call 106; refine hS.mono ?_; rintro e w' ⟨rfl, rfl⟩)
    go_ret2
    exact ⟨rfl, rfl⟩

end Go.Proofs.YtabiaeicejgeiaaGreatDoor
