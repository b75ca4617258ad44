/-
  WideScales: the walk. Conditions: the numbers' kinds; errors.errorType is laid.
-/
import Derived.Test.YtkgadbnfaoijaabDoorWideB
import Derived.Test.YtkgadbnfaoijaabDoorCodeC
import Derived.Test.YtkgadbnfaoijaabDoorRefS
namespace Go.Proofs.YtkgadbnfaoijaabDoor
open Go.RowKit

set_option maxHeartbeats 4000000 in
theorem Scales_any (a b c : Nat) (ha : a < 18446744073709551616) (hb : b < 18446744073709551616) (hc : c < 18446744073709551616) (w : World) (hw : Laid w) :
    Calls Tryd.prog 4 #[.int .u64 a, .int .u64 b, .int .u64 c] w (Ret (.bool true) w) := by
  have HW := Lib.hid hw
  clear hw
  by_cases hbad : c = 0 ∨ 18446744073709551616 ≤ a * b / c
  · have hS : ∃ n : Int, ((n != 0) = true) ∧ (∀ W, Calls Tryd.prog 24 #[.int .u64 a, .int .u64 b, .int .u64 c] W (Ret (.tuple #[.int .u64 0, .int .u64 0, .iface 38 (.int .i64 n)]) W)) ∧
        (∀ W, Calls Tryd.prog 25 #[.int .u64 a, .int .u64 b, .int .u64 c] W (Ret (.tuple #[.int .u64 0, .int .u64 0, .int .i64 n]) W)) ∧
        (∀ W, Calls Tryd.prog 26 #[.int .u64 a, .int .u64 b, .int .u64 c] W (Ret (.tuple #[.int .u64 0, .iface 38 (.int .i64 n)]) W)) := by
      rcases Nat.eq_zero_or_pos c with h0 | h0
      · subst h0
        exact ⟨1, rfl, fun W => Scale_zero a b ha hb W, fun W => RefScale_zero a b W, fun W => Round_zero a b ha hb W⟩
      · have hq : 18446744073709551616 ≤ a * b / c := by
          rcases hbad with h | h
          · omega
          · exact h
        refine ⟨12, rfl, fun W => Scale_over a b c ha hb h0 hc hq W, fun W => ?_, fun W => Round_over a b c ha hb h0 hc hq W⟩
        have h := RefScale_some a b c ha hb h0 hc W
        rwa [if_neg (by omega)] at h
    obtain ⟨n, hn, h1, h2, h3⟩ := hS
    clear hbad
    go_enter Tryd.func4, Tryd.ntmps4
    go_wp2_with fail
    refine (awake_any _).mono ?_
    rintro e w1 ⟨rfl, hb1⟩
    go_wp2_with fail
    refine (h1 _).mono ?_
    rintro e w2 ⟨rfl, hb2⟩
    go_wp2_with fail
    refine (h2 _).mono ?_
    rintro e w3 ⟨rfl, hb3⟩
    have hb' := hb1.trans ((hb2.trans (hb3.mono hb2.size)).mono hb1.size)
    have HW3 := Lib.hid (HW.out.below hb')
    clear hb1 hb2 hb3
    go_wp2_with fail
    refine (Code_errno _ _ HW3.out).mono ?_
    rintro e w4 ⟨rfl, hb4⟩
    have hb4' := hb'.trans (hb4.mono hb'.size)
    clear hb4
    go_wp2_with fail
    refine (h3 _).mono ?_
    rintro e w5 ⟨rfl, hb5⟩
    have hb5' := hb4'.trans (hb5.mono hb4'.size)
    have HW5 := Lib.hid (HW.out.below hb5')
    clear hb5
    go_wp2_with fail
    refine (Code_errno _ _ HW5.out).mono ?_
    rintro e w6 ⟨rfl, hb6⟩
    go_wp2_with fail
    go_ret
    exact ⟨rfl, hb5'.trans (hb6.mono hb5'.size)⟩
  · have hc0 : 0 < c := Nat.pos_of_ne_zero (fun h => hbad (Or.inl h))
    have hq : a * b / c < 18446744073709551616 := Nat.lt_of_not_le (fun h => hbad (Or.inr h))
    clear hbad
    have hsl := Nat.mod_lt (a * b) hc0
    have h1 := fun W => Scale_ok a b c ha hb hc0 hc hq W
    have h2 := fun W => RefScale_some a b c ha hb hc0 hc W
    rw [if_pos hq] at h2
    by_cases hd : a * b % c < c - a * b % c
    · have h3 := fun W => Round_down a b c ha hb hc0 hc hq hd W
      obtain ⟨q, hqe⟩ : ∃ q, a * b / c = q := ⟨_, rfl⟩
      obtain ⟨s, hs⟩ : ∃ s, a * b % c = s := ⟨_, rfl⟩
      rw [hqe] at h1 h2 h3
      rw [hs] at h1 h2
      rw [hs] at hd hsl
      have i1 : IntKind.u64.wrap ((c : Int) - (s : Int)) = ((c : Int) - (s : Int)) := by rw [IntKind.wrap_u64]; omega
      have i2 : (s : Int) < (c : Int) - (s : Int) := by omega
      have i3 : ¬ (c : Int) - (s : Int) ≤ (s : Int) := by omega
      clear hq hqe hs hd hsl
      go_enter Tryd.func4, Tryd.ntmps4
      go_wp2_with fail
      refine (awake_any _).mono ?_
      rintro e w1 ⟨rfl, hb1⟩
      go_wp2_with fail
      refine (h1 _).mono ?_
      rintro e w2 ⟨rfl, hb2⟩
      go_wp2_with fail
      refine (h2 _).mono ?_
      rintro e w3 ⟨rfl, hb3⟩
      have hb' := hb1.trans ((hb2.trans (hb3.mono hb2.size)).mono hb1.size)
      clear hb1 hb2 hb3
      go_wp2_with fail
      refine (Code_nil _).mono ?_
      rintro e w4 ⟨rfl, rfl⟩
      go_wp2_with fail
      refine (h3 _).mono ?_
      rintro e w5 ⟨rfl, hb5⟩
      go_wp2_with fail
      go_ret
      exact ⟨rfl, hb'.trans (hb5.mono hb'.size)⟩
    · by_cases ht : a * b / c + 1 < 18446744073709551616
      · have h3 := fun W => Round_up a b c ha hb hc0 hc ht hd W
        obtain ⟨q, hqe⟩ : ∃ q, a * b / c = q := ⟨_, rfl⟩
        obtain ⟨s, hs⟩ : ∃ s, a * b % c = s := ⟨_, rfl⟩
        rw [hqe] at h1 h2 h3 ht
        rw [hs] at h1 h2
        rw [hs] at hd hsl
        obtain ⟨k, hk⟩ : ∃ k, q + 1 = k := ⟨_, rfl⟩
        rw [hk] at h3
        have i1 : IntKind.u64.wrap ((c : Int) - (s : Int)) = ((c : Int) - (s : Int)) := by rw [IntKind.wrap_u64]; omega
        have i2 : ¬ (s : Int) < (c : Int) - (s : Int) := by omega
        have i3 : (c : Int) - (s : Int) ≤ (s : Int) := by omega
        have i4 : IntKind.u64.wrap ((q : Int) + 1) = (k : Int) := by rw [IntKind.wrap_u64]; omega
        have i6 : IntKind.u64.wrap (k : Int) = (k : Int) := by rw [IntKind.wrap_u64]; omega
        have i7 : (q : Int) + 1 = (k : Int) := by omega
        have i5 : ((q : Int) == 18446744073709551615) = false := by rw [beq_eq_false_iff_ne]; omega
        clear hq hqe hs hd hsl hk ht
        go_enter Tryd.func4, Tryd.ntmps4
        go_wp2_with fail
        refine (awake_any _).mono ?_
        rintro e w1 ⟨rfl, hb1⟩
        go_wp2_with fail
        refine (h1 _).mono ?_
        rintro e w2 ⟨rfl, hb2⟩
        go_wp2_with fail
        refine (h2 _).mono ?_
        rintro e w3 ⟨rfl, hb3⟩
        have hb' := hb1.trans ((hb2.trans (hb3.mono hb2.size)).mono hb1.size)
        clear hb1 hb2 hb3
        go_wp2_with fail
        refine (Code_nil _).mono ?_
        rintro e w4 ⟨rfl, rfl⟩
        go_wp2_with fail
        refine (h3 _).mono ?_
        rintro e w5 ⟨rfl, hb5⟩
        go_wp2_with fail
        go_ret
        exact ⟨rfl, hb'.trans (hb5.mono hb'.size)⟩
      · have h3 := fun W => Round_top a b c ha hb hc0 hc (by omega) hd W
        obtain ⟨q, hqe⟩ : ∃ q, a * b / c = q := ⟨_, rfl⟩
        obtain ⟨s, hs⟩ : ∃ s, a * b % c = s := ⟨_, rfl⟩
        rw [hqe] at ht hq
        rw [hqe, show q = 18446744073709551615 by omega] at h1 h2
        rw [hs] at h1 h2
        rw [hs] at hd hsl
        replace h1 : ∀ W, Calls Tryd.prog 24 #[.int .u64 a, .int .u64 b, .int .u64 c] W (Ret (.tuple #[.int .u64 18446744073709551615, .int .u64 (s : Int), .nilIface]) W) := h1
        replace h2 : ∀ W, Calls Tryd.prog 25 #[.int .u64 a, .int .u64 b, .int .u64 c] W (Ret (.tuple #[.int .u64 18446744073709551615, .int .u64 (s : Int), .int .i64 0]) W) := h2
        have i1 : IntKind.u64.wrap ((c : Int) - (s : Int)) = ((c : Int) - (s : Int)) := by rw [IntKind.wrap_u64]; omega
        have i3 : (c : Int) - (s : Int) ≤ (s : Int) := by omega
        unfold eno at h3
        clear hq hqe hs hd hsl ht
        go_enter Tryd.func4, Tryd.ntmps4
        go_wp2_with fail
        refine (awake_any _).mono ?_
        rintro e w1 ⟨rfl, hb1⟩
        go_wp2_with fail
        refine (h1 _).mono ?_
        rintro e w2 ⟨rfl, hb2⟩
        go_wp2_with fail
        refine (h2 _).mono ?_
        rintro e w3 ⟨rfl, hb3⟩
        have hb' := hb1.trans ((hb2.trans (hb3.mono hb2.size)).mono hb1.size)
        clear hb1 hb2 hb3
        go_wp2_with fail
        refine (Code_nil _).mono ?_
        rintro e w4 ⟨rfl, rfl⟩
        go_wp2_with fail
        refine (h3 _).mono ?_
        rintro e w5 ⟨rfl, hb5⟩
        have hb5' := hb'.trans (hb5.mono hb'.size)
        have HW5 := Lib.hid (HW.out.below hb5')
        clear hb5
        go_wp2_with fail
        refine (Code_errno _ _ HW5.out).mono ?_
        rintro e w6 ⟨rfl, hb6⟩
        go_wp2_with fail
        go_ret
        exact ⟨rfl, hb5'.trans (hb6.mono hb5'.size)⟩
end Go.Proofs.YtkgadbnfaoijaabDoor
