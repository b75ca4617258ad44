/-
  An act on a drum. Conditions: what the drum's own method does is known.
-/
import Derived.Test.YthljcekodlbplaaDoorDPB
namespace Go.Proofs.YthljcekodlbplaaDoor
open Go.ChangeShapes Go.WideShapes Go.ChangeAt Go.RowKit

set_option maxRecDepth 20000 in
set_option maxHeartbeats 1000000 in
theorem play_flush {w : World} {d : Nat} {AP AK : Option Addr} {nP cP nK cK a k : Nat} {p N : Int} {Q : Value → World → Prop} (ha : a % 7 = 3) (hC : Calls Tryd.prog 17 #[.pointer (some ⟨d, 0, none⟩)] (w.alloc (.cells #[.int .u8 (a : Int), .int .i64 p, .slice AP nP cP, .slice AK nK cK, .int .i64 N, .int .u32 (k : Int)] 35)) fun e w' => ∃ v, e = .returned v ∧ Q v w') :
    Calls Tryd.prog 8 #[.pointer (some ⟨d, 0, none⟩), .agg #[.int .u8 (a : Int), .int .i64 p, .slice AP nP cP, .slice AK nK cK, .int .i64 N, .int .u32 (k : Int)]] w fun e w' => ∃ v, e = .returned (.tuple #[.pointer (some ⟨d, 0, none⟩), v]) ∧ Q v w' := by
  have HC := Lib.hid hC
  clear hC
  have hr : ((a : Int)).tmod 7 = 3 := by
    rw [Int.tmod_eq_emod_of_nonneg (by omega)]
    omega
  clear ha
  go_enter Tryd.func8, Tryd.ntmps8
  go_wp2_with fail
  refine HC.out.mono ?_
  rintro e w1 ⟨v, rfl, hq⟩
  have HQ := Lib.hid hq
  clear hq HC
  go_wp2_with fail
  exact bodyPost_ret (v := .tuple #[.pointer (some ⟨d, 0, none⟩), v]) (by simp [results, Tryd.results8, go_sem, Result.andThen]) rfl ⟨v, rfl, HQ.out⟩
set_option maxRecDepth 20000 in
set_option maxHeartbeats 1000000 in
theorem play_fall {w : World} {d : Nat} {AP AK : Option Addr} {nP cP nK cK a k : Nat} {p N : Int} {Q : Value → World → Prop} (ha : a % 7 = 4) (hC : Calls Tryd.prog 14 #[.pointer (some ⟨d, 0, none⟩), .slice AK nK cK, .int .i64 N] (w.alloc (.cells #[.int .u8 (a : Int), .int .i64 p, .slice AP nP cP, .slice AK nK cK, .int .i64 N, .int .u32 (k : Int)] 35)) fun e w' => ∃ v, e = .returned v ∧ Q v w') :
    Calls Tryd.prog 8 #[.pointer (some ⟨d, 0, none⟩), .agg #[.int .u8 (a : Int), .int .i64 p, .slice AP nP cP, .slice AK nK cK, .int .i64 N, .int .u32 (k : Int)]] w fun e w' => ∃ v, e = .returned (.tuple #[v, .nilIface]) ∧ Q v w' := by
  have HC := Lib.hid hC
  clear hC
  have hr : ((a : Int)).tmod 7 = 4 := by
    rw [Int.tmod_eq_emod_of_nonneg (by omega)]
    omega
  clear ha
  go_enter Tryd.func8, Tryd.ntmps8
  go_wp2_with fail
  refine HC.out.mono ?_
  rintro e w1 ⟨v, rfl, hq⟩
  have HQ := Lib.hid hq
  clear hq HC
  go_wp2_with fail
  exact bodyPost_ret (v := .tuple #[v, .nilIface]) (by simp [results, Tryd.results8, go_sem, Result.andThen]) rfl ⟨v, rfl, HQ.out⟩
set_option maxRecDepth 20000 in
set_option maxHeartbeats 1000000 in
theorem play_turn {w : World} {d : Nat} {AP AK : Option Addr} {nP cP nK cK a k : Nat} {p N : Int} {Q : Value → World → Prop} (ha : a % 7 = 5) (hC : Calls Tryd.prog 18 #[.pointer (some ⟨d, 0, none⟩), .int .i64 p, .int .i64 N, .int .u32 (k : Int)] (w.alloc (.cells #[.int .u8 (a : Int), .int .i64 p, .slice AP nP cP, .slice AK nK cK, .int .i64 N, .int .u32 (k : Int)] 35)) fun e w' => ∃ v, e = .returned v ∧ Q v w') :
    Calls Tryd.prog 8 #[.pointer (some ⟨d, 0, none⟩), .agg #[.int .u8 (a : Int), .int .i64 p, .slice AP nP cP, .slice AK nK cK, .int .i64 N, .int .u32 (k : Int)]] w fun e w' => ∃ v, e = .returned (.tuple #[.pointer (some ⟨d, 0, none⟩), v]) ∧ Q v w' := by
  have HC := Lib.hid hC
  clear hC
  have hr : ((a : Int)).tmod 7 = 5 := by
    rw [Int.tmod_eq_emod_of_nonneg (by omega)]
    omega
  clear ha
  go_enter Tryd.func8, Tryd.ntmps8
  go_wp2_with fail
  refine HC.out.mono ?_
  rintro e w1 ⟨v, rfl, hq⟩
  have HQ := Lib.hid hq
  clear hq HC
  go_wp2_with fail
  exact bodyPost_ret (v := .tuple #[.pointer (some ⟨d, 0, none⟩), v]) (by simp [results, Tryd.results8, go_sem, Result.andThen]) rfl ⟨v, rfl, HQ.out⟩
set_option maxRecDepth 20000 in
set_option maxHeartbeats 1000000 in
theorem play_arm {w : World} {d : Nat} {AP AK : Option Addr} {nP cP nK cK a k : Nat} {p N : Int} {Q : Value → World → Prop} (ha : a % 7 = 6) (hC : Calls Tryd.prog 19 #[.pointer (some ⟨d, 0, none⟩), .int .i64 N] (w.alloc (.cells #[.int .u8 (a : Int), .int .i64 p, .slice AP nP cP, .slice AK nK cK, .int .i64 N, .int .u32 (k : Int)] 35)) fun e w' => ∃ v, e = .returned v ∧ Q v w') :
    Calls Tryd.prog 8 #[.pointer (some ⟨d, 0, none⟩), .agg #[.int .u8 (a : Int), .int .i64 p, .slice AP nP cP, .slice AK nK cK, .int .i64 N, .int .u32 (k : Int)]] w fun e w' => ∃ v, e = .returned (.tuple #[.pointer (some ⟨d, 0, none⟩), .nilIface]) ∧ Q v w' := by
  have HC := Lib.hid hC
  clear hC
  have hr : ((a : Int)).tmod 7 = 6 := by
    rw [Int.tmod_eq_emod_of_nonneg (by omega)]
    omega
  clear ha
  go_enter Tryd.func8, Tryd.ntmps8
  go_wp2_with fail
  refine HC.out.mono ?_
  rintro e w1 ⟨v, rfl, hq⟩
  have HQ := Lib.hid hq
  clear hq HC
  go_wp2_with fail
  exact bodyPost_ret (v := .tuple #[.pointer (some ⟨d, 0, none⟩), .nilIface]) (by simp [results, Tryd.results8, go_sem, Result.andThen]) rfl ⟨v, rfl, HQ.out⟩
set_option maxRecDepth 20000 in
set_option maxHeartbeats 1000000 in
theorem play_write {w : World} {d : Nat} {AP AK : Option Addr} {nP cP nK cK a k : Nat} {p N : Int} {Q : Value → World → Prop} (ha : a % 7 < 3) (hC : Calls Tryd.prog 13 #[.pointer (some ⟨d, 0, none⟩), .int .i64 p, .slice AP nP cP] (w.alloc (.cells #[.int .u8 (a : Int), .int .i64 p, .slice AP nP cP, .slice AK nK cK, .int .i64 N, .int .u32 (k : Int)] 35)) fun e w' => ∃ v, e = .returned v ∧ Q v w') :
    Calls Tryd.prog 8 #[.pointer (some ⟨d, 0, none⟩), .agg #[.int .u8 (a : Int), .int .i64 p, .slice AP nP cP, .slice AK nK cK, .int .i64 N, .int .u32 (k : Int)]] w fun e w' => ∃ v, e = .returned (.tuple #[.pointer (some ⟨d, 0, none⟩), v]) ∧ Q v w' := by
  have HC := Lib.hid hC
  clear hC
  obtain ⟨r, hrr⟩ : ∃ r : Int, ((a : Int)).tmod 7 = r := ⟨_, rfl⟩
  have hr9 : r = ((a % 7 : Nat) : Int) := by
    rw [← hrr, Int.tmod_eq_emod_of_nonneg (by omega)]
    omega
  have r3 : ¬ r = 3 := by omega
  have r4 : ¬ r = 4 := by omega
  have r5 : ¬ r = 5 := by omega
  have r6 : ¬ r = 6 := by omega
  clear ha hr9
  go_enter Tryd.func8, Tryd.ntmps8
  go_wp2_with fail
  refine HC.out.mono ?_
  rintro e w1 ⟨v, rfl, hq⟩
  have HQ := Lib.hid hq
  clear hq HC
  go_wp2_with fail
  exact bodyPost_ret (v := .tuple #[.pointer (some ⟨d, 0, none⟩), v]) (by simp [results, Tryd.results8, go_sem, Result.andThen]) rfl ⟨v, rfl, HQ.out⟩
end Go.Proofs.YthljcekodlbplaaDoor
