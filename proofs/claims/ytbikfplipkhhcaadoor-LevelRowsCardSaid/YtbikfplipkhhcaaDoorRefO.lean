/-
  The references' Of and Word. No condition but the numbers' kinds.
-/
import Derived.Test.YtbikfplipkhhcaaDoorRefM
import Derived.Handy
namespace Go.Proofs.YtbikfplipkhhcaaDoor
open Go.RowKit

def bgv (l : List Nat) : Value := .agg (l.map fun n : Nat => Value.int .u32 (n : Int)).toArray

set_option maxHeartbeats 4000000 in
set_option maxRecDepth 20000 in
theorem Of_any (hi lo : Nat) (h1 : hi < 18446744073709551616) (h2 : lo < 18446744073709551616) (w : World) :
    Calls Tryd.prog 48 #[.int .u64 hi, .int .u64 lo] w fun e w' => e = .returned (bgv (digs 8 (hi * 18446744073709551616 + lo))) ∧ Below w.heap.size w w' := by
  go_enter Tryd.func48, Tryd.ntmps48
  go_wp2
  go_rounds 5
  go_returns
  refine ⟨?_, ((Below.refl _ _).alloc (Nat.le_refl _) _).alloc (by simp) _⟩
  rw [digs_two hi lo h2]
  simp only [bgv, digs, List.map_cons, List.map_nil, List.cons_append, List.nil_append, Int.natCast_emod, Int.natCast_ediv]
  rfl

set_option maxHeartbeats 4000000 in
set_option maxRecDepth 20000 in
theorem Word_true (a b c d e f g i : Nat) (he : e < 65536) (hf : f < 65536) (hg : g < 65536) (hi : i < 65536) (w : World) :
    Calls Tryd.prog 44 #[bgv [a, b, c, d, e, f, g, i], .bool true] w fun en w' => en = .returned (.int .u64 (val [e, f, g, i] : Nat)) ∧ Below w.heap.size w w' := by
  simp only [bgv, List.map_cons, List.map_nil]
  go_enter Tryd.func44, Tryd.ntmps44
  go_wp2
  go_rounds 5
  go_returns
  refine ⟨?_, (Below.refl _ _).alloc (Nat.le_refl _) _⟩
  have hv : (val [e, f, g, i] : Nat) = (((i * 65536 + g) * 65536 + f) * 65536 + e) := by simp only [val]; omega
  rw [hv]
  rfl

set_option maxHeartbeats 4000000 in
set_option maxRecDepth 20000 in
theorem Word_false (a b c d e f g i : Nat) (ha : a < 65536) (hb : b < 65536) (hc : c < 65536) (hd : d < 65536) (w : World) :
    Calls Tryd.prog 44 #[bgv [a, b, c, d, e, f, g, i], .bool false] w fun en w' => en = .returned (.int .u64 (val [a, b, c, d] : Nat)) ∧ Below w.heap.size w w' := by
  simp only [bgv, List.map_cons, List.map_nil]
  go_enter Tryd.func44, Tryd.ntmps44
  go_wp2
  go_rounds 5
  go_returns
  refine ⟨?_, (Below.refl _ _).alloc (Nat.le_refl _) _⟩
  have hv : (val [a, b, c, d] : Nat) = (((d * 65536 + c) * 65536 + b) * 65536 + a) := by simp only [val]; omega
  rw [hv]
  rfl

/-- The two words of n. -/
theorem Word_any (n : Nat) (h : n < 340282366920938463463374607431768211456) (b : Bool) (w : World) :
    Calls Tryd.prog 44 #[bgv (digs 8 n), .bool b] w fun en w' => en = .returned (.int .u64 ((if b then n / 18446744073709551616 else n % 18446744073709551616 : Nat) : Int)) ∧ Below w.heap.size w w' := by
  have e : n = n / 18446744073709551616 * 18446744073709551616 + n % 18446744073709551616 := by omega
  have hlo : n % 18446744073709551616 < 18446744073709551616 := by omega
  have hhi : n / 18446744073709551616 < 18446744073709551616 := by omega
  obtain ⟨hi, ehi⟩ : ∃ hi, n / 18446744073709551616 = hi := ⟨_, rfl⟩
  obtain ⟨lo, elo⟩ : ∃ lo, n % 18446744073709551616 = lo := ⟨_, rfl⟩
  rw [ehi, elo] at e
  rw [ehi] at hhi ⊢
  rw [elo] at hlo ⊢
  subst e
  clear ehi elo h
  rw [digs_two hi lo hlo]
  have v1 : val (digs 4 hi) = hi := val_digs 4 hi hhi
  have v2 : val (digs 4 lo) = lo := val_digs 4 lo hlo
  have d1 := digs_lt 4 hi
  have d2 := digs_lt 4 lo
  obtain ⟨a1, a2, a3, a4, e1⟩ : ∃ a b c d, digs 4 hi = [a, b, c, d] := ⟨_, _, _, _, rfl⟩
  obtain ⟨b1, b2, b3, b4, e2⟩ : ∃ a b c d, digs 4 lo = [a, b, c, d] := ⟨_, _, _, _, rfl⟩
  rw [e1] at v1 d1 ⊢
  rw [e2] at v2 d2 ⊢
  cases b
  · simp only [Bool.false_eq_true, if_false]
    rw [← v2]
    exact Word_false b1 b2 b3 b4 a1 a2 a3 a4 (d2 _ (by simp)) (d2 _ (by simp)) (d2 _ (by simp)) (d2 _ (by simp)) w
  · simp only [if_true]
    rw [← v1]
    exact Word_true b1 b2 b3 b4 a1 a2 a3 a4 (d1 _ (by simp)) (d1 _ (by simp)) (d1 _ (by simp)) (d1 _ (by simp)) w
end Go.Proofs.YtbikfplipkhhcaaDoor
