/-
  wide: Plus, Add, Round. No condition but the numbers' kinds.
-/
import Derived.Test.YtbikfplipkhhcaaWideA
import Derived.Laws.Externs
namespace Go.Proofs.Ytbikfplipkhhcaa
open Go.RowKit

theorem add64_run (x y c : Nat) (hc : c ≤ 1) (w : World) :
    (callFunc 37 #[.int .u64 x, .int .u64 y, .int .u64 c]).run Try.prog w =
      .ok (.value (.tuple #[.int .u64 (((x + y + c) % 18446744073709551616 : Nat) : Int), .int .u64 (((x + y + c) / 18446744073709551616 : Nat) : Int)])) w := by
  rw [run_callFunc_extern Try.func37 (by kernel_rfl) (by kernel_rfl) (by kernel_rfl) (e := add64Entry) (by kernel_rfl), run_add64 x y c (by omega) (by omega) (by omega) (by omega)]
  simp only [Result.andThen]
  congr 5 <;> omega

set_option maxHeartbeats 2000000 in
theorem Plus_over (h1 l1 h2 l2 : Nat) (a1 : h1 < 18446744073709551616) (a2 : l1 < 18446744073709551616) (a3 : h2 < 18446744073709551616) (a4 : l2 < 18446744073709551616)
    (hs : 340282366920938463463374607431768211456 ≤ h1 * 18446744073709551616 + l1 + (h2 * 18446744073709551616 + l2)) (w : World) :
    Calls Try.prog 34 #[wv h1 l1, wv h2 l2] w (Ret (.tuple #[wv 0 0, eno 12]) w) := by
  have r1 := fun W => add64_run l1 l2 0 (by decide) W
  obtain ⟨lo, hlo⟩ : ∃ lo, (l1 + l2 + 0) % 18446744073709551616 = lo := ⟨_, rfl⟩
  obtain ⟨ca, hca⟩ : ∃ ca, (l1 + l2 + 0) / 18446744073709551616 = ca := ⟨_, rfl⟩
  rw [hlo, hca] at r1
  have r2 := fun W => add64_run h1 h2 ca (by omega) W
  obtain ⟨hi, hhi⟩ : ∃ hi, (h1 + h2 + ca) % 18446744073709551616 = hi := ⟨_, rfl⟩
  rw [hhi, show (h1 + h2 + ca) / 18446744073709551616 = 1 by omega] at r2
  replace r1 : ∀ W, (callFunc 37 #[.int .u64 (l1 : Int), .int .u64 (l2 : Int), .int .u64 0]).run Try.prog W = .ok (.value (.tuple #[.int .u64 (lo : Int), .int .u64 (ca : Int)])) W := r1
  replace r2 : ∀ W, (callFunc 37 #[.int .u64 (h1 : Int), .int .u64 (h2 : Int), .int .u64 (ca : Int)]).run Try.prog W = .ok (.value (.tuple #[.int .u64 (hi : Int), .int .u64 1])) W := r2
  clear hlo hca hhi hs
  unfold wv eno
  go_enter Try.func34, Try.ntmps34
  go_wp2
  go_returns
  exact ⟨rfl, (((Below.refl _ _).alloc (Nat.le_refl _) _).alloc (by simp) _).alloc (by simp; omega) _⟩

set_option maxHeartbeats 2000000 in
theorem Plus_ok (h1 l1 h2 l2 S : Nat) (a2 : l1 < 18446744073709551616) (a4 : l2 < 18446744073709551616)
    (hS : h1 * 18446744073709551616 + l1 + (h2 * 18446744073709551616 + l2) = S) (hs : S < 340282366920938463463374607431768211456) (w : World) :
    Calls Try.prog 34 #[wv h1 l1, wv h2 l2] w (Ret (.tuple #[wof S, .nilIface]) w) := by
  have r1 := fun W => add64_run l1 l2 0 (by decide) W
  obtain ⟨lo, hlo⟩ : ∃ lo, (l1 + l2 + 0) % 18446744073709551616 = lo := ⟨_, rfl⟩
  obtain ⟨ca, hca⟩ : ∃ ca, (l1 + l2 + 0) / 18446744073709551616 = ca := ⟨_, rfl⟩
  rw [hlo, hca] at r1
  have r2 := fun W => add64_run h1 h2 ca (by omega) W
  obtain ⟨hi, hhi⟩ : ∃ hi, (h1 + h2 + ca) % 18446744073709551616 = hi := ⟨_, rfl⟩
  rw [hhi, show (h1 + h2 + ca) / 18446744073709551616 = 0 by omega] at r2
  replace r1 : ∀ W, (callFunc 37 #[.int .u64 (l1 : Int), .int .u64 (l2 : Int), .int .u64 0]).run Try.prog W = .ok (.value (.tuple #[.int .u64 (lo : Int), .int .u64 (ca : Int)])) W := r1
  replace r2 : ∀ W, (callFunc 37 #[.int .u64 (h1 : Int), .int .u64 (h2 : Int), .int .u64 (ca : Int)]).run Try.prog W = .ok (.value (.tuple #[.int .u64 (hi : Int), .int .u64 0])) W := r2
  rw [show S = hi * 18446744073709551616 + lo by omega, wof_parts hi lo (by omega)]
  clear hlo hca hhi hs hS
  unfold wv
  go_enter Try.func34, Try.ntmps34
  go_wp2
  go_returns
  exact ⟨rfl, (((Below.refl _ _).alloc (Nat.le_refl _) _).alloc (by simp) _).alloc (by simp; omega) _⟩

set_option maxHeartbeats 2000000 in
theorem Add_over (h1 l1 n : Nat) (a1 : h1 < 18446744073709551616) (a2 : l1 < 18446744073709551616) (a4 : n < 18446744073709551616)
    (hs : 340282366920938463463374607431768211456 ≤ h1 * 18446744073709551616 + l1 + n) (w : World) :
    Calls Try.prog 29 #[wv h1 l1, .int .u64 n] w (Ret (.tuple #[wv 0 0, eno 12]) w) := by
  have hP := fun W => Plus_over h1 l1 0 n a1 a2 (by decide) a4 (by omega) W
  clear hs
  unfold wv at hP ⊢
  unfold eno at hP ⊢
  go_enter Try.func29, Try.ntmps29
  go_wp2_with fail
  refine (hP _).mono ?_
  rintro e w1 ⟨rfl, hb1⟩
  have hs1 := hb1.size
  have hb : Below w.heap.size w w1 := (((Below.refl _ _).alloc (Nat.le_refl _) _).alloc (by simp) _).trans (hb1.mono (by simp; omega))
  have HK : Hid (Blk w1 (w.heap.size + 1) 62 #[.int .u64 0, .int .u64 0]) := Lib.hid (by
    have h := Blk.new (w.alloc (.cells #[.int .u64 (h1 : Int), .int .u64 (l1 : Int)] 62)) 62 #[.int .u64 0, .int .u64 0]
    simp only [World.size_alloc] at h
    exact h.below hb1 (by simp))
  have k0 : w1.cell? ⟨w.heap.size + 1, 0, none⟩ = some (.int .u64 0) := HK.out.cell 0
  have k1 : w1.cell? ⟨w.heap.size + 1, 1, none⟩ = some (.int .u64 0) := HK.out.cell 1
  have f0 : w1.frozen? ⟨w.heap.size + 1, 0, none⟩ = false := HK.out.frozen 0
  have f1 : w1.frozen? ⟨w.heap.size + 1, 1, none⟩ = false := HK.out.frozen 1
  clear hb1
  go_wp2_with fail
  have HB := (HK.out.set_ 0 (.int .u64 0)).set_ 1 (.int .u64 0)
  have q0 := HB.cell 0
  have q1 := HB.cell 1
  refine bodyPost_ret (by simp [results, Try.results29, go_sem, q0, q1]; try rfl) rfl ?_
  exact ⟨rfl, (hb.setCell (by simp) _).setCell (by simp) _⟩

set_option maxHeartbeats 2000000 in
theorem Add_ok (h1 l1 n S : Nat) (a2 : l1 < 18446744073709551616) (a4 : n < 18446744073709551616)
    (hS : h1 * 18446744073709551616 + l1 + n = S) (hs : S < 340282366920938463463374607431768211456) (w : World) :
    Calls Try.prog 29 #[wv h1 l1, .int .u64 n] w (Ret (.tuple #[wof S, .nilIface]) w) := by
  have hP := fun W => Plus_ok h1 l1 0 n S a2 a4 (by omega) hs W
  obtain ⟨sh, sl, es, -, -⟩ := wof_ex S
  rw [es] at hP ⊢
  clear hs hS es
  unfold wv at hP ⊢
  go_enter Try.func29, Try.ntmps29
  go_wp2_with fail
  refine (hP _).mono ?_
  rintro e w1 ⟨rfl, hb1⟩
  have hs1 := hb1.size
  have hb : Below w.heap.size w w1 := (((Below.refl _ _).alloc (Nat.le_refl _) _).alloc (by simp) _).trans (hb1.mono (by simp; omega))
  have HK : Hid (Blk w1 (w.heap.size + 1) 62 #[.int .u64 0, .int .u64 0]) := Lib.hid (by
    have h := Blk.new (w.alloc (.cells #[.int .u64 (h1 : Int), .int .u64 (l1 : Int)] 62)) 62 #[.int .u64 0, .int .u64 0]
    simp only [World.size_alloc] at h
    exact h.below hb1 (by simp))
  have k0 : w1.cell? ⟨w.heap.size + 1, 0, none⟩ = some (.int .u64 0) := HK.out.cell 0
  have k1 : w1.cell? ⟨w.heap.size + 1, 1, none⟩ = some (.int .u64 0) := HK.out.cell 1
  have f0 : w1.frozen? ⟨w.heap.size + 1, 0, none⟩ = false := HK.out.frozen 0
  have f1 : w1.frozen? ⟨w.heap.size + 1, 1, none⟩ = false := HK.out.frozen 1
  clear hb1
  go_wp2_with fail
  have HB := (HK.out.set_ 0 (.int .u64 sh)).set_ 1 (.int .u64 sl)
  have q0 := HB.cell 0
  have q1 := HB.cell 1
  refine bodyPost_ret (by simp [results, Try.results29, go_sem, q0, q1]; try rfl) rfl ?_
  exact ⟨rfl, (hb.setCell (by simp) _).setCell (by simp) _⟩

set_option maxHeartbeats 1000000 in
theorem Round_zero (a b : Nat) (ha : a < 18446744073709551616) (hb : b < 18446744073709551616) (w : World) :
    Calls Try.prog 22 #[.int .u64 a, .int .u64 b, .int .u64 0] w (Ret (.tuple #[.int .u64 0, eno 1]) w) := by
  have hS := fun W => Scale_zero a b ha hb W
  unfold eno at hS ⊢
  go_enter Try.func22, Try.ntmps22
  go_wp2_with (go_at_call 28; refine (hS _).mono ?_; rintro e w1 ⟨rfl, hb1⟩)
  go_returns
  exact ⟨rfl, hb1⟩

set_option maxHeartbeats 1000000 in
theorem Round_over (a b c : Nat) (ha : a < 18446744073709551616) (hb : b < 18446744073709551616) (hc0 : 0 < c) (hc : c < 18446744073709551616) (hq : 18446744073709551616 ≤ a * b / c) (w : World) :
    Calls Try.prog 22 #[.int .u64 a, .int .u64 b, .int .u64 c] w (Ret (.tuple #[.int .u64 0, eno 12]) w) := by
  have hS := fun W => Scale_over a b c ha hb hc0 hc hq W
  clear hq
  unfold eno at hS ⊢
  go_enter Try.func22, Try.ntmps22
  go_wp2_with (go_at_call 28; refine (hS _).mono ?_; rintro e w1 ⟨rfl, hb1⟩)
  go_returns
  exact ⟨rfl, hb1⟩

set_option maxHeartbeats 1000000 in
theorem Round_down (a b c : Nat) (ha : a < 18446744073709551616) (hb : b < 18446744073709551616) (hc0 : 0 < c) (hc : c < 18446744073709551616) (hq : a * b / c < 18446744073709551616)
    (hd : a * b % c < c - a * b % c) (w : World) :
    Calls Try.prog 22 #[.int .u64 a, .int .u64 b, .int .u64 c] w (Ret (.tuple #[.int .u64 (a * b / c : Nat), .nilIface]) w) := by
  have hS := fun W => Scale_ok a b c ha hb hc0 hc hq W
  obtain ⟨q, hqe⟩ : ∃ q, a * b / c = q := ⟨_, rfl⟩
  obtain ⟨s, hs⟩ : ∃ s, a * b % c = s := ⟨_, rfl⟩
  rw [hqe, hs] at hS
  rw [hs] at hd
  rw [hqe]
  have i1 : IntKind.u64.wrap ((c : Int) - (s : Int)) = ((c : Int) - (s : Int)) := by rw [IntKind.wrap_u64]; omega
  have i2 : (s : Int) < (c : Int) - (s : Int) := by omega
  clear hq hqe hs hd
  go_enter Try.func22, Try.ntmps22
  go_wp2_with (go_at_call 28; refine (hS _).mono ?_; rintro e w1 ⟨rfl, hb1⟩)
  go_returns
  exact ⟨rfl, hb1⟩

set_option maxHeartbeats 2000000 in
theorem Round_up (a b c : Nat) (ha : a < 18446744073709551616) (hb : b < 18446744073709551616) (hc0 : 0 < c) (hc : c < 18446744073709551616) (hq : a * b / c + 1 < 18446744073709551616)
    (hd : ¬ a * b % c < c - a * b % c) (w : World) :
    Calls Try.prog 22 #[.int .u64 a, .int .u64 b, .int .u64 c] w (Ret (.tuple #[.int .u64 (a * b / c + 1 : Nat), .nilIface]) w) := by
  have hS := fun W => Scale_ok a b c ha hb hc0 hc (by omega) W
  have hsl := Nat.mod_lt (a * b) hc0
  obtain ⟨q, hqe⟩ : ∃ q, a * b / c = q := ⟨_, rfl⟩
  obtain ⟨s, hs⟩ : ∃ s, a * b % c = s := ⟨_, rfl⟩
  rw [hqe, hs] at hS
  rw [hs] at hd hsl
  rw [hqe] at hq ⊢
  have hA := fun W => Add_ok 0 q 1 (q + 1) (by omega) (by decide) (by omega) (by omega) W
  rw [wof_small (q + 1) hq] at hA
  obtain ⟨k, hk⟩ : ∃ k, q + 1 = k := ⟨_, rfl⟩
  rw [hk] at hA ⊢
  have hM := fun W => Small_ok k W
  have i1 : IntKind.u64.wrap ((c : Int) - (s : Int)) = ((c : Int) - (s : Int)) := by rw [IntKind.wrap_u64]; omega
  have i2 : ¬ (s : Int) < (c : Int) - (s : Int) := by omega
  unfold wv at hA hM
  clear hq hqe hs hd hk hsl
  go_enter Try.func22, Try.ntmps22
  go_wp2_with (first
    | (go_at_call 28; refine (hS _).mono ?_; rintro e w1 ⟨rfl, hb1⟩)
    | (go_at_call 29; refine (hA _).mono ?_; rintro e w2 ⟨rfl, hb2⟩)
    | (go_at_call 30; refine (hM _).mono ?_; rintro e w3 ⟨rfl, hb3⟩))
  go_returns
  have h2 := (hb1.trans (hb2.mono hb1.size)).alloc (Nat.le_trans hb1.size hb2.size) (.cells #[.int .u64 0, .int .u64 k] 62)
  exact ⟨rfl, h2.trans (hb3.mono h2.size)⟩

set_option maxHeartbeats 2000000 in
theorem Round_top (a b c : Nat) (ha : a < 18446744073709551616) (hb : b < 18446744073709551616) (hc0 : 0 < c) (hc : c < 18446744073709551616) (hq : a * b / c + 1 = 18446744073709551616)
    (hd : ¬ a * b % c < c - a * b % c) (w : World) :
    Calls Try.prog 22 #[.int .u64 a, .int .u64 b, .int .u64 c] w (Ret (.tuple #[.int .u64 0, eno 12]) w) := by
  have hS := fun W => Scale_ok a b c ha hb hc0 hc (by omega) W
  have hsl := Nat.mod_lt (a * b) hc0
  obtain ⟨q, hqe⟩ : ∃ q, a * b / c = q := ⟨_, rfl⟩
  obtain ⟨s, hs⟩ : ∃ s, a * b % c = s := ⟨_, rfl⟩
  rw [hqe, hs] at hS
  rw [hs] at hd hsl
  rw [hqe] at hq
  have hA := fun W => Add_ok 0 q 1 18446744073709551616 (by omega) (by decide) (by omega) (by decide) W
  have e1 : wof 18446744073709551616 = .agg #[.int .u64 1, .int .u64 0] := rfl
  rw [e1] at hA
  have hM := fun W => Small_over 1 0 (by decide) W
  have i1 : IntKind.u64.wrap ((c : Int) - (s : Int)) = ((c : Int) - (s : Int)) := by rw [IntKind.wrap_u64]; omega
  have i2 : ¬ (s : Int) < (c : Int) - (s : Int) := by omega
  unfold wv at hA hM
  unfold eno at hM ⊢
  clear hq hqe hs hd hsl e1
  go_enter Try.func22, Try.ntmps22
  go_wp2_with (first
    | (go_at_call 28; refine (hS _).mono ?_; rintro e w1 ⟨rfl, hb1⟩)
    | (go_at_call 29; refine (hA _).mono ?_; rintro e w2 ⟨rfl, hb2⟩)
    | (go_at_call 30; refine (hM _).mono ?_; rintro e w3 ⟨rfl, hb3⟩))
  go_returns
  have h2 := (hb1.trans (hb2.mono hb1.size)).alloc (Nat.le_trans hb1.size hb2.size) (.cells #[.int .u64 1, .int .u64 0] 62)
  exact ⟨rfl, h2.trans (hb3.mono h2.size)⟩
end Go.Proofs.Ytbikfplipkhhcaa
