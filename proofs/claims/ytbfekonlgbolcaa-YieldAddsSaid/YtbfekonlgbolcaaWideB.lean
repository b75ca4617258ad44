/-
  wide: Plus, Add, Round. No condition but the numbers' kinds.
-/
import Derived.Test.YtbfekonlgbolcaaWideA
import Derived.Laws.Externs
namespace Go.Proofs.Ytbfekonlgbolcaa
open Go.RowKit

theorem add64_run (x y c : Nat) (hc : c ≤ 1) (w : World) :
    (callFunc 25 #[.int .u64 x, .int .u64 y, .int .u64 c]).run Try.prog w =
      .ok (.value (.tuple #[.int .u64 (((x + y + c) % 18446744073709551616 : Nat) : Int), .int .u64 (((x + y + c) / 18446744073709551616 : Nat) : Int)])) w := by
  rw [run_callFunc_extern Try.func25 (by kernel_rfl) (by kernel_rfl) (by kernel_rfl) (e := add64Entry) (by kernel_rfl), run_add64 x y c (by omega) (by omega) (by omega) (by omega)]
  simp only [Result.andThen]
  congr 5 <;> omega

set_option maxHeartbeats 2000000 in
theorem Plus_over (h1 l1 h2 l2 : Nat) (a1 : h1 < 18446744073709551616) (a2 : l1 < 18446744073709551616) (a3 : h2 < 18446744073709551616) (a4 : l2 < 18446744073709551616)
    (hs : 340282366920938463463374607431768211456 ≤ h1 * 18446744073709551616 + l1 + (h2 * 18446744073709551616 + l2)) (w : World) :
    Calls Try.prog 22 #[wv h1 l1, wv h2 l2] w (Ret (.tuple #[wv 0 0, eno 12]) w) := by
  have r1 := fun W => add64_run l1 l2 0 (by decide) W
  obtain ⟨lo, hlo⟩ : ∃ lo, (l1 + l2 + 0) % 18446744073709551616 = lo := ⟨_, rfl⟩
  obtain ⟨ca, hca⟩ : ∃ ca, (l1 + l2 + 0) / 18446744073709551616 = ca := ⟨_, rfl⟩
  rw [hlo, hca] at r1
  have r2 := fun W => add64_run h1 h2 ca (by omega) W
  obtain ⟨hi, hhi⟩ : ∃ hi, (h1 + h2 + ca) % 18446744073709551616 = hi := ⟨_, rfl⟩
  rw [hhi, show (h1 + h2 + ca) / 18446744073709551616 = 1 by omega] at r2
  replace r1 : ∀ W, (callFunc 25 #[.int .u64 (l1 : Int), .int .u64 (l2 : Int), .int .u64 0]).run Try.prog W = .ok (.value (.tuple #[.int .u64 (lo : Int), .int .u64 (ca : Int)])) W := r1
  replace r2 : ∀ W, (callFunc 25 #[.int .u64 (h1 : Int), .int .u64 (h2 : Int), .int .u64 (ca : Int)]).run Try.prog W = .ok (.value (.tuple #[.int .u64 (hi : Int), .int .u64 1])) W := r2
  clear hlo hca hhi hs
  unfold wv eno
  go_enter Try.func22, Try.ntmps22
  go_wp2
  go_returns
  exact ⟨rfl, (((Below.refl _ _).alloc (Nat.le_refl _) _).alloc (by simp) _).alloc (by simp; omega) _⟩

set_option maxHeartbeats 2000000 in
theorem Plus_ok (h1 l1 h2 l2 S : Nat) (a2 : l1 < 18446744073709551616) (a4 : l2 < 18446744073709551616)
    (hS : h1 * 18446744073709551616 + l1 + (h2 * 18446744073709551616 + l2) = S) (hs : S < 340282366920938463463374607431768211456) (w : World) :
    Calls Try.prog 22 #[wv h1 l1, wv h2 l2] w (Ret (.tuple #[wof S, .nilIface]) w) := by
  have r1 := fun W => add64_run l1 l2 0 (by decide) W
  obtain ⟨lo, hlo⟩ : ∃ lo, (l1 + l2 + 0) % 18446744073709551616 = lo := ⟨_, rfl⟩
  obtain ⟨ca, hca⟩ : ∃ ca, (l1 + l2 + 0) / 18446744073709551616 = ca := ⟨_, rfl⟩
  rw [hlo, hca] at r1
  have r2 := fun W => add64_run h1 h2 ca (by omega) W
  obtain ⟨hi, hhi⟩ : ∃ hi, (h1 + h2 + ca) % 18446744073709551616 = hi := ⟨_, rfl⟩
  rw [hhi, show (h1 + h2 + ca) / 18446744073709551616 = 0 by omega] at r2
  replace r1 : ∀ W, (callFunc 25 #[.int .u64 (l1 : Int), .int .u64 (l2 : Int), .int .u64 0]).run Try.prog W = .ok (.value (.tuple #[.int .u64 (lo : Int), .int .u64 (ca : Int)])) W := r1
  replace r2 : ∀ W, (callFunc 25 #[.int .u64 (h1 : Int), .int .u64 (h2 : Int), .int .u64 (ca : Int)]).run Try.prog W = .ok (.value (.tuple #[.int .u64 (hi : Int), .int .u64 0])) W := r2
  rw [show S = hi * 18446744073709551616 + lo by omega, wof_parts hi lo (by omega)]
  clear hlo hca hhi hs hS
  unfold wv
  go_enter Try.func22, Try.ntmps22
  go_wp2
  go_returns
  exact ⟨rfl, (((Below.refl _ _).alloc (Nat.le_refl _) _).alloc (by simp) _).alloc (by simp; omega) _⟩

set_option maxHeartbeats 2000000 in
theorem Add_over (h1 l1 n : Nat) (a1 : h1 < 18446744073709551616) (a2 : l1 < 18446744073709551616) (a4 : n < 18446744073709551616)
    (hs : 340282366920938463463374607431768211456 ≤ h1 * 18446744073709551616 + l1 + n) (w : World) :
    Calls Try.prog 15 #[wv h1 l1, .int .u64 n] w (Ret (.tuple #[wv 0 0, eno 12]) w) := by
  have hP := fun W => Plus_over h1 l1 0 n a1 a2 (by decide) a4 (by omega) W
  clear hs
  unfold wv at hP ⊢
  unfold eno at hP ⊢
  go_enter Try.func15, Try.ntmps15
  go_wp2_with fail
  refine (hP _).mono ?_
  rintro e w1 ⟨rfl, hb1⟩
  have hs1 := hb1.size
  have hb : Below w.heap.size w w1 := (((Below.refl _ _).alloc (Nat.le_refl _) _).alloc (by simp) _).trans (hb1.mono (by simp; omega))
  have HK : Hid (Blk w1 (w.heap.size + 1) 46 #[.int .u64 0, .int .u64 0]) := Lib.hid (by
    have h := Blk.new (w.alloc (.cells #[.int .u64 (h1 : Int), .int .u64 (l1 : Int)] 46)) 46 #[.int .u64 0, .int .u64 0]
    simp only [World.size_alloc] at h
    exact h.below hb1 (by simp))
  have k0 : w1.cell? ⟨w.heap.size + 1, 0, none⟩ = some (.int .u64 0) := HK.out.cell 0
  have k1 : w1.cell? ⟨w.heap.size + 1, 1, none⟩ = some (.int .u64 0) := HK.out.cell 1
  have f0 : w1.frozen? ⟨w.heap.size + 1, 0, none⟩ = false := HK.out.frozen 0
  have f1 : w1.frozen? ⟨w.heap.size + 1, 1, none⟩ = false := HK.out.frozen 1
  clear hb1
  go_wp2_with fail
  have HB := (HK.out.set_ 0 (.int .u64 0)).set_ 1 (.int .u64 0)
  have q0 := HB.cell 0
  have q1 := HB.cell 1
  refine bodyPost_ret (by simp [results, Try.results15, go_sem, q0, q1]; try rfl) rfl ?_
  exact ⟨rfl, (hb.setCell (by simp) _).setCell (by simp) _⟩

set_option maxHeartbeats 2000000 in
theorem Add_ok (h1 l1 n S : Nat) (a2 : l1 < 18446744073709551616) (a4 : n < 18446744073709551616)
    (hS : h1 * 18446744073709551616 + l1 + n = S) (hs : S < 340282366920938463463374607431768211456) (w : World) :
    Calls Try.prog 15 #[wv h1 l1, .int .u64 n] w (Ret (.tuple #[wof S, .nilIface]) w) := by
  have hP := fun W => Plus_ok h1 l1 0 n S a2 a4 (by omega) hs W
  obtain ⟨sh, sl, es, -, -⟩ := wof_ex S
  rw [es] at hP ⊢
  clear hs hS es
  unfold wv at hP ⊢
  go_enter Try.func15, Try.ntmps15
  go_wp2_with fail
  refine (hP _).mono ?_
  rintro e w1 ⟨rfl, hb1⟩
  have hs1 := hb1.size
  have hb : Below w.heap.size w w1 := (((Below.refl _ _).alloc (Nat.le_refl _) _).alloc (by simp) _).trans (hb1.mono (by simp; omega))
  have HK : Hid (Blk w1 (w.heap.size + 1) 46 #[.int .u64 0, .int .u64 0]) := Lib.hid (by
    have h := Blk.new (w.alloc (.cells #[.int .u64 (h1 : Int), .int .u64 (l1 : Int)] 46)) 46 #[.int .u64 0, .int .u64 0]
    simp only [World.size_alloc] at h
    exact h.below hb1 (by simp))
  have k0 : w1.cell? ⟨w.heap.size + 1, 0, none⟩ = some (.int .u64 0) := HK.out.cell 0
  have k1 : w1.cell? ⟨w.heap.size + 1, 1, none⟩ = some (.int .u64 0) := HK.out.cell 1
  have f0 : w1.frozen? ⟨w.heap.size + 1, 0, none⟩ = false := HK.out.frozen 0
  have f1 : w1.frozen? ⟨w.heap.size + 1, 1, none⟩ = false := HK.out.frozen 1
  clear hb1
  go_wp2_with fail
  have HB := (HK.out.set_ 0 (.int .u64 sh)).set_ 1 (.int .u64 sl)
  have q0 := HB.cell 0
  have q1 := HB.cell 1
  refine bodyPost_ret (by simp [results, Try.results15, go_sem, q0, q1]; try rfl) rfl ?_
  exact ⟨rfl, (hb.setCell (by simp) _).setCell (by simp) _⟩

end Go.Proofs.Ytbfekonlgbolcaa
