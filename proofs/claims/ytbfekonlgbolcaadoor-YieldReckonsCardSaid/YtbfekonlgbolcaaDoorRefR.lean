/-
  The references' Add and Less. Conditions: the numbers are there.
-/
import Derived.Test.YtbfekonlgbolcaaDoorRefO
import Derived.Test.YtbfekonlgbolcaaDoorDivA
import Derived.BigQuiet
namespace Go.Proofs.YtbfekonlgbolcaaDoor
open Go.RowKit

/-- Sums digit by digit, with what is carried on. -/
def addD : List Nat → List Nat → Nat → List Nat × Nat
  | a :: l, b :: m, o => ((a + b + o) % 65536 :: (addD l m ((a + b + o) / 65536)).1, (addD l m ((a + b + o) / 65536)).2)
  | _, _, o => ([], o)
theorem addD_val (l m : List Nat) (o : Nat) (h : l.length = m.length) : val (addD l m o).1 + 65536 ^ l.length * (addD l m o).2 = val l + val m + o := by
  induction l generalizing m o with
  | nil =>
    rcases m with _ | ⟨b, m⟩
    · simp [addD, val]
    · simp at h
  | cons a l ih =>
    rcases m with _ | ⟨b, m⟩
    · simp at h
    · have := ih m ((a + b + o) / 65536) (by simpa using h)
      simp only [addD, val, List.length_cons, Nat.pow_succ]
      rw [Nat.mul_right_comm]
      generalize val (addD l m ((a + b + o) / 65536)).1 = v at *
      generalize 65536 ^ l.length * (addD l m ((a + b + o) / 65536)).2 = w at *
      omega
theorem addD_lt (l m : List Nat) (o : Nat) : ∀ u ∈ (addD l m o).1, u < 65536 := by
  induction l generalizing m o with
  | nil => intro u hu; simp [addD] at hu
  | cons a l ih =>
    rcases m with _ | ⟨b, m⟩
    · intro u hu; simp [addD] at hu
    · intro u hu
      simp only [addD] at hu
      rcases List.mem_cons.1 hu with rfl | h
      · exact Nat.mod_lt _ (by decide)
      · exact ih m _ u h
theorem addD_len (l m : List Nat) (o : Nat) (h : l.length = m.length) : (addD l m o).1.length = l.length := by
  induction l generalizing m o with
  | nil => simp [addD]
  | cons a l ih =>
    rcases m with _ | ⟨b, m⟩
    · simp at h
    · simp only [addD, List.length_cons]
      rw [ih m _ (by simpa using h)]

theorem beq_nat (n : Nat) : ((n : Int) == 0) = decide (n = 0) := by
  by_cases h : n = 0
  · subst h; rfl
  · rw [decide_eq_false h, beq_eq_false_iff_ne]
    omega

set_option maxHeartbeats 8000000 in
set_option maxRecDepth 20000 in
theorem RefAdd_raw (a0 a1 a2 a3 a4 a5 a6 a7 b0 b1 b2 b3 b4 b5 b6 b7 : Nat) (ha : ∀ u ∈ [a0, a1, a2, a3, a4, a5, a6, a7], u < 65536) (hb : ∀ u ∈ [b0, b1, b2, b3, b4, b5, b6, b7], u < 65536) (w : World) :
    Calls Tryd.prog 27 #[bgv [a0, a1, a2, a3, a4, a5, a6, a7], bgv [b0, b1, b2, b3, b4, b5, b6, b7]] w fun e w' =>
      e = .returned (.tuple #[bgv (addD [a0, a1, a2, a3, a4, a5, a6, a7] [b0, b1, b2, b3, b4, b5, b6, b7] 0).1, .bool (decide ((addD [a0, a1, a2, a3, a4, a5, a6, a7] [b0, b1, b2, b3, b4, b5, b6, b7] 0).2 = 0))]) ∧ Below w.heap.size w w' := by
  have h0 := ha a0 (by simp); have h1 := ha a1 (by simp); have h2 := ha a2 (by simp); have h3 := ha a3 (by simp); have h4 := ha a4 (by simp); have h5 := ha a5 (by simp); have h6 := ha a6 (by simp); have h7 := ha a7 (by simp)
  have g0 := hb b0 (by simp); have g1 := hb b1 (by simp); have g2 := hb b2 (by simp); have g3 := hb b3 (by simp); have g4 := hb b4 (by simp); have g5 := hb b5 (by simp); have g6 := hb b6 (by simp); have g7 := hb b7 (by simp)
  clear ha hb
  simp only [bgv, List.map_cons, List.map_nil]
  go_enter Tryd.func27, Tryd.ntmps27
  go_wp2
  refine wp_loop_rounds 9 ?_
  iterate 8
    rw [rounds_succ]
    go_wp2
    go_quiet (fail)
    go_wp2
  rw [rounds_succ]
  go_wp2
  go_returns
  refine ⟨?_, ?_⟩
  · rw [← beq_nat]
    simp only [addD, List.map_cons, List.map_nil, Nat.add_zero, Int.natCast_emod, Int.natCast_ediv, Int.natCast_add, Int.cast_ofNat_Int]
  · repeat' first
      | (with_reducible exact Below.refl _ _)
      | (with_reducible refine Below.setCell ?_ ?_ _)
      | (with_reducible refine below_drewN ?_ _)
      | (with_reducible refine Below.alloc ?_ ?_ _)
      | (simp; done)
      | (simp; omega)

/-- The sum of two numbers, and whether it fits. -/
theorem RefAdd_any (x y : Nat) (hx : x < 340282366920938463463374607431768211456) (hy : y < 340282366920938463463374607431768211456) (w : World) :
    Calls Tryd.prog 27 #[bgv (digs 8 x), bgv (digs 8 y)] w fun e w' =>
      e = .returned (.tuple #[bgv (digs 8 ((x + y) % 340282366920938463463374607431768211456)), .bool (decide (x + y < 340282366920938463463374607431768211456))]) ∧ Below w.heap.size w w' := by
  have vx := val_digs 8 x hx
  have vy := val_digs 8 y hy
  have lx := digs_lt 8 x
  have ly := digs_lt 8 y
  obtain ⟨a0, a1, a2, a3, a4, a5, a6, a7, ex⟩ := eight (digs 8 x) (digs_length 8 x)
  obtain ⟨b0, b1, b2, b3, b4, b5, b6, b7, ey⟩ := eight (digs 8 y) (digs_length 8 y)
  rw [ex] at vx lx ⊢
  rw [ey] at vy ly ⊢
  have hv := addD_val [a0, a1, a2, a3, a4, a5, a6, a7] [b0, b1, b2, b3, b4, b5, b6, b7] 0 rfl
  have hl := addD_lt [a0, a1, a2, a3, a4, a5, a6, a7] [b0, b1, b2, b3, b4, b5, b6, b7] 0
  have hn := addD_len [a0, a1, a2, a3, a4, a5, a6, a7] [b0, b1, b2, b3, b4, b5, b6, b7] 0 rfl
  have hr := RefAdd_raw a0 a1 a2 a3 a4 a5 a6 a7 b0 b1 b2 b3 b4 b5 b6 b7 lx ly w
  rw [vx, vy] at hv
  obtain ⟨r, hre⟩ : ∃ r, addD [a0, a1, a2, a3, a4, a5, a6, a7] [b0, b1, b2, b3, b4, b5, b6, b7] 0 = r := ⟨_, rfl⟩
  rw [hre] at hv hl hn hr
  have hlt := val_lt r.1 hl
  rw [hn] at hlt
  simp only [List.length_cons, List.length_nil, Nat.zero_add, Nat.reduceAdd, Nat.reducePow] at hlt hv
  have e1 : (x + y) % 340282366920938463463374607431768211456 = val r.1 := by omega
  have e2 : decide (r.2 = 0) = decide (x + y < 340282366920938463463374607431768211456) := by
    apply decide_eq_decide.2
    omega
  have e3 : digs 8 (val r.1) = r.1 := by
    have h := digs_val r.1 hl
    rw [hn] at h
    exact h
  rw [e2] at hr
  rw [e1, e3]
  exact hr
end Go.Proofs.YtbfekonlgbolcaaDoor
