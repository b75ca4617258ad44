/-
  date: a date's Right, Last, Number, Months, a day's Civil; the references' Right, Civil, Number, Months. Condition: the months' lengths are laid.
-/
import Derived.Test.YtkhjmbemjndcoaaGreatDoorDateA
import Derived.Test.YtkhjmbemjndcoaaGreatDoorCalM
import Derived.Lib.QuietBelow
import Derived.BigQuiet
namespace Go.Proofs.YtkhjmbemjndcoaaGreatDoor
open Go.RowKit

theorem below_alloc (w : World) (o : Obj) : Below w.heap.size w (w.alloc o) := (Below.refl _ _).alloc (Nat.le_refl _) _
theorem below_same {P : Program} {f : FuncId} {args : Array Value} {W : World} {v : Value} (h : Calls P f args W fun e w' => e = .returned v ∧ W = w') : Calls P f args W fun e w' => e = .returned v ∧ Below W.heap.size W w' :=
  h.mono fun _ _ ⟨a, b⟩ => ⟨a, b ▸ Below.refl _ _⟩
theorem box3 {w W0 : World} {T : TypeId} {y m d : Value} (h : w.alloc (.cells #[y, m, d] T) = W0) :
    (∀ dd os, (Go.Sort.grow (redrawn W0 dd) os).cell? ⟨w.heap.size, 0, none⟩ = some y) ∧ (∀ dd os, (Go.Sort.grow (redrawn W0 dd) os).cell? ⟨w.heap.size, 1, none⟩ = some m) ∧
      (∀ dd os, (Go.Sort.grow (redrawn W0 dd) os).cell? ⟨w.heap.size, 2, none⟩ = some d) := by
  have hk : Blk W0 w.heap.size T #[y, m, d] := by rw [← h]; exact Blk.new w _ _
  exact ⟨cell_regrown (hk.cell 0), cell_regrown (hk.cell 1), cell_regrown (hk.cell 2)⟩
theorem pos_yes {d : Int} (h : 1 ≤ d) : decide (1 ≤ d) = true := decide_eq_true h
theorem pos_no {d : Int} (h : ¬ 1 ≤ d) : decide (1 ≤ d) = false := decide_eq_false h

set_option maxHeartbeats 1000000 in
theorem CRight_any (y m d : Int) (w : World) (hw : Lens w) : Calls Tryz.prog 35 #[.agg #[.int .i64 y, .int .i64 m, .int .i64 d]] w fun e w' => e = .returned (.bool (rightB y m d)) ∧ Below w.heap.size w w' := by
  obtain ⟨L, hL⟩ : ∃ L, mlen y m = L := ⟨_, rfl⟩
  unfold rightB
  rw [hL]
  go_enter Tryz.func35, Tryz.ntmps35
  go_wp2_with fail
  obtain ⟨W0, hw0⟩ : ∃ W, w.alloc (.cells #[.int .i64 y, .int .i64 m, .int .i64 d] 48) = W := ⟨_, rfl⟩
  have hb0 : Below w.heap.size w W0 := by rw [← hw0]; exact below_alloc w _
  obtain ⟨b0, b1, b2⟩ := box3 hw0
  have HC : ∀ dd os, _ := fun (dd : Nat) (os : Array Obj) => Calls.regrown_of (below_same (hL ▸ Length_any y m (Go.Sort.grow (redrawn W0 dd) os) ((hw.below hb0).below (below_regrown W0 dd os))))
  rw [hw0]
  clear hw0 hw
  by_cases hd : 1 ≤ d
  · have hd1 := pos_yes hd
    refine wp_region_quiet_below (by kernel_rfl) (by kernel_rfl) ?_
    repeat (go_big_quiet_step (exact HC _ _))
    refine wpQuiet_nil ?_
    intro w9 hw'
    have hbx : Below W0.heap.size W0 w9 := by
      obtain ⟨p, rfl⟩ := hw'
      exact below_regrown _ _ _
    clear hw' HC b0 b1 b2
    go_wp2_with fail
    go_ret
    exact ⟨ret_bool (by simp [hd]), hb0.trans (hbx.mono hb0.size)⟩
  · have hd1 := pos_no hd
    refine wp_region_quiet_below (by kernel_rfl) (by kernel_rfl) ?_
    repeat (go_big_quiet_step (exact HC _ _))
    refine wpQuiet_nil ?_
    intro w9 hw'
    have hbx : Below W0.heap.size W0 w9 := by
      obtain ⟨p, rfl⟩ := hw'
      exact below_regrown _ _ _
    clear hw' HC b0 b1 b2
    go_wp2_with fail
    go_ret
    exact ⟨ret_bool (by simp), hb0.trans (hbx.mono hb0.size)⟩

def plen (m : Int) : Int := if m = 2 then 28 else if m = 4 ∨ m = 6 ∨ m = 9 ∨ m = 11 then 30 else 31
theorem plen_at (m : Int) (h1 : 1 ≤ m) (h2 : m ≤ 12) : ([Value.int IntKind.i64 31, .int .i64 28, .int .i64 31, .int .i64 30, .int .i64 31, .int .i64 30, .int .i64 31, .int .i64 31, .int .i64 30, .int .i64 31, .int .i64 30, .int .i64 31] : List Value)[m.toNat - 1]? = some (.int .i64 (plen m)) := by
  have hm : m = 1 ∨ m = 2 ∨ m = 3 ∨ m = 4 ∨ m = 5 ∨ m = 6 ∨ m = 7 ∨ m = 8 ∨ m = 9 ∨ m = 10 ∨ m = 11 ∨ m = 12 := by omega
  rcases hm with rfl | rfl | rfl | rfl | rfl | rfl | rfl | rfl | rfl | rfl | rfl | rfl <;> rfl

set_option maxHeartbeats 1000000 in
theorem RLength_any (y m : Int) (w : World) : Calls Tryz.prog 26 #[.int .i64 y, .int .i64 m] w fun e w' => e = .returned (.int .i64 (mlen y m)) ∧ Below w.heap.size w w' := by
  by_cases h : 1 ≤ y ∧ y ≤ 9999 ∧ 1 ≤ m ∧ m ≤ 12
  · obtain ⟨h1, h2, h3, h4⟩ := h
    have hp := plen_at m h3 h4
    have hl : ∀ W, Calls Tryz.prog 41 #[.int .i64 y] W fun e w' => e = .returned (.bool (leapB y)) ∧ W = w' := fun W => RefLeap_any y W
    by_cases h5 : m = 2
    · subst h5
      have hp : ([Value.int IntKind.i64 31, .int .i64 28, .int .i64 31, .int .i64 30, .int .i64 31, .int .i64 30, .int .i64 31, .int .i64 31, .int .i64 30, .int .i64 31, .int .i64 30, .int .i64 31] : List Value)[1]? = some (.int .i64 28) := rfl
      cases hb : leapB y
      · have hm : mlen y 2 = 28 := by unfold mlen lp; rw [hb]; simp [h1, h2]
        rw [hm]
        rw [hb] at hl
        clear hm hb
        go_enter Tryz.func26, Tryz.ntmps26
        go_wp2_with (go_at_call 41; refine (hl _).mono ?_; rintro e w' ⟨rfl, rfl⟩)
        go_ret
        exact ⟨rfl, below_alloc _ _⟩
      · have hm : mlen y 2 = 29 := by unfold mlen lp; rw [hb]; simp [h1, h2]
        rw [hm]
        rw [hb] at hl
        clear hm hb
        go_enter Tryz.func26, Tryz.ntmps26
        go_wp2_with (go_at_call 41; refine (hl _).mono ?_; rintro e w' ⟨rfl, rfl⟩)
        go_ret
        exact ⟨rfl, below_alloc _ _⟩
    · have hm : mlen y m = plen m := by unfold mlen plen; rw [if_pos ⟨h1, h2, h3, h4⟩, if_neg h5, if_neg h5]
      rw [← hm] at hp
      clear hm
      go_enter Tryz.func26, Tryz.ntmps26
      go_wp2_with (go_at_call 41; refine (hl _).mono ?_; rintro e w' ⟨rfl, rfl⟩)
      go_ret
      exact ⟨rfl, below_alloc _ _⟩
  · rw [mlen_no y m (by omega)]
    by_cases h1 : 1 ≤ y
    · by_cases h2 : y ≤ 9999
      · by_cases h3 : 1 ≤ m
        · have h4 : ¬ m ≤ 12 := by omega
          clear h
          go_enter Tryz.func26, Tryz.ntmps26
          go_wp2
          go_ret
          exact ⟨rfl, Below.refl _ _⟩
        · clear h
          go_enter Tryz.func26, Tryz.ntmps26
          go_wp2
          go_ret
          exact ⟨rfl, Below.refl _ _⟩
      · clear h
        go_enter Tryz.func26, Tryz.ntmps26
        go_wp2
        go_ret
        exact ⟨rfl, Below.refl _ _⟩
    · clear h
      go_enter Tryz.func26, Tryz.ntmps26
      go_wp2
      go_ret
      exact ⟨rfl, Below.refl _ _⟩

end Go.Proofs.YtkhjmbemjndcoaaGreatDoor
