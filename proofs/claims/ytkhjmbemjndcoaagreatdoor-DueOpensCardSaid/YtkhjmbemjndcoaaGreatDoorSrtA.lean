/-
  The library's sort over days, I: less; the short sort. Conditions: the row lies there.
-/
import Derived.Test.YtkhjmbemjndcoaaGreatDoorMem
import Derived.Sort.AssemblyPlain
import Derived.Sort.Row
import Derived.RegionTactic
import Derived.Deep.QuietTactic
import Derived.BigCall
import Derived.BigGuard
import Derived.CellFam
import Derived.BigQuiet
import Derived.LoopTactic
namespace Go.Proofs.YtkhjmbemjndcoaaGreatDoor
open Go.RowKit
open Go.Sort (putRow Holds swp ltInt PermIn SortedIn holds_putRow holds_ahead putRow_self putRow_swp putRow_ahead ahead_ahead cell?_putRow frozen?_putRow size_swp)

/-- A day as a value. -/
abbrev eD (n : Int) : Value := .int .i32 n
/-- The row, n draws on. -/
def Rw9 (w : World) (blk off : Nat) (d : Array Int) (w' : World) : Prop := ∃ n, w' = putRow eD (Go.Sort.ahead w n) blk off d

theorem Rw9.refl {w : World} {blk off : Nat} {d : Array Int} (h : Holds eD w blk off d) : Rw9 w blk off d w := ⟨0, (putRow_self _ _ _ _ _ h).symm⟩
theorem Rw9.holds {w w' : World} {blk off : Nat} {d d' : Array Int} (h : Holds eD w blk off d) (hr : Rw9 w blk off d' w') (hs : d'.size = d.size) : Holds eD w' blk off d' := by
  obtain ⟨n, rfl⟩ := hr
  exact holds_putRow _ _ _ _ d d' (holds_ahead _ _ _ _ _ _ h) hs
theorem Rw9.drewN {w w' : World} {blk off : Nat} {d : Array Int} (h : Rw9 w blk off d w') (q : Nat) : Rw9 w blk off d (w'.drewN q) := by
  obtain ⟨n, rfl⟩ := h
  exact ⟨n + q, by
    show Go.Sort.ahead (putRow eD (Go.Sort.ahead w n) blk off d) q = _
    rw [putRow_ahead eD w n, ahead_ahead, ← putRow_ahead]⟩
theorem Rw9.trans {w w' w'' : World} {blk off : Nat} {d d' : Array Int} (h : Rw9 w blk off d w') (h' : Rw9 w' blk off d' w'') (hs : d'.size = d.size) : Rw9 w blk off d' w'' := by
  obtain ⟨n, rfl⟩ := h
  obtain ⟨m, rfl⟩ := h'
  exact ⟨n + m, Go.Sort.putRow_ahead_putRow _ _ _ _ _ _ _ _ hs⟩
/-- Two elements changed for one another. -/
theorem Rw9.swap {w w' : World} {blk off : Nat} {d : Array Int} (h : Rw9 w blk off d w') {i j : Nat} (hi : i < d.size) (hj : j < d.size) {x y : Int} (hx : x = d[j]!) (hy : y = d[i]!) :
    Rw9 w blk off (swp d i j) ((w'.setCell ⟨blk, off + i, none⟩ (eD x)).setCell ⟨blk, off + j, none⟩ (eD y)) := by
  obtain ⟨n, rfl⟩ := h
  subst hx hy
  exact ⟨n, putRow_swp eD _ blk off d i j hi hj⟩
theorem Rw9.drew {w w' : World} {blk off : Nat} {d : Array Int} (h : Rw9 w blk off d w') : Rw9 w blk off d w'.drew := h.drewN 1
/-- What a load reads, what is not frozen. -/
theorem Rw9.fam {w w' : World} {blk off : Nat} {d d' : Array Int} (h : Holds eD w blk off d) (hr : Rw9 w blk off d' w') (hs : d'.size = d.size) :
    ∃ G : Nat → Int, (∀ t, G t = d'[t]!) ∧ (∀ t, t < d.size → w'.cell? ⟨blk, off + t, none⟩ = some (.int .i32 (G t))) ∧ ∀ t, t < d.size → w'.frozen? ⟨blk, off + t, none⟩ = false :=
  ⟨fun t => d'[t]!, fun _ => rfl, fun t ht => (hr.holds h hs t (by omega)).1, fun t ht => (hr.holds h hs t (by omega)).2⟩

set_option maxRecDepth 20000 in
theorem isNaN9 (x : Int) (w : World) : Calls Tryz.prog 62 #[.int .i32 x] w fun e w' => e = .returned (.bool false) ∧ w' = w := by
  go_enter Tryz.func62, Tryz.ntmps62
  go_wp2
  go_ret
  exact ⟨rfl, rfl⟩
set_option maxRecDepth 20000 in
theorem Less9 (x y : Int) (w : World) : Calls Tryz.prog 53 #[.int .i32 x, .int .i32 y] w fun e w' => e = .returned (.bool (ltInt x y)) ∧ w' = w := by
  go_enter Tryz.func53, Tryz.ntmps53
  go_wp2_with (go_at_call 62; refine (isNaN9 _ _).mono ?_; rintro e w' ⟨rfl, rfl⟩)
  go_ret
  exact ⟨rfl, rfl⟩
end Go.Proofs.YtkhjmbemjndcoaaGreatDoor
