/-
  A drum's head in memory, and what only looks at it: has, spend, Dirty, lastKept. Conditions: the head's block is known whole.
-/
import Derived.Test.YtoiiemjaecfnhaaDoorMem
namespace Go.Proofs.YtoiiemjaecfnhaaDoor
open Go.RowKit

/-- A drum's head: its sectors, its writes, the places of the last ones, how many more go well. -/
def dhead (F : Option Addr) (nf cf : Nat) (V : Option Addr) (nv cv : Nat) (L : Option Addr) (nl cl : Nat) (left : Int) : Array Value :=
  #[.slice F nf cf, .slice V nv cv, .slice L nl cl, .int .i64 left]

section
variable {F V L : Option Addr} {nf cf nv cv nl cl : Nat} {left : Int} {w : World} {d : Nat}
theorem dhead_cells (h : Blk w d 79 (dhead F nf cf V nv cv L nl cl left)) :
    w.cell? ⟨d, 0, none⟩ = some (.slice F nf cf) ∧ w.cell? ⟨d, 1, none⟩ = some (.slice V nv cv) ∧ w.cell? ⟨d, 2, none⟩ = some (.slice L nl cl) ∧ w.cell? ⟨d, 3, none⟩ = some (.int .i64 left) ∧
      w.frozen? ⟨d, 1, none⟩ = false ∧ w.frozen? ⟨d, 2, none⟩ = false ∧ w.frozen? ⟨d, 3, none⟩ = false :=
  ⟨h.cell 0, h.cell 1, h.cell 2, h.cell 3, h.frozen 1, h.frozen 2, h.frozen 3⟩

/-- Is there a sector i? -/
theorem has_any (i : Int) (h : Blk w d 79 (dhead F nf cf V nv cv L nl cl left)) :
    Calls Tryd.prog 38 #[.pointer (some ⟨d, 0, none⟩), .int .i64 i] w fun e w' => e = .returned (.bool (decide (0 ≤ i ∧ i < (nf : Int)))) ∧ w' = w := by
  obtain ⟨h0, -, -, -, -, -, -⟩ := dhead_cells h
  clear h
  go_enter Tryd.func38, Tryd.ntmps38
  by_cases h1 : 0 ≤ i
  · by_cases h2 : i < (nf : Int)
    · go_wp2
      go_ret
      simp [h1, h2]
    · go_wp2
      go_ret
      simp [h2]
  · go_wp2
    go_ret
    simp
    omega

/-- One Write or Flush more: none is left. -/
theorem spend_no (h : Blk w d 79 (dhead F nf cf V nv cv L nl cl 0)) :
    Calls Tryd.prog 37 #[.pointer (some ⟨d, 0, none⟩)] w fun e w' => e = .returned (.iface 40 (.int .i64 8)) ∧ w' = w := by
  obtain ⟨-, -, -, h3, -, -, -⟩ := dhead_cells h
  clear h
  go_enter Tryd.func37, Tryd.ntmps37
  go_wp2
  go_ret
  simp
/-- .. all go. -/
theorem spend_all (h : Blk w d 79 (dhead F nf cf V nv cv L nl cl left)) (hl : left < 0) :
    Calls Tryd.prog 37 #[.pointer (some ⟨d, 0, none⟩)] w fun e w' => e = .returned .nilIface ∧ w' = w := by
  obtain ⟨-, -, -, h3, -, -, -⟩ := dhead_cells h
  clear h
  have n0 : ¬ left = 0 := by omega
  have n1 : ¬ 0 < left := by omega
  go_enter Tryd.func37, Tryd.ntmps37
  go_wp2
  go_ret
  simp
/-- .. one more goes. -/
theorem spend_one (h : Blk w d 79 (dhead F nf cf V nv cv L nl cl left)) (hl : 0 < left) (hm : left < 9223372036854775808) :
    Calls Tryd.prog 37 #[.pointer (some ⟨d, 0, none⟩)] w fun e w' => e = .returned .nilIface ∧ w' = w.setCell ⟨d, 3, none⟩ (.int .i64 (left - 1)) := by
  obtain ⟨-, -, -, h3, -, -, h6⟩ := dhead_cells h
  clear h
  have n0 : ¬ left = 0 := by omega
  have i1 : IntKind.i64.wrap (left - 1) = left - 1 := by rw [IntKind.wrap_i64]; omega
  go_enter Tryd.func37, Tryd.ntmps37
  go_wp2
  go_ret
  simp
theorem dhead_spent (h : Blk w d 79 (dhead F nf cf V nv cv L nl cl left)) (x : Int) : Blk (w.setCell ⟨d, 3, none⟩ (.int .i64 x)) d 79 (dhead F nf cf V nv cv L nl cl x) := h.set_ 3 _

/-- How many writes aren't flushed. -/
theorem Dirty_any (h : Blk w d 79 (dhead F nf cf V nv cv L nl cl left)) :
    Calls Tryd.prog 24 #[.pointer (some ⟨d, 0, none⟩)] w fun e w' => e = .returned (.int .i64 (nv : Int)) ∧ w' = w := by
  obtain ⟨-, h1, -, -, -, -, -⟩ := dhead_cells h
  clear h
  go_enter Tryd.func24, Tryd.ntmps24
  go_wp2
  go_ret
  simp
end
end Go.Proofs.YtoiiemjaecfnhaaDoor
