/-
  drum's seen: where the sector i lies as the last write has it. Conditions: the head is known, the sector is there, its last write's place is known.
-/
import Derived.Test.YtoiiemjaecfnhaaDoorDrumC
namespace Go.Proofs.YtoiiemjaecfnhaaDoor
open Go.RowKit

section
variable {V : Option Addr} {f g v n nv cv cf cl : Nat} {left : Int} {w : World} {d : Nat}

/-- No write of it waits: it lies among the sectors. -/
theorem seen_still (i : Nat) (h : Blk w d 79 (dhead (some ⟨f, 0, none⟩) n cf V nv cv (some ⟨g, 0, none⟩) n cl left)) (hi : i < n) (_hn : n ≤ 8192) (hc : w.cell? ⟨g, i, none⟩ = some (.int .i64 0)) :
    Calls Tryd.prog 40 #[.pointer (some ⟨d, 0, none⟩), .int .i64 (i : Int)] w fun e w' => e = .returned (.pointer (some ⟨f, i * 256, none⟩)) ∧ w' = w := by
  obtain ⟨h0, -, h2, -, -, -, -⟩ := dhead_cells h
  clear h
  have i1 : (0 : Int) ≤ (i : Int) := by omega
  have i2 : (i : Int) < (n : Int) := by omega
  go_enter Tryd.func40, Tryd.ntmps40
  go_wp2
  go_ret
  exact ⟨rfl, rfl⟩
/-- Its last write is the one at place k. -/
theorem seen_wait (i k : Nat) (h : Blk w d 79 (dhead (some ⟨f, 0, none⟩) n cf (some ⟨v, 0, none⟩) nv cv (some ⟨g, 0, none⟩) n cl left)) (hi : i < n) (_hn : n ≤ 8192) (hk : k < nv) (hv : nv ≤ maxLen) (hc : w.cell? ⟨g, i, none⟩ = some (.int .i64 ((k : Int) + 1))) :
    Calls Tryd.prog 40 #[.pointer (some ⟨d, 0, none⟩), .int .i64 (i : Int)] w fun e w' => e = .returned (.pointer (some ⟨v, k * 257 + 1, none⟩)) ∧ w' = w := by
  obtain ⟨h0, h1, h2, -, -, -, -⟩ := dhead_cells h
  clear h
  unfold maxLen at hv
  have i1 : (0 : Int) ≤ (i : Int) := by omega
  have i2 : (i : Int) < (n : Int) := by omega
  have i3 : (0 : Int) < (k : Int) + 1 := by omega
  have i4 : IntKind.i64.wrap ((k : Int) + 1 - 1) = (k : Int) := by rw [IntKind.wrap_i64]; omega
  have i5 : (0 : Int) ≤ (k : Int) := by omega
  have i6 : (k : Int) < (nv : Int) := by omega
  go_enter Tryd.func40, Tryd.ntmps40
  go_wp2
  go_ret
  exact ⟨rfl, rfl⟩
end
end Go.Proofs.YtoiiemjaecfnhaaDoor
