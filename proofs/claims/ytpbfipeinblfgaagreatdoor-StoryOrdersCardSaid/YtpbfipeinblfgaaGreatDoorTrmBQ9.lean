/-
own: terms as the document has them. No condition but the numbers' kinds.
-/
import Derived.Test.YtpbfipeinblfgaaGreatDoorTrmAQ9
namespace Go.Proofs.YtpbfipeinblfgaaGreatDoor
open Go.RowKit

theorem blk8 {w : World} {q : Nat} {ty : TypeId} {a0 a1 a2 a3 a4 a5 a6 a7 : Value} (h : Blk w q ty #[a0, a1, a2, a3, a4, a5, a6, a7]) : w.cell? ⟨q, 0, none⟩ = some a0 ∧ w.cell? ⟨q, 1, none⟩ = some a1 ∧ w.cell? ⟨q, 2, none⟩ = some a2 ∧ w.cell? ⟨q, 3, none⟩ = some a3 ∧ w.cell? ⟨q, 4, none⟩ = some a4 ∧ w.cell? ⟨q, 5, none⟩ = some a5 ∧ w.cell? ⟨q, 6, none⟩ = some a6 ∧ w.cell? ⟨q, 7, none⟩ = some a7 := by
  have c0 := h.cell 0
  have c1 := h.cell 1
  have c2 := h.cell 2
  have c3 := h.cell 3
  have c4 := h.cell 4
  have c5 := h.cell 5
  have c6 := h.cell 6
  have c7 := h.cell 7
  simp at c0 c1 c2 c3 c4 c5 c6 c7
  exact ⟨c0, c1, c2, c3, c4, c5, c6, c7⟩
end Go.Proofs.YtpbfipeinblfgaaGreatDoor
