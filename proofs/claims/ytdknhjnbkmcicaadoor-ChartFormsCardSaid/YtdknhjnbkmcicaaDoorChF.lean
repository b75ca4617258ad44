/-
  The document's Make. Conditions: the rows are there.
-/
import Derived.Test.YtdknhjnbkmcicaaDoorChE
namespace Go.Proofs.YtdknhjnbkmcicaaDoor
open Go.ChangeShapes Go.WideShapes Go.ChangeAt Go.RowKit

def RMakePost (y : Ky) (L : List (Nat × Int)) (w : World) (e : Ending) (w' : World) : Prop :=
  ∃ (A : Option Addr) (c : Nat), e = .returned (entV y (.slice A (mkL L).length c)) ∧ OwnS legT 78 w' w.heap.size (.slice A (mkL L).length c) (mkL L).length (mkL L) ∧ Below w.heap.size w w'
/-- All accounts up to n are within. -/
def okTo (L : List (Nat × Int)) (n : Nat) : Prop := ∀ a, a < n → accs L a ≠ none
theorem rkeyNe : (43 : TypeId) ≠ 78 := by decide
theorem okTo_all {L : List (Nat × Int)} (h : okTo L 256) (hI : ∀ u ∈ L, LegIn u) : okL L := fun a e => by
  rcases Nat.lt_or_ge a 256 with ha | ha
  · exact h a ha e
  · have : hasA L a = false := by
      rw [Bool.eq_false_iff]
      intro hh
      simp only [hasA, List.any_eq_true, beq_iff_eq] at hh
      obtain ⟨g, hg, rfl⟩ := hh
      have := (hI g hg).1
      omega
    rw [accs_no this] at e
    cases e
def rowsTo (L : List (Nat × Int)) (n : Nat) : List (Nat × Int) := (keysTo L n).map (rowA L)
theorem rowsTo_yes {L : List (Nat × Int)} {n : Nat} (h : hasA L n = true) : rowsTo L (n + 1) = rowsTo L n ++ [(n, sumA L n)] := by unfold rowsTo; rw [keysTo_succ, if_pos h]; simp [rowA]
theorem rowsTo_no {L : List (Nat × Int)} {n : Nat} (h : hasA L n = false) : rowsTo L (n + 1) = rowsTo L n := by unfold rowsTo; rw [keysTo_succ, if_neg (by rw [h]; decide)]
theorem rowsTo_len (L : List (Nat × Int)) (n : Nat) : (rowsTo L n).length ≤ n := by unfold rowsTo; rw [List.length_map]; exact keysTo_len L n
theorem accs_step {L : List (Nat × Int)} {k a : Nat} (h : k < L.length) : accs (L.take (k + 1)) a = if (L[k]).1 = a then addO (accs (L.take k) a) (L[k]).2 else accs (L.take k) a := by
  rw [List.take_succ_eq_append_getElem h, accs_snoc]
  rfl
theorem has_step {L : List (Nat × Int)} {k a : Nat} (h : k < L.length) : hasA (L.take (k + 1)) a = (hasA (L.take k) a || (L[k]).1 == a) := by
  rw [List.take_succ_eq_append_getElem h, hasA_snoc]
end Go.Proofs.YtdknhjnbkmcicaaDoor
