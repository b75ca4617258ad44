/-
  slices.Clone at legs; a leg of an own row written over. Conditions: the rows are there.
-/
import Derived.Test.YtdknhjnbkmcicaaDoorTurA
import Derived.Test.YtdknhjnbkmcicaaDoorChH
namespace Go.Proofs.YtdknhjnbkmcicaaDoor
open Go.ChangeShapes Go.WideShapes Go.ChangeAt Go.RowKit

theorem flat_set : ∀ (l : List (Nat × Int)) (k : Nat) (hk : k < l.length) (z : Int), (l.flatMap legT.cells).set (k * 2 + 1) (.int .i64 z) = (l.set k (l[k].1, z)).flatMap legT.cells
  | g :: r, 0, _, z => rfl
  | g :: r, k + 1, hk, z => by
    have ih := flat_set r k (by simpa using hk) z
    have e : ∀ x : Nat × Int, legT.cells x = [.int .u8 (x.1 : Int), .int .i64 x.2] := fun x => rfl
    rw [List.flatMap_cons, List.set_cons_succ, List.flatMap_cons, e, List.getElem_cons_succ, ← ih]
    rw [show (k + 1) * 2 + 1 = (k * 2 + 1) + 1 + 1 by omega]
    rfl
/-- The amount of leg k of an own row, written over. -/
theorem own_setAmt {e : TypeId} {w : World} {base n c g : Nat} {l : List (Nat × Int)} (h : OwnS legT e w base (.slice (some ⟨g, 0, none⟩) n c) n l) {k : Nat} (hk : k < l.length) (z : Int) :
    OwnS legT e (w.setCell ⟨g, k * 2 + 1, none⟩ (.int .i64 z)) base (.slice (some ⟨g, 0, none⟩) n c) n (l.set k (l[k].1, z)) := by
  have hl := h.length (by decide)
  unfold OwnS at h ⊢
  refine ⟨by rw [flatS_len, List.length_set, hl], ?_⟩
  rcases h.2 with ⟨h1, _⟩ | ⟨g', cap', cur, h1, h2, hg, h4, h5, h6, ht⟩
  · cases h1
  · injection h1 with e1 e2 e3
    injection e1 with e1
    injection e1 with e1
    subst e1
    have hcs : k * 2 + 1 < cur.size := by
      rw [h6]
      have : l.length ≤ cap' := by rw [hl]; exact h4
      show k * 2 + 1 < cap' * 2
      omega
    refine .inr ⟨g, cap', cur.setIfInBounds (k * 2 + 1) (.int .i64 z), by rw [e3], h2, ?_, h4, h5, by simp [h6], ?_⟩
    · exact Blk.set_ (show Blk w g e cur from hg) (k * 2 + 1) (.int .i64 z)
    · rw [Array.toList_setIfInBounds, List.take_set, ht]
      unfold flatS
      exact flat_set l k hk z
end Go.Proofs.YtdknhjnbkmcicaaDoor
