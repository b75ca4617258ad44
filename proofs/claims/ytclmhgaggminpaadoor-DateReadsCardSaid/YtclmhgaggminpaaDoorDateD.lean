/-
  The references' Civil and Number, a date's Number. Condition: the months' lengths are laid.
-/
import Derived.Test.YtclmhgaggminpaaDoorDateC
namespace Go.Proofs.YtclmhgaggminpaaDoor
open Go.RowKit

theorem dby_age (a : Int) : dby (1 + 400 * a) = 146097 * a := by unfold dby; omega
theorem leap_size (Y : Int) : (leapB Y = true → lp Y = 1) ∧ (leapB Y = false → lp Y = 0) := by
  unfold lp
  constructor <;> intro h <;> rw [h] <;> rfl
theorem year_room {n Y : Int} (h1 : n ≤ 3652058) (y1 : 1 ≤ Y) (y2 : Y ≤ 9999) (h : dby Y + 365 + lp Y ≤ n) : Y < 9999 := by
  rcases Int.lt_or_le Y 9999 with h9 | h9
  · exact h9
  · exfalso
    have e : Y = 9999 := by omega
    subst e
    have hs := dby_succ 9999 (by omega) (by omega)
    have he : dby (9999 + 1) = 3652059 := dby_end
    omega

/-- A box of three cells, laid anew. -/
theorem set3 {w : World} {g : Nat} {T : TypeId} {a b c : Value} (h : Blk w g T #[a, b, c]) (x y z : Value) :
    (w.setCell ⟨g, 0, none⟩ x).cell? ⟨g, 0, none⟩ = some x ∧ ((w.setCell ⟨g, 0, none⟩ x).setCell ⟨g, 1, none⟩ y).cell? ⟨g, 1, none⟩ = some y ∧
      (((w.setCell ⟨g, 0, none⟩ x).setCell ⟨g, 1, none⟩ y).setCell ⟨g, 2, none⟩ z).cell? ⟨g, 2, none⟩ = some z :=
  ⟨(h.set_ 0 x).cell 0, ((h.set_ 0 x).set_ 1 y).cell 1, (((h.set_ 0 x).set_ 1 y).set_ 2 z).cell 2⟩
theorem below3 {B : Nat} {a w : World} {g : Nat} (h : Below B a w) (hg : B ≤ g) (x y z : Value) : Below B a (((w.setCell ⟨g, 0, none⟩ x).setCell ⟨g, 1, none⟩ y).setCell ⟨g, 2, none⟩ z) :=
  ((h.setCell hg _).setCell hg _).setCell hg _

end Go.Proofs.YtclmhgaggminpaaDoor
