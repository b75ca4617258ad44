/-
Entries' cells; rows beside other blocks. No condition.
-/
import Derived.Test.YtpbfipeinblfgaaGreatDoorChAQ9
import Derived.Maps.Ext
import Derived.Maps.RangeWalk
import Derived.Maps.OwnSet
namespace Go.Proofs.YtpbfipeinblfgaaGreatDoor
open Go.ChangeShapes Go.WideShapes Go.ChangeAt Go.RowKit Go.Maps

open Classical in
noncomputable def mkL (L : List (Nat × Int)) : List (Nat × Int) := if okL L then (keysA L).map (rowA L) else []
theorem mkL_ok {L : List (Nat × Int)} (h : okL L) : mkL L = (keysA L).map (rowA L) := by unfold mkL; rw [if_pos h]
theorem mkL_no {L : List (Nat × Int)} (h : ¬ okL L) : mkL L = [] := by unfold mkL; rw [if_neg h]
def entC (y : Ky) (v : Value) : Array Value := #[.int .u32 (y.a : Int), .int .i32 y.d, .int .u8 (y.k : Int), .int .u32 (y.s : Int), v]
def entV (y : Ky) (v : Value) : Value := .agg (entC y v)
theorem set5c {w : World} {g : Nat} {T : TypeId} {a b c d e : Value} (h : Blk w g T #[a, b, c, d, e]) (x0 x1 x2 x3 x4 : Value) :
    Blk (((((w.setCell ⟨g, 0, none⟩ x0).setCell ⟨g, 1, none⟩ x1).setCell ⟨g, 2, none⟩ x2).setCell ⟨g, 3, none⟩ x3).setCell ⟨g, 4, none⟩ x4) g T #[x0, x1, x2, x3, x4] := (((((h.set_ 0 x0).set_ 1 x1).set_ 2 x2).set_ 3 x3).set_ 4 x4)
theorem below_set5c {w w' : World} {B g : Nat} (h : Below B w w') (hg : B ≤ g) (x0 x1 x2 x3 x4 : Value) : Below B w (((((w'.setCell ⟨g, 0, none⟩ x0).setCell ⟨g, 1, none⟩ x1).setCell ⟨g, 2, none⟩ x2).setCell ⟨g, 3, none⟩ x3).setCell ⟨g, 4, none⟩ x4) :=
  ((((h.setCell hg x0).setCell hg x1).setCell hg x2).setCell hg x3).setCell hg x4
theorem OwnS.set5 {α : Type} {T : Lies α} {e : TypeId} {w : World} {b n g : Nat} {v : Value} {l : List α} (h : OwnS T e w b v n l) (hg : v.ownBlock ≠ some g) (x0 x1 x2 x3 x4 : Value) : OwnS T e (((((w.setCell ⟨g, 0, none⟩ x0).setCell ⟨g, 1, none⟩ x1).setCell ⟨g, 2, none⟩ x2).setCell ⟨g, 3, none⟩ x3).setCell ⟨g, 4, none⟩ x4) b v n l := by
  have hs : ∀ (w : World) (i : Nat) (x : Value), w.grownBy (w.setCell ⟨g, i, none⟩ x) (some g) := fun w i x => grown_setCell (grown_refl w _) (.inl rfl) x
  exact World.ownsRow.kept h (grown_trans (grown_trans (grown_trans (grown_trans (hs _ 0 x0) (hs _ 1 x1)) (hs _ 2 x2)) (hs _ 3 x3)) (hs _ 4 x4)) (.inr hg)
theorem OwnS.ne_obj {α : Type} {T : Lies α} {e : TypeId} {w : World} {b n q : Nat} {v : Value} {l : List α} {o : Obj} (h : OwnS T e w b v n l) (hq : w.heap[q]? = some o) (hne : ∀ cur, o ≠ .cells cur e (0, 0)) : v.ownBlock ≠ some q := by
  unfold OwnS at h
  rcases h.2 with ⟨rfl, _⟩ | ⟨g, cap, cur, rfl, _, hg, _⟩
  · simp [Value.ownBlock]
  · intro he
    have : g = q := by simpa [Value.ownBlock] using he
    subst this
    rw [hq] at hg
    exact hne cur (Option.some.inj hg)
theorem OwnS.ne_blk {α : Type} {T : Lies α} {e t : TypeId} {w : World} {b n q : Nat} {v : Value} {l : List α} {cs : Array Value} (h : OwnS T e w b v n l) (hq : Blk w q t cs) (hne : t ≠ e) : v.ownBlock ≠ some q :=
  h.ne_obj hq (fun cur he => by injection he with _ e2; exact hne e2)
theorem OwnS.ne_map {α : Type} {T : Lies α} {e k : TypeId} {w : World} {b n q m : Nat} {v : Value} {l : List α} {P : Program} {R : Value → Option (DataW Unit × List MemPlace)} {D : DataW Unit} (h : OwnS T e w b v n l) (hq : w.ownsMap P k R q m D) : v.ownBlock ≠ some q := by
  obtain ⟨es, clock, hb, _⟩ := hq
  exact h.ne_obj hb (fun cur he => by cases he)
theorem OwnS.ne_iter {α : Type} {T : Lies α} {e k : TypeId} {w : World} {b n q r m cnt : Nat} {v : Value} {l : List α} {P : Program} {R : Value → Option (DataW Unit × List MemPlace)} {D : DataW Unit} {left : Lit → Bool} (h : OwnS T e w b v n l) (hq : w.ranges P k R q r m D left cnt) : v.ownBlock ≠ some r := by
  obtain ⟨_, _, _, _, _, _, _, _, _, hit, _⟩ := hq
  exact h.ne_obj hit (fun cur he => by cases he)
theorem entNe : (61 : TypeId) ≠ 99 := by decide
theorem grown_set (w : World) (g i : Nat) (x : Value) : w.grownBy (w.setCell ⟨g, i, none⟩ x) (some g) := grown_setCell (grown_refl w _) (.inl rfl) x
end Go.Proofs.YtpbfipeinblfgaaGreatDoor
