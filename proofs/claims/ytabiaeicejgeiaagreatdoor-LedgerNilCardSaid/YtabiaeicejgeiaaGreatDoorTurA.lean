/-
  Entry.Of, slices.IndexFunc at legs, slices.Clone at legs. Conditions: the rows are there.
-/
import Derived.Test.YtabiaeicejgeiaaGreatDoorChDa
import Derived.LoopTactic
namespace Go.Proofs.YtabiaeicejgeiaaGreatDoor
open Go.ChangeShapes Go.WideShapes Go.ChangeAt Go.RowKit

/-- The place of the first leg of the account, or -1. -/
def idxL (l : List (Nat × Int)) (a : Nat) : Int := match l.findIdx? (fun g => g.1 == a) with
  | some i => (i : Int)
  | none => -1
/-- The amount of the first leg of the account, or nothing. -/
def ofL (l : List (Nat × Int)) (a : Nat) : Int := match l.find? (fun g => g.1 == a) with
  | some g => g.2
  | none => 0
theorem idx_yes {l : List (Nat × Int)} {a k : Nat} (hk : k < l.length) (h : l[k].1 = a) (hn : ∀ i, i < k → (l.getD i (0, 0)).1 ≠ a) : idxL l a = (k : Int) ∧ ofL l a = l[k].2 := by
  have e : l.findIdx? (fun g => g.1 == a) = some k := by
    rw [List.findIdx?_eq_some_iff_getElem]
    refine ⟨hk, by simpa using h, fun j hj => ?_⟩
    have := hn j hj
    rw [List.getD_eq_getElem?_getD, List.getElem?_eq_getElem (by omega)] at this
    simpa using this
  have e2 : l.find? (fun g => g.1 == a) = some l[k] := by
    rw [List.find?_eq_some_iff_getElem]
    refine ⟨by simpa using h, k, hk, rfl, fun j hj => ?_⟩
    have := hn j hj
    rw [List.getD_eq_getElem?_getD, List.getElem?_eq_getElem (by omega)] at this
    simpa using this
  exact ⟨by unfold idxL; rw [e], by unfold ofL; rw [e2]⟩
theorem idx_none {l : List (Nat × Int)} {a : Nat} (hn : ∀ i, i < l.length → (l.getD i (0, 0)).1 ≠ a) : idxL l a = -1 ∧ ofL l a = 0 := by
  have hh : ∀ x ∈ l, ¬ (x.1 == a) = true := fun x hx => by
    obtain ⟨i, hi, rfl⟩ := List.mem_iff_getElem.1 hx
    have := hn i hi
    rw [List.getD_eq_getElem?_getD, List.getElem?_eq_getElem hi] at this
    simpa using this
  have e : l.findIdx? (fun g => g.1 == a) = none := by
    rw [List.findIdx?_eq_none_iff]
    intro x hx
    simpa using hh x hx
  have e2 : l.find? (fun g => g.1 == a) = none := by
    rw [List.find?_eq_none]
    exact hh
  exact ⟨by unfold idxL; rw [e], by unfold ofL; rw [e2]⟩
theorem idx_cases (l : List (Nat × Int)) (a : Nat) : (idxL l a = -1 ∧ ofL l a = 0) ∨ ∃ k, ∃ hk : k < l.length, idxL l a = (k : Int) ∧ ofL l a = l[k].2 := by
  cases e : l.findIdx? (fun g => g.1 == a) with
  | none =>
    left
    rw [List.findIdx?_eq_none_iff] at e
    exact idx_none fun i hi => by
      rw [List.getD_eq_getElem?_getD, List.getElem?_eq_getElem hi]
      have := e l[i] (List.getElem_mem hi)
      simpa using this
  | some k =>
    right
    rw [List.findIdx?_eq_some_iff_getElem] at e
    obtain ⟨hk, h1, h2⟩ := e
    refine ⟨k, hk, idx_yes hk (by simpa using h1) fun i hi => ?_⟩
    have := h2 i hi
    rw [List.getD_eq_getElem?_getD, List.getElem?_eq_getElem (by omega)]
    simpa using this
/-- What holds at a round's head of IndexFunc. -/
def IRel (l : List (Nat × Int)) (a : Nat) (w : World) (i : Value) (w' : World) : Prop := ∃ k : Nat, k ≤ l.length ∧ i = .int .i64 k ∧ (∀ j, j < k → (l.getD j (0, 0)).1 ≠ a) ∧ Below w.heap.size w w'
end Go.Proofs.YtabiaeicejgeiaaGreatDoor
