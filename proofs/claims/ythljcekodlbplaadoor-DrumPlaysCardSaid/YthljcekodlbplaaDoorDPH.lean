/-
  What an act does to the drum, and to the document's: the ways, the codes. Plain mathematics, no condition.
-/
import Derived.Test.YthljcekodlbplaaDoorDPM
import Derived.Test.YthljcekodlbplaaDoorActs
namespace Go.Proofs.YthljcekodlbplaaDoor

/-- Which way an act goes. -/
def kindA (n : Nat) (left : Int) (x : Actn) : Nat :=
  if x.a % 7 = 3 then (if left = 0 then 0 else 1)
  else if x.a % 7 = 4 then 2
  else if x.a % 7 = 5 then (if (0 ≤ x.p ∧ x.p < (n : Int)) ∧ 0 ≤ x.N ∧ x.N < 2048 then 3 else 4)
  else if x.a % 7 = 6 then 5
  else if ¬ (0 ≤ x.p ∧ x.p < (n : Int)) then 6
  else if 256 < x.P.length then 7
  else if left = 0 then 8 else 9
def codeA : Nat → Int
  | 0 => 8 | 4 => 7 | 6 => 7 | 7 => 4 | 8 => 8 | _ => 0
def stepC (fl : (List (List UInt8))) (ws : List (Nat × List UInt8)) (left : Int) (x : Actn) : Nat → (List (List UInt8)) × List (Nat × List UInt8) × Int
  | 1 => (app fl ws, [], less left)
  | 2 => (fallOf fl ws x.K x.N, [], -1)
  | 3 => (fl.set x.p.toNat (turnK (fl.getD x.p.toNat []) x.N.toNat x.k (min 32 (2048 - x.N.toNat))), ws, left)
  | 5 => (fl, ws, x.N)
  | 9 => (fl, ws ++ [(x.p.toNat, full x.P)], less left)
  | _ => (fl, ws, left)
/-- All sectors as they are flushed. -/
def sfA (fs : (List (List UInt8))) (ds : List (Int × List UInt8)) : (List (List UInt8)) := (List.range fs.length).map (sfR fs ds)
def dn (ds : List (Int × List UInt8)) : List (Nat × List UInt8) := ds.map fun x => (x.1.toNat, x.2)
def stepR (fs : (List (List UInt8))) (ds : List (Int × List UInt8)) (left : Int) (x : Actn) : Nat → (List (List UInt8)) × List (Int × List UInt8) × Int
  | 1 => (fs, ds ++ [(-1, [])], less left)
  | 2 => (rfOf (sfA fs ds) (dn (waR ds)) x.K x.N, [], -1)
  | 3 => ((sfA fs ds).set x.p.toNat (turnK ((sfA fs ds).getD x.p.toNat []) x.N.toNat x.k (min 32 (2048 - x.N.toNat))), waR ds, left)
  | 5 => (fs, ds, max x.N (-1))
  | 9 => (fs, ds ++ [(x.p, full x.P)], less left)
  | _ => (fs, ds, left)
theorem dn_up (ws : List (Nat × List UInt8)) : dn (up ws) = ws := by
  unfold dn up
  rw [List.map_map]
  conv => rhs; rw [← List.map_id ws]
  exact List.map_congr_left fun x _ => rfl
theorem RelD.all {fl fs : List (List UInt8)} {ws : List (Nat × List UInt8)} {ds : List (Int × List UInt8)} (h : RelD fl ws fs ds) : sfA fs ds = fl := by
  have e : sfA fs ds = (List.range fl.length).map (sfR fs ds) := by unfold sfA; rw [h.len]
  rw [e]
  apply List.ext_getElem
  · rw [List.length_map, List.length_range]
  · intro i h1 h2
    rw [List.getElem_map, List.getElem_range, ← h.sf i h2, List.getD_eq_getElem?_getD, List.getElem?_eq_getElem h2]
    rfl
theorem kind_max (n : Nat) (left : Int) (x : Actn) : kindA n (max left (-1)) x = kindA n left x := by
  have e : (max left (-1) = 0) = (left = 0) := by apply propext; omega
  unfold kindA
  simp only [e]
theorem less_max {left : Int} (h : left ≠ 0) : less (max left (-1)) = max (less left) (-1) := by
  unfold less
  split <;> split <;> omega
theorem kind1 {n : Nat} {left : Int} {x : Actn} (h : kindA n left x = 1) : left ≠ 0 := by
  unfold kindA at h
  intro e
  rw [if_pos e, if_pos e] at h
  (repeat' split at h) <;> omega
theorem kind9 {n : Nat} {left : Int} {x : Actn} (h : kindA n left x = 9) : left ≠ 0 ∧ 0 ≤ x.p := by
  unfold kindA at h
  (repeat' split at h) <;> first | (exfalso; omega) | exact ⟨by assumption, by omega⟩
/-- THEY GO ON ALIKE. -/
theorem RelD.step {fl fs : (List (List UInt8))} {ws : List (Nat × List UInt8)} {ds : List (Int × List UInt8)} {left : Int} (h : RelD fl ws fs ds) (x : Actn) {n : Nat} (hf : ∀ s ∈ fl, s.length = 256) (hw : ∀ y ∈ ws, y.2.length = 256) (ha : ∀ y ∈ ws, y.1 < fl.length) (hk : kindA fl.length left x = n) :
    RelD (stepC fl ws left x n).1 (stepC fl ws left x n).2.1 (stepR fs ds (max left (-1)) x n).1 (stepR fs ds (max left (-1)) x n).2.1 ∧ (stepR fs ds (max left (-1)) x n).2.2 = max (stepC fl ws left x n).2.2 (-1) := by
  match n, hk with
  | 0, _ => exact ⟨h, rfl⟩
  | 1, hk => exact ⟨h.flush [], less_max (kind1 hk)⟩
  | 2, _ =>
    refine ⟨?_, rfl⟩
    show RelD (fallOf fl ws x.K x.N) [] (rfOf (sfA fs ds) (dn (waR ds)) x.K x.N) []
    rw [h.all, h.wa, dn_up, fallOf_rf x.N hf hw ha]
    exact RelD.self _ []
  | 3, _ =>
    refine ⟨?_, rfl⟩
    show RelD (fl.set x.p.toNat (turnK (fl.getD x.p.toNat []) x.N.toNat x.k (min 32 (2048 - x.N.toNat)))) ws ((sfA fs ds).set x.p.toNat (turnK ((sfA fs ds).getD x.p.toNat []) x.N.toNat x.k (min 32 (2048 - x.N.toNat)))) (waR ds)
    rw [h.all, h.wa]
    exact RelD.self _ ws
  | 4, _ => exact ⟨h, rfl⟩
  | 5, _ => exact ⟨h, rfl⟩
  | 6, _ => exact ⟨h, rfl⟩
  | 7, _ => exact ⟨h, rfl⟩
  | 8, _ => exact ⟨h, rfl⟩
  | 9, hk =>
    obtain ⟨h0, hp⟩ := kind9 hk
    refine ⟨?_, less_max h0⟩
    have := h.write x.p.toNat (full x.P)
    rw [show ((x.p.toNat : Nat) : Int) = x.p by omega] at this
    exact this
  | _ + 10, _ => exact ⟨h, rfl⟩
end Go.Proofs.YthljcekodlbplaaDoor
