/-
  The references' Int, Flag of layer 8. Conditions: none.
-/
import Derived.Test.YtbfekonlgbolcabDoorRefQ
namespace Go.Proofs.YtbfekonlgbolcabDoor
open Go.RowKit

/-- The first byte of a row of one's own is written over. -/
theorem own_store {w : World} {base n : Nat} {v : Value} {u0 : UInt8} {D : List UInt8} (h : OwnB w base v n (u0 :: D)) : ∃ g c, v = .slice (some ⟨g, 0, none⟩) n c ∧ n = D.length + 1 ∧ n ≤ c ∧ c ≤ maxLen ∧ base ≤ g ∧ g < w.heap.size ∧ w.cell? ⟨g, 0, none⟩ = some (.int .u8 (u0.toNat : Int)) ∧ w.frozen? ⟨g, 0, none⟩ = false ∧
    ∀ u1 : UInt8, Rd (w.setCell ⟨g, 0, none⟩ (.int .u8 (u1.toNat : Int))) w.heap.size (some ⟨g, 0, none⟩) (u1 :: D) := by
  have hl : (u0 :: D).length = n := by have := h.1; simpa using this
  have h' := h
  unfold OwnB at h'
  rcases h'.2 with ⟨rfl, rfl⟩ | ⟨g, cap, cur, rfl, hb, hg, hnc, hcm, _⟩
  · simp at hl
  · have hk : Blk w g 5 cur := hg
    have hcs := World.ownsRow.cells h' (g := g) rfl
    have hcell : ∀ (j : Nat) u, (u0 :: D)[j]? = some u → w.cell? ⟨g, j, none⟩ = some (.int .u8 (u.toNat : Int)) := fun j u hu => by
      have := hcs j (enc8 u) (by rw [List.getElem?_map, hu]; rfl)
      simpa [go_sem, enc8] using this
    refine ⟨g, cap, rfl, by simpa using hl.symm, hnc, hcm, hb, hk.lt, hcell 0 u0 rfl, hk.frozen 0, fun u1 _ => ⟨g, 0, rfl, hk.lt, fun j u hu => ?_⟩⟩
    rw [Nat.zero_add]
    rcases j with _ | j
    · have e : u1 = u := by simpa using hu
      subst e
      have hlt : 0 < cur.size := by
        have := hk.cell 0
        rw [hcell 0 u0 rfl] at this
        exact (Array.getElem?_eq_some_iff.1 this.symm).1
      rw [(hk.set_ 0 _).cell 0]
      simp [hlt]
    · rw [World.cell?_setCell_other w ⟨g, 0, none⟩ ⟨g, j + 1, none⟩ _ (by simp)]
      exact hcell (j + 1) u hu
theorem own_below {a w : World} {B g : Nat} (h : Below B a w) (hg : B ≤ g) (u : Value) : Below B a (w.setCell ⟨g, 0, none⟩ u) :=
  ⟨h.os, h.tape, h.output, by simpa [World.setCell] using h.size, fun i hi => (Below.heap_setCell w ⟨g, 0, none⟩ u i (fun e => by simp at e; omega)).trans (h.block i hi)⟩

end Go.Proofs.YtbfekonlgbolcabDoor
