/-
  A ledger stays what it is while its blocks do. No condition.
-/
import Derived.Test.YtabiaeicejgeiaaGreatDoorLedA
namespace Go.Proofs.YtabiaeicejgeiaaGreatDoor
open Go.ChangeShapes Go.WideShapes Go.ChangeAt Go.RowKit Go.Maps

theorem cell_blk {w w' : World} {p : Addr} (h : w'.heap[p.block]? = w.heap[p.block]?) : w'.cell? p = w.cell? p := by
  unfold World.cell?
  rw [h]
theorem OwnS.same {α : Type} {T : Lies α} {e : TypeId} {w w' : World} {b n : Nat} {v : Value} {l : List α} (h : OwnS T e w b v n l) (hk : ∀ g, v.ownBlock = some g → w'.heap[g]? = w.heap[g]?) : OwnS T e w' b v n l := by
  unfold OwnS at h ⊢
  refine ⟨h.1, ?_⟩
  rcases h.2 with ⟨h1, h2⟩ | ⟨g, cap, cur, rfl, h2, hg, h3⟩
  · exact .inl ⟨h1, h2⟩
  · exact .inr ⟨g, cap, cur, rfl, h2, (hk g rfl).trans hg, h3⟩
theorem Rs.same {α : Type} {T : Lies α} {w w' : World} {B B' : Nat} {A : Option Addr} {l : List α} (h : Rs T w B A l) (hB : B ≤ B') (hk : ∀ p, A = some p → w'.heap[p.block]? = w.heap[p.block]?) : Rs T w' B' A l := fun hn => by
  obtain ⟨b, o, e, hb, hc⟩ := h hn
  exact ⟨b, o, e, by omega, fun j v hv i x hx => (cell_blk (p := ⟨b, _, none⟩) (show w'.heap[b]? = w.heap[b]? from hk _ e)).trans (hc j v hv i x hx)⟩
theorem LegsAt.at_ {w : World} {D : Nat → Prop} {M : List Li} {V : List LinV} (h : LegsAt w D M V) {i : Nat} {v : LinV} (hv : V[i]? = some v) : ∃ x, M[i]? = some x := by
  have := (List.getElem?_eq_some_iff.1 hv).1
  rw [h.len] at this
  exact ⟨_, List.getElem?_eq_getElem this⟩
theorem LegsAt.keep {w w' : World} {D D' : Nat → Prop} {M : List Li} {V : List LinV} (h : LegsAt w D M V) (hk : ∀ (i : Nat) (v : LinV) (p : Addr), V[i]? = some v → v.A = some p → w'.heap[p.block]? = w.heap[p.block]?) (hs : w.heap.size ≤ w'.heap.size) (hD : ∀ i, D i → D' i) : LegsAt w' D' M V :=
  ⟨h.len, h.y, fun i v x h1 h2 => ⟨(h.r i v x h1 h2).1.same hs (fun p hp => hk i v p h1 hp), fun p hp => hD _ ((h.r i v x h1 h2).2 p hp)⟩, fun i v p h1 h2 => by
    obtain ⟨cs, hc⟩ := h.t i v p h1 h2
    exact ⟨cs, (hk i v p h1 h2).trans hc⟩⟩
theorem LegsAt.same {w w' : World} {D : Nat → Prop} {M : List Li} {V : List LinV} (h : LegsAt w D M V) (hk : ∀ i, D i → w'.heap[i]? = w.heap[i]?) (hs : w.heap.size ≤ w'.heap.size) : LegsAt w' D M V :=
  h.keep (fun i v p h1 h2 => by
    obtain ⟨x, hx⟩ := h.at_ h1
    exact hk _ ((h.r i v x h1 hx).2 p h2)) hs (fun _ h => h)
theorem LiveAt.keep {w w' : World} {D D' : Nat → Prop} {L : Ky → Option Nat} {lm : Option Nat} {inn : Nat → Option Nat} (h : LiveAt w D L lm inn) (h1 : ∀ b, lm = some b → w'.heap[b]? = w.heap[b]?) (h2 : ∀ a r, inn a = some r → w'.heap[r]? = w.heap[r]?) (hD : ∀ i, D i → D' i) : LiveAt w' D' L lm inn :=
  ⟨h.nil, fun b hb => ⟨hD _ (h.out b hb).1, (h.out b hb).2.1.keep (h1 b hb), (h.out b hb).2.2⟩, fun a r hr => ⟨hD _ (h.at_ a r hr).1, (h.at_ a r hr).2.keep (h2 a r hr)⟩, h.no, h.one⟩
theorem LiveAt.same {w w' : World} {D : Nat → Prop} {L : Ky → Option Nat} {lm : Option Nat} {inn : Nat → Option Nat} (h : LiveAt w D L lm inn) (hk : ∀ i, D i → w'.heap[i]? = w.heap[i]?) : LiveAt w' D L lm inn :=
  ⟨h.nil, fun b hb => ⟨(h.out b hb).1, (h.out b hb).2.1.keep (hk _ (h.out b hb).1), (h.out b hb).2.2⟩, fun a r hr => ⟨(h.at_ a r hr).1, (h.at_ a r hr).2.keep (hk _ (h.at_ a r hr).1)⟩, h.no, h.one⟩
theorem BalAt.same {w w' : World} {D : Nat → Prop} {M : List Li} {bm : Option Nat} (h : BalAt w D M bm) (hk : ∀ i, D i → w'.heap[i]? = w.heap[i]?) : BalAt w' D M bm :=
  ⟨h.nil, fun b hb => ⟨(h.out b hb).1, (h.out b hb).2.keep (hk _ (h.out b hb).1)⟩⟩
theorem LedL.same {w w' : World} {q : Nat} {D : Nat → Prop} {M : List Li} {L : Ky → Option Nat} (h : LedL w q D M L) (hk : ∀ i, D i → w'.heap[i]? = w.heap[i]?) (hs : w.heap.size ≤ w'.heap.size) : LedL w' q D M L := by
  obtain ⟨lv, V, lm, bm, inn, h1, h2, h3, h4, h5, h6, h7, h8, h9, h10, h11⟩ := h
  exact ⟨lv, V, lm, bm, inn, (hk q h7).trans h1, h2.same (fun g hg => hk g (h8 g hg)), h3.same hk hs, h4.same hk, h5.same hk, h6, h7, h8, fun i hi => Nat.lt_of_lt_of_le (h9 i hi) hs, h10, h11⟩
theorem LedL.lt {w : World} {q : Nat} {D : Nat → Prop} {M : List Li} {L : Ky → Option Nat} (h : LedL w q D M L) : ∀ i, D i → i < w.heap.size := by
  obtain ⟨lv, V, lm, bm, inn, h1, h2, h3, h4, h5, h6, h7, h8, h9, h10, h11⟩ := h
  exact h9
theorem LedL.self {w : World} {q : Nat} {D : Nat → Prop} {M : List Li} {L : Ky → Option Nat} (h : LedL w q D M L) : D q := by
  obtain ⟨lv, V, lm, bm, inn, h1, h2, h3, h4, h5, h6, h7, h8, h9, h10, h11⟩ := h
  exact h7
theorem LedL.fine {w : World} {q : Nat} {D : Nat → Prop} {M : List Li} {L : Ky → Option Nat} (h : LedL w q D M L) : Fine M := by
  obtain ⟨lv, V, lm, bm, inn, h1, h2, h3, h4, h5, h6, h7, h8, h9, h10, h11⟩ := h
  exact h6
theorem LedL.below {w w' : World} {q : Nat} {D : Nat → Prop} {M : List Li} {L : Ky → Option Nat} (h : LedL w q D M L) (hb : Below w.heap.size w w') : LedL w' q D M L :=
  h.same (fun i hi => hb.block i (h.lt i hi)) hb.size
/-- Of what was there nothing but D's blocks has changed. -/
structure Chg (D : Nat → Prop) (w w' : World) : Prop where
  os : w'.os = w.os
  tape : w'.tape = w.tape
  output : w'.output = w.output
  size : w.heap.size ≤ w'.heap.size
  block : ∀ i, i < w.heap.size → ¬ D i → w'.heap[i]? = w.heap[i]?
theorem Chg.below {D : Nat → Prop} {w w' : World} (h : Chg D w w') {B : Nat} (hB : B ≤ w.heap.size) (hD : ∀ i, D i → B ≤ i) : Below B w w' :=
  ⟨h.os, h.tape, h.output, h.size, fun i hi => h.block i (by omega) (fun hd => by have := hD i hd; omega)⟩
theorem Chg.of_below {D : Nat → Prop} {w w' : World} (h : Below w.heap.size w w') : Chg D w w' := ⟨h.os, h.tape, h.output, h.size, fun i hi _ => h.block i hi⟩
theorem Chg.trans {D D' : Nat → Prop} {w w' w'' : World} (h : Chg D w w') (k : Chg D' w' w'') (hD : ∀ i, D' i → D i ∨ w.heap.size ≤ i) : Chg D w w'' :=
  ⟨k.os.trans h.os, k.tape.trans h.tape, k.output.trans h.output, Nat.le_trans h.size k.size, fun i hi hn => (k.block i (Nat.lt_of_lt_of_le hi h.size) (fun hd => by
    rcases hD i hd with h1 | h1
    · exact hn h1
    · omega)).trans (h.block i hi hn)⟩
theorem Chg.blk {D : Nat → Prop} {w w' : World} (h : Chg D w w') {g : Nat} {t : TypeId} {cs : Array Value} (hb : Blk w g t cs) (hg : ¬ D g) : Blk w' g t cs := (h.block g hb.lt hg).trans hb
theorem Chg.refl (D : Nat → Prop) (w : World) : Chg D w w := ⟨rfl, rfl, rfl, Nat.le_refl _, fun _ _ _ => rfl⟩
theorem Fine.nil_ : Fine [] := ⟨fun _ h => (by cases h), fun n c => (by simp [ctl, sumB, fitB]), fun n a c => (by simp [bal, sumB, fitB]), fun i x h => (by simp at h), fun _ h => (by cases h)⟩
theorem Led.new {w : World} {q : Nat} (h : Blk w q 87 (ledC (.slice none 0 0) (.map none) (.map none) [])) : Led w q (fun i => i = q) [] := by
  refine ⟨.slice none 0 0, [], none, none, fun _ => none, h, OwnS.nil_ _ _ _, ⟨rfl, fun i v x h1 => (by simp at h1), fun i v x h1 => (by simp at h1), fun i v p h1 => (by simp at h1)⟩, ⟨fun _ k => rfl, fun b hb => (by cases hb), fun a r hr => (by cases hr), fun _ _ => rfl, fun a a' r hr => (by cases hr)⟩, ⟨fun _ => rfl, fun b hb => (by cases hb)⟩, Fine.nil_, rfl, fun b hb => (by simp [Value.ownBlock] at hb), fun i hi => ?_, by simp, fun b hb => (by cases hb)⟩
  rw [hi]
  exact h.lt
end Go.Proofs.YtabiaeicejgeiaaGreatDoor
