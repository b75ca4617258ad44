/-
  A new drum is a drum whole; a drum stands where others' blocks turn.
-/
import Derived.Test.YtoiiemjaecfnhaaDoorDrumI
namespace Go.Proofs.YtoiiemjaecfnhaaDoor
open Go.RowKit

/-- A sector of noughts. -/
def zeros : List UInt8 := List.replicate 256 0
theorem void_flat (n : Nat) : void n = flatS (List.replicate n zeros) := by
  apply Array.toList_inj.1
  unfold void flatS zeros
  rw [toList_madeCells_one, List.map_replicate, List.map_replicate, List.flatten_replicate_replicate]
  rfl
theorem nones_flat (n : Nat) : nones n = encI (List.replicate n 0) := by
  apply Array.toList_inj.1
  unfold nones encI
  rw [toList_madeCells_one, List.map_replicate]
  rfl

/-- A new drum, whole. -/
theorem Dru.blank {n : Nat} (hn : n ≤ 8192) {w w' : World} {e : Ending} (h : BlankPost n w e w') :
    ∃ d f g, e = .returned (.pointer (some ⟨d, 0, none⟩)) ∧ Dru w' w.heap.size d f g none 0 ⟨n, n, #[], #[]⟩ (List.replicate n zeros) [] (List.replicate n 0) (-1) ∧ Below w.heap.size w w' := by
  obtain ⟨d, f, g, rfl, hb, h1, h2, h3, h4, h5, h6, hd, hf, hg⟩ := h
  refine ⟨d, f, g, rfl, ⟨?_, ?_, ?_, ?_, ⟨h1, h2, h3, h4, h5, h6, fun a e => by cases e⟩, ?_, ?_, ?_, ?_, ?_, ?_⟩, hb⟩
  · rw [List.length_replicate]; exact hd
  · rw [Array.append_empty, ← void_flat]; exact hf
  · rw [Array.append_empty, ← nones_flat]; exact hg
  · exact World.ownsRow_nil _ _ _ _
  · rw [List.length_replicate, List.length_replicate]
  · intro s hs; rw [(List.mem_replicate.1 hs).2]; exact List.length_replicate ..
  · intro x hx; cases hx
  · intro k hk; rw [(List.mem_replicate.1 hk).2]; exact Nat.zero_le _
  · rw [List.length_replicate]; exact hn
  · exact Nat.zero_le _

theorem Kept.refl (own : Nat → Prop) (w : World) : Kept own w w := ⟨rfl, rfl, rfl, Nat.le_refl _, fun _ _ _ => rfl⟩
theorem Kept.trans {own own' : Nat → Prop} {a b c : World} (h : Kept own a b) (k : Kept own' b c) (hs : ∀ i, i < a.heap.size → own' i → own i) : Kept own a c :=
  ⟨k.os.trans h.os, k.tape.trans h.tape, k.output.trans h.output, Nat.le_trans h.size k.size, fun i hi hn => (k.block i (Nat.lt_of_lt_of_le hi h.size) (fun e => hn (hs i hi e))).trans (h.block i hi hn)⟩
theorem Kept.of_below {own : Nat → Prop} {a b : World} (h : Below a.heap.size a b) : Kept own a b := ⟨h.os, h.tape, h.output, h.size, fun i hi _ => h.block i hi⟩
theorem Kept.below {own : Nat → Prop} {a b : World} {B : Nat} (h : Kept own a b) (hB : B ≤ a.heap.size) (hn : ∀ i, i < B → ¬ own i) : Below B a b := ⟨h.os, h.tape, h.output, h.size, fun i hi => h.block i (by omega) (hn i hi)⟩
/-- A drum stands where blocks of others turn. -/
theorem Dru.keep {w w' : World} {base d f g : Nat} {V : Option Addr} {cv : Nat} {T : Tails} {fl : List (List UInt8)} {ws : List (Nat × List UInt8)} {ls : List Nat} {left : Int} {own : Nat → Prop}
    (h : Dru w base d f g V cv T fl ws ls left) (hk : Kept own w w') (hn : ∀ i, ownOf d f g V i → ¬ own i) : Dru w' base d f g V cv T fl ws ls left where
  head := (hk.block d h.head.lt (hn d (.inl rfl))).trans h.head
  rows := (hk.block f h.rows.lt (hn f (.inr (.inl rfl)))).trans h.rows
  last := (hk.block g h.last.lt (hn g (.inr (.inr (.inl rfl))))).trans h.last
  row := by
    refine ⟨h.row.1, ?_⟩
    rcases h.row.2 with h' | ⟨k, cap, cur, hv, hb, hg, r⟩
    · exact .inl h'
    · refine .inr ⟨k, cap, cur, hv, hb, ?_, r⟩
      rw [hk.block k (Array.getElem?_eq_some_iff.1 hg).1 (hn k (.inr (.inr (.inr ⟨⟨k, 0, none⟩, by injection hv, rfl⟩))))]
      exact hg
  far := h.far
  len := h.len
  full := h.full
  fullW := h.fullW
  le := h.le
  few := h.few
  fewW := h.fewW
end Go.Proofs.YtoiiemjaecfnhaaDoor
