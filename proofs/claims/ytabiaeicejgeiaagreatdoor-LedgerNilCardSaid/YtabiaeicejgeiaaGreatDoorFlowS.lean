/-
  Regions that draw their order and store into blocks that they made. No condition.
-/
import Derived.Test.YtabiaeicejgeiaaGreatDoorFlowG
import Derived.Test.YtabiaeicejgeiaaGreatDoorMem
import Derived.Deep.MidRow
namespace Go.Proofs.YtabiaeicejgeiaaGreatDoor
open Go Go.RowKit

section
variable {P : Program}
def putL (cs : Array Value) : Nat → List Value → Array Value
  | _, [] => cs
  | o, v :: r => putL (cs.setIfInBounds o v) (o + 1) r
theorem putL_size (vs : List Value) : ∀ (cs : Array Value) (o : Nat), (putL cs o vs).size = cs.size := by
  induction vs with
  | nil => intro cs o; rfl
  | cons v r ih => intro cs o; simp [putL, ih]
theorem putL_at (vs : List Value) : ∀ (cs : Array Value) (o i : Nat), i < cs.size → (putL cs o vs)[i]? = if o ≤ i ∧ i < o + vs.length then vs[i - o]? else cs[i]? := by
  induction vs with
  | nil =>
    intro cs o i hi
    rw [if_neg (by simp)]
    rfl
  | cons v r ih =>
    intro cs o i hi
    simp only [putL]
    rw [ih _ _ _ (by simpa using hi)]
    by_cases h1 : i = o
    · subst h1
      rw [if_neg (by omega), if_pos (by simp)]
      simp [hi]
    · by_cases h2 : o ≤ i ∧ i < o + (v :: r).length
      · rw [if_pos h2, if_pos (by simp at h2; omega)]
        rw [show i - o = (i - (o + 1)) + 1 by omega]
        simp
      · rw [if_neg h2, if_neg (by simp at h2; omega), Array.getElem?_setIfInBounds_ne (by omega)]
theorem blk_setCells {g : Nat} {ty : TypeId} : ∀ (vs : List Value) (o : Nat) (w : World) (cs : Array Value), Blk w g ty cs → Blk (w.setCells g o vs) g ty (putL cs o vs)
  | [], _, _, _, h => h
  | v :: r, o, _, _, h => blk_setCells r (o + 1) _ _ (h.set_ o v)
theorem putL_all {cs : Array Value} {vs : Array Value} (h : cs.size = vs.size) : putL cs 0 vs.toList = vs := by
  apply Array.ext_getElem?
  intro i
  by_cases hi : i < cs.size
  · rw [putL_at _ _ _ _ hi, if_pos (by simp; omega)]
    simp
  · have h1 : (putL cs 0 vs.toList)[i]? = none := Array.getElem?_eq_none (by rw [putL_size]; omega)
    have h2 : vs[i]? = none := Array.getElem?_eq_none (by omega)
    rw [h1, h2]
theorem setCells_other (g : Nat) : ∀ (vs : List Value) (o : Nat) (w : World) (i : Nat), i ≠ g → (w.setCells g o vs).heap[i]? = w.heap[i]?
  | [], _, _, _, _ => rfl
  | _ :: r, o, _, i, h => (setCells_other g r (o + 1) _ i h).trans (Below.heap_setCell _ _ _ _ h)
theorem setCells_keeps (g : Nat) : ∀ (vs : List Value) (o : Nat) (w : World), (w.setCells g o vs).os = w.os ∧ (w.setCells g o vs).tape = w.tape ∧ (w.setCells g o vs).output = w.output ∧ (w.setCells g o vs).heap.size = w.heap.size
  | [], _, _ => ⟨rfl, rfl, rfl, rfl⟩
  | v :: r, o, w => by
    obtain ⟨h1, h2, h3, h4⟩ := setCells_keeps g r (o + 1) (w.setCell ⟨g, o, none⟩ v)
    have hb := (Below.refl 0 w).setCell (Nat.zero_le _) (p := ⟨g, o, none⟩) v
    exact ⟨h1.trans hb.os, h2.trans hb.tape, h3.trans hb.output, h4.trans (by simp [World.size_setCell])⟩
/-- Only block g has turned. -/
structure OnlyAt (g : Nat) (w w' : World) : Prop where
  os : w'.os = w.os
  tape : w'.tape = w.tape
  output : w'.output = w.output
  size : w'.heap.size = w.heap.size
  block : ∀ i : Nat, i ≠ g → w'.heap[i]? = w.heap[i]?
theorem onlyAt_setCells (g : Nat) (vs : List Value) (o : Nat) (w : World) : OnlyAt g w (w.setCells g o vs) := by
  obtain ⟨h1, h2, h3, h4⟩ := setCells_keeps g vs o w
  exact ⟨h1, h2, h3, h4, fun i hi => setCells_other g vs o w i hi⟩
/-- A whole block is written over. -/
theorem opC_store {t : TypeId} {s : Tmp} {x : Operand} {ty : TypeId} {pos : String} {af : Array Edge} {gd : Option (Nat × Bool)} {a : Act} {w : World} {K : Value → World → Prop} {g : Nat} {bt : TypeId} {cs vs : Array Value}
    (he : a.eval (.tmp s) = .pointer (some ⟨g, 0, none⟩)) (hx : a.eval x = .agg vs) (hb : Blk w g bt cs) (hs : cs.size = vs.size) (hi : (P.info? t).map (·.size) = some vs.size) (h1 : vs.all (·.oneCell') = true)
    (hk : ∀ w', OnlyAt g w w' → Blk w' g bt vs → K undef w') : opC P ⟨none, .store t (.tmp s) x, ty, pos, af, gd⟩ a w K := by
  have ht : w.there g 0 vs.size := fun j hj => by
    refine ⟨?_, by simpa using hb.frozen j⟩
    have := hb.cell j
    rw [Nat.zero_add, this]
    simp [hs, hj]
  refine opC_skip (w' := w.setCells g 0 vs.toList) ?_ (hk _ (onlyAt_setCells _ _ _ _) ?_)
  · simp [execOp, he, hx, run_storeAt_mid w g 0 t vs ht hi h1, Result.andThen]
  · have := blk_setCells vs.toList 0 w cs hb
    rwa [putL_all hs] at this
/-- What an object may turn into. -/
structure Turn where
  s : Obj → Obj → Prop
  refl : ∀ o, s o o
  trans : ∀ {a b c : Obj}, s a b → s b c → s a c
def turn1 (Z V : Obj) : Turn := ⟨fun o o' => o' = o ∨ (o = Z ∧ o' = V), fun _ => .inl rfl, fun {a b c} h1 h2 => by
  rcases h1 with rfl | ⟨rfl, rfl⟩
  · exact h2
  · rcases h2 with rfl | ⟨_, rfl⟩
    · exact .inr ⟨rfl, rfl⟩
    · exact .inr ⟨rfl, rfl⟩⟩
structure TurnR (base : Nat) (S : Turn) (w w' : World) : Prop where
  os : w'.os = w.os
  tape : w'.tape = w.tape
  output : w'.output = w.output
  size : w.heap.size ≤ w'.heap.size
  low : ∀ i : Nat, i < base → w'.heap[i]? = w.heap[i]?
  turn : ∀ (i : Nat) (o : Obj), w.heap[i]? = some o → ∃ o', w'.heap[i]? = some o' ∧ S.s o o'
theorem TurnR.of_below {base : Nat} {S : Turn} {w w' : World} (h : Below w.heap.size w w') (hb : base ≤ w.heap.size) : TurnR base S w w' :=
  ⟨h.os, h.tape, h.output, h.size, fun i hi => h.block i (by omega), fun i o ho => ⟨o, (h.block i (Array.getElem?_eq_some_iff.1 ho).1).trans ho, S.refl o⟩⟩
def relT (base : Nat) (S : Turn) : Rel := ⟨TurnR base S, fun _ => ⟨rfl, rfl, rfl, Nat.le_refl _, fun _ _ => rfl, fun _ o ho => ⟨o, ho, S.refl o⟩⟩,
  fun _ => ⟨rfl, rfl, rfl, Nat.le_refl _, fun _ _ => rfl, fun _ o ho => ⟨o, ho, S.refl o⟩⟩,
  fun h1 h2 => ⟨h2.os.trans h1.os, h2.tape.trans h1.tape, h2.output.trans h1.output, Nat.le_trans h1.size h2.size, fun i hi => (h2.low i hi).trans (h1.low i hi), fun i o ho => by
    obtain ⟨o', h3, h4⟩ := h1.turn i o ho
    obtain ⟨o'', h5, h6⟩ := h2.turn i o' h3
    exact ⟨o'', h5, S.trans h4 h6⟩⟩⟩
theorem TurnR.below {base : Nat} {S : Turn} {w w' : World} (h : TurnR base S w w') : Below base w w' := ⟨h.os, h.tape, h.output, h.size, h.low⟩
theorem TurnR.only {base g : Nat} {S : Turn} {w w' : World} {o o' : Obj} (h : OnlyAt g w w') (hb : base ≤ g) (ho : w.heap[g]? = some o) (ho' : w'.heap[g]? = some o') (hs : S.s o o') : TurnR base S w w' :=
  ⟨h.os, h.tape, h.output, Nat.le_of_eq h.size.symm, fun i hi => h.block i (by omega), fun i x hx => by
    by_cases e : i = g
    · subst e
      rw [ho] at hx
      cases hx
      exact ⟨o', ho', hs⟩
    · exact ⟨x, (h.block i e).trans hx, S.refl x⟩⟩
/-- A block made in the region: zero, or written. -/
def newF (base : Nat) (Z V : Obj) : FlwG (relT base (turn1 Z V)) := ⟨fun v w => ∃ g, v = .pointer (some ⟨g, 0, none⟩) ∧ base ≤ g ∧ (w.heap[g]? = some Z ∨ w.heap[g]? = some V), fun {_ w w'} ⟨g, h1, h2, h3⟩ hb => by
  refine ⟨g, h1, h2, ?_⟩
  rcases h3 with h3 | h3
  · obtain ⟨o', h4, h5⟩ := hb.turn g _ h3
    rcases h5 with rfl | ⟨_, rfl⟩
    · exact .inl h4
    · exact .inr h4
  · obtain ⟨o', h4, h5⟩ := hb.turn g _ h3
    rcases h5 with rfl | ⟨_, rfl⟩
    · exact .inr h4
    · exact .inr h4⟩
/-- .. written. -/
def doneF (base : Nat) (Z V : Obj) : FlwG (relT base (turn1 Z V)) := ⟨fun v w => ∃ g, v = .pointer (some ⟨g, 0, none⟩) ∧ base ≤ g ∧ w.heap[g]? = some V, fun {_ w w'} ⟨g, h1, h2, h3⟩ hb => by
  refine ⟨g, h1, h2, ?_⟩
  obtain ⟨o', h4, h5⟩ := hb.turn g _ h3
  rcases h5 with rfl | ⟨_, rfl⟩
  · exact h4
  · exact h4⟩
end
end Go.Proofs.YtabiaeicejgeiaaGreatDoor
