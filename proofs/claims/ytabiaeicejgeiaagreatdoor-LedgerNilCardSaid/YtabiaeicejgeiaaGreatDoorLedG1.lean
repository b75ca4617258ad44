/-
  Ledger.add: the region that writes the sums. Conditions: the ledger is there.
-/
import Derived.Test.YtabiaeicejgeiaaGreatDoorLedF
namespace Go.Proofs.YtabiaeicejgeiaaGreatDoor
open Go.ChangeShapes Go.WideShapes Go.ChangeAt Go.RowKit Go.Maps Go.ChangeMaps

/-- Of what was there nothing but the map in block b has turned. -/
structure AtR (b : Nat) (S : Turn) (w w' : World) : Prop where
  os : w'.os = w.os
  tape : w'.tape = w.tape
  output : w'.output = w.output
  size : w.heap.size ≤ w'.heap.size
  block : ∀ i : Nat, i < w.heap.size → i ≠ b → w'.heap[i]? = w.heap[i]?
  turn : ∀ o : Obj, w.heap[b]? = some o → ∃ o', w'.heap[b]? = some o' ∧ S.s o o'
def relA (b : Nat) (S : Turn) : Rel := ⟨AtR b S, fun _ => ⟨rfl, rfl, rfl, Nat.le_refl _, fun _ _ _ => rfl, fun o ho => ⟨o, ho, S.refl o⟩⟩,
  fun _ => ⟨rfl, rfl, rfl, Nat.le_refl _, fun _ _ _ => rfl, fun o ho => ⟨o, ho, S.refl o⟩⟩,
  fun h1 h2 => ⟨h2.os.trans h1.os, h2.tape.trans h1.tape, h2.output.trans h1.output, Nat.le_trans h1.size h2.size, fun i hi hn => (h2.block i (Nat.lt_of_lt_of_le hi h1.size) hn).trans (h1.block i hi hn), fun o ho => by
    obtain ⟨o', h3, h4⟩ := h1.turn o ho
    obtain ⟨o'', h5, h6⟩ := h2.turn o' h3
    exact ⟨o'', h5, S.trans h4 h6⟩⟩⟩
def turn3 (X0 X1 X2 : Obj) : Turn := ⟨fun o o' => o' = o ∨ o' = X2 ∨ (o' = X1 ∧ o = X0 ∧ o ≠ X2), fun _ => .inl rfl, fun {a b c} h1 h2 => by
  rcases h1 with rfl | rfl | ⟨rfl, h3, h4⟩
  · exact h2
  · rcases h2 with rfl | rfl | ⟨_, h5, h6⟩
    · exact .inr (.inl rfl)
    · exact .inr (.inl rfl)
    · exact absurd rfl h6
  · rcases h2 with rfl | rfl | ⟨rfl, _, _⟩
    · exact .inr (.inr ⟨rfl, h3, h4⟩)
    · exact .inr (.inl rfl)
    · exact .inr (.inr ⟨rfl, h3, h4⟩)⟩
def X12 (b : Nat) (X1 X2 : Obj) (w : World) : Prop := w.heap[b]? = some X1 ∨ w.heap[b]? = some X2
theorem X12.keep {b : Nat} {X0 X1 X2 : Obj} {w w' : World} (h : X12 b X1 X2 w) (hb : AtR b (turn3 X0 X1 X2) w w') : X12 b X1 X2 w' := by
  rcases h with h | h
  · obtain ⟨o', h1, h2⟩ := hb.turn _ h
    rcases h2 with rfl | rfl | ⟨rfl, _, _⟩
    · exact .inl h1
    · exact .inr h1
    · exact .inl h1
  · obtain ⟨o', h1, h2⟩ := hb.turn _ h
    rcases h2 with rfl | rfl | ⟨rfl, _, h3⟩
    · exact .inr h1
    · exact .inr h1
    · exact absurd rfl h3
def mapF0 (b : Nat) (X0 X1 X2 : Obj) : FlwG (relA b (turn3 X0 X1 X2)) := ⟨fun v w => v = .map (some b) ∧ (w.heap[b]? = some X0 ∨ X12 b X1 X2 w), fun {_ w w'} ⟨h1, h2⟩ hb => by
  refine ⟨h1, ?_⟩
  rcases h2 with h2 | h2
  · obtain ⟨o', h3, h4⟩ := hb.turn _ h2
    rcases h4 with rfl | rfl | ⟨rfl, _, _⟩
    · exact .inl h3
    · exact .inr (.inr h3)
    · exact .inr (.inl h3)
  · exact .inr (h2.keep hb)⟩
def entFm (b : Nat) (X1 X2 X0 : Obj) (born : Nat) : FlwG (relA b (turn3 X0 X1 X2)) := ⟨fun v w => ∃ ve, v = .tuple #[ve, goI born] ∧ X12 b X1 X2 w, fun ⟨ve, h1, h2⟩ hb => ⟨ve, h1, h2.keep hb⟩⟩
def bornF (b : Nat) (X1 X2 X0 : Obj) (born : Nat) : FlwG (relA b (turn3 X0 X1 X2)) := ⟨fun v w => v = goI born ∧ X12 b X1 X2 w, fun ⟨h1, h2⟩ hb => ⟨h1, h2.keep hb⟩⟩
def doneM (b : Nat) (X0 X1 X2 : Obj) : FlwG (relA b (turn3 X0 X1 X2)) := ⟨fun _ w => w.heap[b]? = some X2, fun {_ w w'} h hb => by
  obtain ⟨o', h3, h4⟩ := hb.turn _ h
  rcases h4 with rfl | rfl | ⟨_, _, h5⟩
  · exact h3
  · exact h3
  · exact absurd rfl h5⟩
theorem setBlock_at {b : Nat} {S : Turn} {w : World} {es : Array MapEntry} {c : Nat} {o' : Obj} (hb : w.heap[b]? = some (.map es c)) (hs : S.s (.map es c) o') : AtR b S w (setBlock w b o') ∧ (setBlock w b o').heap[b]? = some o' :=
  ⟨⟨rfl, rfl, rfl, by simp [setBlock], fun i _ hn => heap_setBlock_other hb _ hn, fun o ho => by
    rw [hb] at ho
    cases ho
    exact ⟨o', heap_setBlock_same hb _, hs⟩⟩, heap_setBlock_same hb _⟩
section
variable {κ : Type} {P : Program} {t : TypeId} {In : κ → Prop} {enc : κ → Value} {b : Nat} {key val : Value} {f : κ → Option Value} {X0 X1 X2 : Obj} {born : Nat}
theorem entry_step (h : EntryOf P t In enc b key val f X0 X1 X2 born) {w : World} {o : Oper} {a : Act} (hw : w.heap[b]? = some X0 ∨ X12 b X1 X2 w)
    (he : (execOp a.eval o).run P w = ((do let v ← Instr.mapEntry t (.map (some b)) key; pure (Next.value v)) : Sem Next).run P w) (hd : ∃ d, o.dst = some d) :
    opC P o a w (fun v w' => (entFm b X1 X2 X0 born).p (resV o a v) w' ∧ (relA b (turn3 X0 X1 X2)).r w w') := by
  obtain ⟨d, hd⟩ := hd
  have hr : ∀ v, resV o a v = v := fun v => by
    unfold resV
    cases e : addrOf o with
    | none => rfl
    | some s => rw [addr_dst e] at hd; cases hd
  have fin : ∀ (X X' : Obj) (v : Value), (∃ es c, X = .map es c) → w.heap[b]? = some X → (Instr.mapEntry t (.map (some b)) key).run P w = .ok (.tuple #[v, goI born]) (setBlock w b X') → (X' = X1 ∨ X' = X2) → (turn3 X0 X1 X2).s X X' → opC P o a w (fun v w' => (entFm b X1 X2 X0 born).p (resV o a v) w' ∧ (relA b (turn3 X0 X1 X2)).r w w') := fun X X' v ⟨es, c, hX⟩ hb hrun hX' hs => by
    subst hX
    obtain ⟨h1, h2⟩ := setBlock_at hb hs
    constructor
    rw [he]
    simp only [Sem.run_bind, hrun, Result.andThen_ok, Sem.run_pure, comesC]
    rw [hr]
    refine ⟨⟨v, rfl, ?_⟩, h1⟩
    rcases hX' with rfl | rfl
    · exact .inl h2
    · exact .inr h2
  by_cases hx : w.heap[b]? = some X2
  · obtain ⟨v, hv⟩ := h.e2 w hx
    exact fin X2 X2 v h.m2 hx hv (.inr rfl) (.inl rfl)
  · rcases hw with hw | hw | hw
    · obtain ⟨v, hv⟩ := h.e0 w hw
      exact fin X0 X1 v h.m0 hw hv (.inl rfl) (.inr (.inr ⟨rfl, rfl, fun e => hx (by rw [hw, e])⟩))
    · obtain ⟨v, hv⟩ := h.e1 w hw
      exact fin X1 X1 v h.m1 hw hv (.inl rfl) (.inl rfl)
    · exact absurd hw hx
theorem estore_step (h : EntryOf P t In enc b key val f X0 X1 X2 born) {w : World} {o : Oper} {a : Act} (hw : X12 b X1 X2 w)
    (he : (execOp a.eval o).run P w = ((do Instr.entryStore t (.map (some b)) (goI born) val; pure Next.skip) : Sem Next).run P w) :
    opC P o a w (fun v w' => (doneM b X0 X1 X2).p (resV o a v) w' ∧ (relA b (turn3 X0 X1 X2)).r w w') := by
  have fin : ∀ (X : Obj), (∃ es c, X = .map es c) → w.heap[b]? = some X → (Instr.entryStore t (.map (some b)) (goI born) val).run P w = .ok () (setBlock w b X2) → opC P o a w (fun v w' => (doneM b X0 X1 X2).p (resV o a v) w' ∧ (relA b (turn3 X0 X1 X2)).r w w') := fun X ⟨es, c, hX⟩ hb hrun => by
    subst hX
    obtain ⟨h1, h2⟩ := setBlock_at (S := turn3 X0 X1 X2) hb (.inr (.inl rfl))
    constructor
    rw [he]
    simp only [Sem.run_bind, hrun, Result.andThen_ok, Sem.run_pure, comesC]
    exact ⟨h2, h1⟩
  rcases hw with hw | hw
  · exact fin X1 h.m1 hw (h.s1 w hw)
  · exact fin X2 h.m2 hw (h.s2 w hw)
end
end Go.Proofs.YtabiaeicejgeiaaGreatDoor
