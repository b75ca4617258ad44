/-
Ledger.add: the region that writes the sums. Conditions: the ledger is there.
Ledger.add: the region that writes the sums. Conditions: the ledger is there.
-/
import Derived.Test.YtdnnkdldolhbpaaGreatDoorLedFX9
namespace Go.Proofs.YtdnnkdldolhbpaaGreatDoor
open Go.ChangeShapes Go.WideShapes Go.ChangeAt Go.RowKit Go.Maps Go.ChangeMaps

/-- Of what was there nothing but the map in block b has turned. -/
structure AtR (b : Nat) (S : Turn) (w w' : World) : Prop where
  os : w'.os = w.os
  tape : w'.tape = w.tape
  output : w'.output = w.output
  size : w.heap.size ≤ w'.heap.size
  block : ∀ i : Nat, i < w.heap.size → i ≠ b → w'.heap[i]? = w.heap[i]?
  turn : ∀ o : Obj, w.heap[b]? = some o → ∃ o', w'.heap[b]? = some o' ∧ S.s o o'
def relA (b : Nat) (S : Turn) : Rel := ⟨AtR b S, fun _ => ⟨rfl, rfl, rfl, Nat.le_refl _, fun _ _ _ => rfl, fun o ho => ⟨o, ho, S.refl o⟩⟩,
  fun _ => ⟨rfl, rfl, rfl, Nat.le_refl _, fun _ _ _ => rfl, fun o ho => ⟨o, ho, S.refl o⟩⟩,
  fun h1 h2 => ⟨h2.os.trans h1.os, h2.tape.trans h1.tape, h2.output.trans h1.output, Nat.le_trans h1.size h2.size, fun i hi hn => (h2.block i (Nat.lt_of_lt_of_le hi h1.size) hn).trans (h1.block i hi hn), fun o ho => by
    obtain ⟨o', h3, h4⟩ := h1.turn o ho
    obtain ⟨o'', h5, h6⟩ := h2.turn o' h3
    exact ⟨o'', h5, S.trans h4 h6⟩⟩⟩
def turn3 (X0 X1 X2 : Obj) : Turn := ⟨fun o o' => o' = o ∨ o' = X2 ∨ (o' = X1 ∧ o = X0 ∧ o ≠ X2), fun _ => .inl rfl, fun {a b c} h1 h2 => by
  rcases h1 with rfl | rfl | ⟨rfl, h3, h4⟩
  · exact h2
  · rcases h2 with rfl | rfl | ⟨_, h5, h6⟩
    · exact .inr (.inl rfl)
    · exact .inr (.inl rfl)
    · exact absurd rfl h6
  · rcases h2 with rfl | rfl | ⟨rfl, _, _⟩
    · exact .inr (.inr ⟨rfl, h3, h4⟩)
    · exact .inr (.inl rfl)
    · exact .inr (.inr ⟨rfl, h3, h4⟩)⟩
def X12 (b : Nat) (X1 X2 : Obj) (w : World) : Prop := w.heap[b]? = some X1 ∨ w.heap[b]? = some X2
theorem X12.keep {b : Nat} {X0 X1 X2 : Obj} {w w' : World} (h : X12 b X1 X2 w) (hb : AtR b (turn3 X0 X1 X2) w w') : X12 b X1 X2 w' := by
  rcases h with h | h
  · obtain ⟨o', h1, h2⟩ := hb.turn _ h
    rcases h2 with rfl | rfl | ⟨rfl, _, _⟩
    · exact .inl h1
    · exact .inr h1
    · exact .inl h1
  · obtain ⟨o', h1, h2⟩ := hb.turn _ h
    rcases h2 with rfl | rfl | ⟨rfl, _, h3⟩
    · exact .inr h1
    · exact .inr h1
    · exact absurd rfl h3
def mapF0 (b : Nat) (X0 X1 X2 : Obj) : FlwG (relA b (turn3 X0 X1 X2)) := ⟨fun v w => v = .map (some b) ∧ (w.heap[b]? = some X0 ∨ X12 b X1 X2 w), fun {_ w w'} ⟨h1, h2⟩ hb => by
  refine ⟨h1, ?_⟩
  rcases h2 with h2 | h2
  · obtain ⟨o', h3, h4⟩ := hb.turn _ h2
    rcases h4 with rfl | rfl | ⟨rfl, _, _⟩
    · exact .inl h3
    · exact .inr (.inr h3)
    · exact .inr (.inl h3)
  · exact .inr (h2.keep hb)⟩
def entFm (b : Nat) (X1 X2 X0 : Obj) (born : Nat) : FlwG (relA b (turn3 X0 X1 X2)) := ⟨fun v w => ∃ ve, v = .tuple #[ve, goI born] ∧ X12 b X1 X2 w, fun ⟨ve, h1, h2⟩ hb => ⟨ve, h1, h2.keep hb⟩⟩
def bornF (b : Nat) (X1 X2 X0 : Obj) (born : Nat) : FlwG (relA b (turn3 X0 X1 X2)) := ⟨fun v w => v = goI born ∧ X12 b X1 X2 w, fun ⟨h1, h2⟩ hb => ⟨h1, h2.keep hb⟩⟩
def doneM (b : Nat) (X0 X1 X2 : Obj) : FlwG (relA b (turn3 X0 X1 X2)) := ⟨fun _ w => w.heap[b]? = some X2, fun {_ w w'} h hb => by
  obtain ⟨o', h3, h4⟩ := hb.turn _ h
  rcases h4 with rfl | rfl | ⟨_, _, h5⟩
  · exact h3
  · exact h3
  · exact absurd rfl h5⟩
theorem setBlock_at {b : Nat} {S : Turn} {w : World} {es : Array MapEntry} {c : Nat} {o' : Obj} (hb : w.heap[b]? = some (.map es c)) (hs : S.s (.map es c) o') : AtR b S w (setBlock w b o') ∧ (setBlock w b o').heap[b]? = some o' :=
  ⟨⟨rfl, rfl, rfl, by simp [setBlock], fun i _ hn => heap_setBlock_other hb _ hn, fun o ho => by
    rw [hb] at ho
    cases ho
    exact ⟨o', heap_setBlock_same hb _, hs⟩⟩, heap_setBlock_same hb _⟩
section
variable {κ : Type} {P : Program} {t : TypeId} {In : κ → Prop} {enc : κ → Value} {b : Nat} {key val : Value} {f : κ → Option Value} {X0 X1 X2 : Obj} {born : Nat}
theorem entry_step (h : EntryOf P t In enc b key val f X0 X1 X2 born) {w : World} {o : Oper} {a : Act} (hw : w.heap[b]? = some X0 ∨ X12 b X1 X2 w)
    (he : (execOp a.eval o).run P w = ((do let v ← Instr.mapEntry t (.map (some b)) key; pure (Next.value v)) : Sem Next).run P w) (hd : ∃ d, o.dst = some d) :
    opC P o a w (fun v w' => (entFm b X1 X2 X0 born).p (resV o a v) w' ∧ (relA b (turn3 X0 X1 X2)).r w w') := by
  obtain ⟨d, hd⟩ := hd
  have hr : ∀ v, resV o a v = v := fun v => by
    unfold resV
    cases e : addrOf o with
    | none => rfl
    | some s => rw [addr_dst e] at hd; cases hd
  have fin : ∀ (X X' : Obj) (v : Value), (∃ es c, X = .map es c) → w.heap[b]? = some X → (Instr.mapEntry t (.map (some b)) key).run P w = .ok (.tuple #[v, goI born]) (setBlock w b X') → (X' = X1 ∨ X' = X2) → (turn3 X0 X1 X2).s X X' → opC P o a w (fun v w' => (entFm b X1 X2 X0 born).p (resV o a v) w' ∧ (relA b (turn3 X0 X1 X2)).r w w') := fun X X' v ⟨es, c, hX⟩ hb hrun hX' hs => by
    subst hX
    obtain ⟨h1, h2⟩ := setBlock_at hb hs
    constructor
    rw [he]
    simp only [Sem.run_bind, hrun, Result.andThen_ok, Sem.run_pure, comesC]
    rw [hr]
    refine ⟨⟨v, rfl, ?_⟩, h1⟩
    rcases hX' with rfl | rfl
    · exact .inl h2
    · exact .inr h2
  by_cases hx : w.heap[b]? = some X2
  · obtain ⟨v, hv⟩ := h.e2 w hx
    exact fin X2 X2 v h.m2 hx hv (.inr rfl) (.inl rfl)
  · rcases hw with hw | hw | hw
    · obtain ⟨v, hv⟩ := h.e0 w hw
      exact fin X0 X1 v h.m0 hw hv (.inl rfl) (.inr (.inr ⟨rfl, rfl, fun e => hx (by rw [hw, e])⟩))
    · obtain ⟨v, hv⟩ := h.e1 w hw
      exact fin X1 X1 v h.m1 hw hv (.inl rfl) (.inl rfl)
    · exact absurd hw hx
theorem estore_step (h : EntryOf P t In enc b key val f X0 X1 X2 born) {w : World} {o : Oper} {a : Act} (hw : X12 b X1 X2 w)
    (he : (execOp a.eval o).run P w = ((do Instr.entryStore t (.map (some b)) (goI born) val; pure Next.skip) : Sem Next).run P w) :
    opC P o a w (fun v w' => (doneM b X0 X1 X2).p (resV o a v) w' ∧ (relA b (turn3 X0 X1 X2)).r w w') := by
  have fin : ∀ (X : Obj), (∃ es c, X = .map es c) → w.heap[b]? = some X → (Instr.entryStore t (.map (some b)) (goI born) val).run P w = .ok () (setBlock w b X2) → opC P o a w (fun v w' => (doneM b X0 X1 X2).p (resV o a v) w' ∧ (relA b (turn3 X0 X1 X2)).r w w') := fun X ⟨es, c, hX⟩ hb hrun => by
    subst hX
    obtain ⟨h1, h2⟩ := setBlock_at (S := turn3 X0 X1 X2) hb (.inr (.inl rfl))
    constructor
    rw [he]
    simp only [Sem.run_bind, hrun, Result.andThen_ok, Sem.run_pure, comesC]
    exact ⟨h2, h1⟩
  rcases hw with hw | hw
  · exact fin X1 h.m1 hw (h.s1 w hw)
  · exact fin X2 h.m2 hw (h.s2 w hw)
end
end Go.Proofs.YtdnnkdldolhbpaaGreatDoor
namespace Go.Proofs.YtdnnkdldolhbpaaGreatDoor
open Go.ChangeShapes Go.WideShapes Go.ChangeAt Go.RowKit Go.Maps Go.ChangeMaps

set_option maxRecDepth 100000 in
set_option maxHeartbeats 8000000 in
theorem add_reg10 {Q : Exit → Act → World → Prop} {a0 : Act} {W : World} {q b g6 g8 : Nat} {y : Ky} {r1 r2 : Nat → Int} {f : Nat → Option Value} {X0 X1 X2 : Obj} {born : Nat} (h0 : a0.eval (.tmp 0) = .pointer (some ⟨q, 0, none⟩)) (h5 : a0.eval (.tmp 5) = .int .u32 (y.a : Int)) (h6 : a0.eval (.tmp 6) = .pointer (some ⟨g6, 0, none⟩)) (h8 : a0.eval (.tmp 8) = .pointer (some ⟨g8, 0, none⟩)) (hsz : a0.tmps.size = 78)
    (HE : EntryOf Tryz.prog 83 u32In u32E b (u32E y.a) (.agg (vec r1)) f X0 X1 X2 born) (hX : W.heap[b]? = some X0)
    (LB : ∀ W', AtR b (turn3 X0 X1 X2) W W' → (Instr.loadAt 83 (.pointer (some ⟨q, 2, none⟩))).run Tryz.prog W' = .ok (.map (some b)) W')
    (L6 : ∀ W', AtR b (turn3 X0 X1 X2) W W' → (Instr.loadAt 85 (.pointer (some ⟨g6, 0, none⟩))).run Tryz.prog W' = .ok (.agg (vec r1)) W')
    (L8 : ∀ W', AtR b (turn3 X0 X1 X2) W W' → (Instr.loadAt 85 (.pointer (some ⟨g8, 0, none⟩))).run Tryz.prog W' = .ok (.agg (vec r2)) W')
    (TH : ∀ W', AtR b (turn3 X0 X1 X2) W W' → W'.there q 3 10)
    (hQ : ∀ (u : Nat → Value) (W' : World), AtR b (turn3 X0 X1 X2) W W' → W'.heap[b]? = some X2 → Q .normal (putF u [some 56, some 57, some 58, some 59, some 60, some 61, some 62, some 63, some 64, some 65, none, some 66, some 67] 0 a0) (W'.setCells q 3 (vec r2).toList)) :
    (Code.region 10 #[{ dst := some 56, op := Go.Op.move (Go.Operand.tmp 0), type := 24, pos := "ledger.go:235", after := #[], guard := none }, { dst := some 57, op := Go.Op.nilCheck (Go.Operand.tmp 56), type := 0, pos := "ledger.go:235", after := #[{ on := 0, ground := Go.Ground.data }], guard := none }, { dst := some 58, op := Go.Op.fieldAddr 87 (Go.Operand.tmp 57) 2, type := 0, pos := "ledger.go:235", after := #[{ on := 1, ground := Go.Ground.data }], guard := none }, { dst := some 59, op := Go.Op.load 83 (Go.Operand.tmp 58), type := 83, pos := "ledger.go:235", after := #[{ on := 2, ground := Go.Ground.data }], guard := none }, { dst := some 60, op := Go.Op.move (Go.Operand.tmp 5), type := 30, pos := "ledger.go:235", after := #[], guard := none }, { dst := some 61, op := Go.Op.move (Go.Operand.tmp 0), type := 24, pos := "ledger.go:235", after := #[{ on := 10, ground := Go.Ground.gcOnly Go.Departure.lateStores }], guard := none }, { dst := some 62, op := Go.Op.load 85 (Go.Operand.tmp 6), type := 85, pos := "ledger.go:235", after := #[{ on := 8, ground := Go.Ground.gcOnly Go.Departure.tupleMapEntryFirst }], guard := none }, { dst := some 63, op := Go.Op.load 85 (Go.Operand.tmp 8), type := 85, pos := "ledger.go:235", after := #[{ on := 10, ground := Go.Ground.gcOnly Go.Departure.lateStores }], guard := none }, { dst := some 64, op := Go.Op.mapEntry 83 (Go.Operand.tmp 59) (Go.Operand.tmp 60), type := 0, pos := "ledger.go:235", after := #[{ on := 3, ground := Go.Ground.data }, { on := 4, ground := Go.Ground.data }, { on := 0, ground := Go.Ground.textOnly Go.Departure.tupleMapEntryFirst }, { on := 1, ground := Go.Ground.textOnly Go.Departure.tupleMapEntryFirst }, { on := 2, ground := Go.Ground.textOnly Go.Departure.tupleMapEntryFirst }, { on := 3, ground := Go.Ground.textOnly Go.Departure.tupleMapEntryFirst }, { on := 4, ground := Go.Ground.textOnly Go.Departure.tupleMapEntryFirst }, { on := 5, ground := Go.Ground.textOnly Go.Departure.lateStores }, { on := 6, ground := Go.Ground.textOnly Go.Departure.tupleMapEntryFirst }, { on := 7, ground := Go.Ground.textOnly Go.Departure.lateStores }], guard := none }, { dst := some 65, op := Go.Op.extract (Go.Operand.tmp 64) 1, type := 3, pos := "ledger.go:235", after := #[{ on := 8, ground := Go.Ground.data }], guard := none }, { dst := none, op := Go.Op.entryStore 83 (Go.Operand.tmp 59) (Go.Operand.tmp 65) (Go.Operand.tmp 62), type := 0, pos := "ledger.go:235", after := #[{ on := 3, ground := Go.Ground.data }, { on := 9, ground := Go.Ground.data }, { on := 6, ground := Go.Ground.data }, { on := 8, ground := Go.Ground.chain }, { on := 0, ground := Go.Ground.phase }, { on := 1, ground := Go.Ground.phase }, { on := 2, ground := Go.Ground.phase }, { on := 3, ground := Go.Ground.phase }, { on := 4, ground := Go.Ground.phase }, { on := 5, ground := Go.Ground.textOnly Go.Departure.lateStores }, { on := 6, ground := Go.Ground.phase }, { on := 7, ground := Go.Ground.textOnly Go.Departure.lateStores }, { on := 8, ground := Go.Ground.phase }], guard := none }, { dst := some 66, op := Go.Op.nilCheck (Go.Operand.tmp 61), type := 0, pos := "ledger.go:235", after := #[{ on := 5, ground := Go.Ground.data }, { on := 0, ground := Go.Ground.phase }, { on := 1, ground := Go.Ground.phase }, { on := 2, ground := Go.Ground.phase }, { on := 3, ground := Go.Ground.phase }, { on := 4, ground := Go.Ground.phase }, { on := 5, ground := Go.Ground.phase }, { on := 6, ground := Go.Ground.phase }, { on := 7, ground := Go.Ground.phase }, { on := 8, ground := Go.Ground.phase }, { on := 9, ground := Go.Ground.phase }, { on := 10, ground := Go.Ground.phase }], guard := none }, { dst := some 67, op := Go.Op.fieldAddr 87 (Go.Operand.tmp 66) 3, type := 0, pos := "ledger.go:235", after := #[{ on := 11, ground := Go.Ground.data }, { on := 0, ground := Go.Ground.phase }, { on := 1, ground := Go.Ground.phase }, { on := 2, ground := Go.Ground.phase }, { on := 3, ground := Go.Ground.phase }, { on := 4, ground := Go.Ground.phase }, { on := 5, ground := Go.Ground.phase }, { on := 6, ground := Go.Ground.phase }, { on := 7, ground := Go.Ground.phase }, { on := 8, ground := Go.Ground.phase }, { on := 9, ground := Go.Ground.phase }, { on := 10, ground := Go.Ground.phase }], guard := none }, { dst := none, op := Go.Op.store 85 (Go.Operand.tmp 67) (Go.Operand.tmp 63), type := 0, pos := "ledger.go:235", after := #[{ on := 12, ground := Go.Ground.data }, { on := 7, ground := Go.Ground.data }, { on := 10, ground := Go.Ground.chain }, { on := 0, ground := Go.Ground.phase }, { on := 1, ground := Go.Ground.phase }, { on := 2, ground := Go.Ground.phase }, { on := 3, ground := Go.Ground.phase }, { on := 4, ground := Go.Ground.phase }, { on := 5, ground := Go.Ground.phase }, { on := 6, ground := Go.Ground.phase }, { on := 7, ground := Go.Ground.phase }, { on := 8, ground := Go.Ground.phase }, { on := 9, ground := Go.Ground.phase }, { on := 10, ground := Go.Ground.phase }], guard := none }] true).wp Tryz.prog Q a0 W := by
  have HX : ∀ W', AtR b (turn3 X0 X1 X2) W W' → (W'.heap[b]? = some X0 ∨ X12 b X1 X2 W') := fun W' hb => ((mapF0 b X0 X1 X2).mono (v := .map (some b)) ⟨rfl, .inl hX⟩ hb).2
  refine wp_region_flow_lastG (l := [{ dst := some 56, op := Go.Op.move (Go.Operand.tmp 0), type := 24, pos := "ledger.go:235", after := #[], guard := none }, { dst := some 57, op := Go.Op.nilCheck (Go.Operand.tmp 56), type := 0, pos := "ledger.go:235", after := #[{ on := 0, ground := Go.Ground.data }], guard := none }, { dst := some 58, op := Go.Op.fieldAddr 87 (Go.Operand.tmp 57) 2, type := 0, pos := "ledger.go:235", after := #[{ on := 1, ground := Go.Ground.data }], guard := none }, { dst := some 59, op := Go.Op.load 83 (Go.Operand.tmp 58), type := 83, pos := "ledger.go:235", after := #[{ on := 2, ground := Go.Ground.data }], guard := none }, { dst := some 60, op := Go.Op.move (Go.Operand.tmp 5), type := 30, pos := "ledger.go:235", after := #[], guard := none }, { dst := some 61, op := Go.Op.move (Go.Operand.tmp 0), type := 24, pos := "ledger.go:235", after := #[{ on := 10, ground := Go.Ground.gcOnly Go.Departure.lateStores }], guard := none }, { dst := some 62, op := Go.Op.load 85 (Go.Operand.tmp 6), type := 85, pos := "ledger.go:235", after := #[{ on := 8, ground := Go.Ground.gcOnly Go.Departure.tupleMapEntryFirst }], guard := none }, { dst := some 63, op := Go.Op.load 85 (Go.Operand.tmp 8), type := 85, pos := "ledger.go:235", after := #[{ on := 10, ground := Go.Ground.gcOnly Go.Departure.lateStores }], guard := none }, { dst := some 64, op := Go.Op.mapEntry 83 (Go.Operand.tmp 59) (Go.Operand.tmp 60), type := 0, pos := "ledger.go:235", after := #[{ on := 3, ground := Go.Ground.data }, { on := 4, ground := Go.Ground.data }, { on := 0, ground := Go.Ground.textOnly Go.Departure.tupleMapEntryFirst }, { on := 1, ground := Go.Ground.textOnly Go.Departure.tupleMapEntryFirst }, { on := 2, ground := Go.Ground.textOnly Go.Departure.tupleMapEntryFirst }, { on := 3, ground := Go.Ground.textOnly Go.Departure.tupleMapEntryFirst }, { on := 4, ground := Go.Ground.textOnly Go.Departure.tupleMapEntryFirst }, { on := 5, ground := Go.Ground.textOnly Go.Departure.lateStores }, { on := 6, ground := Go.Ground.textOnly Go.Departure.tupleMapEntryFirst }, { on := 7, ground := Go.Ground.textOnly Go.Departure.lateStores }], guard := none }, { dst := some 65, op := Go.Op.extract (Go.Operand.tmp 64) 1, type := 3, pos := "ledger.go:235", after := #[{ on := 8, ground := Go.Ground.data }], guard := none }, { dst := none, op := Go.Op.entryStore 83 (Go.Operand.tmp 59) (Go.Operand.tmp 65) (Go.Operand.tmp 62), type := 0, pos := "ledger.go:235", after := #[{ on := 3, ground := Go.Ground.data }, { on := 9, ground := Go.Ground.data }, { on := 6, ground := Go.Ground.data }, { on := 8, ground := Go.Ground.chain }, { on := 0, ground := Go.Ground.phase }, { on := 1, ground := Go.Ground.phase }, { on := 2, ground := Go.Ground.phase }, { on := 3, ground := Go.Ground.phase }, { on := 4, ground := Go.Ground.phase }, { on := 5, ground := Go.Ground.textOnly Go.Departure.lateStores }, { on := 6, ground := Go.Ground.phase }, { on := 7, ground := Go.Ground.textOnly Go.Departure.lateStores }, { on := 8, ground := Go.Ground.phase }], guard := none }, { dst := some 66, op := Go.Op.nilCheck (Go.Operand.tmp 61), type := 0, pos := "ledger.go:235", after := #[{ on := 5, ground := Go.Ground.data }, { on := 0, ground := Go.Ground.phase }, { on := 1, ground := Go.Ground.phase }, { on := 2, ground := Go.Ground.phase }, { on := 3, ground := Go.Ground.phase }, { on := 4, ground := Go.Ground.phase }, { on := 5, ground := Go.Ground.phase }, { on := 6, ground := Go.Ground.phase }, { on := 7, ground := Go.Ground.phase }, { on := 8, ground := Go.Ground.phase }, { on := 9, ground := Go.Ground.phase }, { on := 10, ground := Go.Ground.phase }], guard := none }, { dst := some 67, op := Go.Op.fieldAddr 87 (Go.Operand.tmp 66) 3, type := 0, pos := "ledger.go:235", after := #[{ on := 11, ground := Go.Ground.data }, { on := 0, ground := Go.Ground.phase }, { on := 1, ground := Go.Ground.phase }, { on := 2, ground := Go.Ground.phase }, { on := 3, ground := Go.Ground.phase }, { on := 4, ground := Go.Ground.phase }, { on := 5, ground := Go.Ground.phase }, { on := 6, ground := Go.Ground.phase }, { on := 7, ground := Go.Ground.phase }, { on := 8, ground := Go.Ground.phase }, { on := 9, ground := Go.Ground.phase }, { on := 10, ground := Go.Ground.phase }], guard := none }]) (ol := { dst := none, op := Go.Op.store 85 (Go.Operand.tmp 67) (Go.Operand.tmp 63), type := 0, pos := "ledger.go:235", after := #[{ on := 12, ground := Go.Ground.data }, { on := 7, ground := Go.Ground.data }, { on := 10, ground := Go.Ground.chain }, { on := 0, ground := Go.Ground.phase }, { on := 1, ground := Go.Ground.phase }, { on := 2, ground := Go.Ground.phase }, { on := 3, ground := Go.Ground.phase }, { on := 4, ground := Go.Ground.phase }, { on := 5, ground := Go.Ground.phase }, { on := 6, ground := Go.Ground.phase }, { on := 7, ground := Go.Ground.phase }, { on := 8, ground := Go.Ground.phase }, { on := 9, ground := Go.Ground.phase }, { on := 10, ground := Go.Ground.phase }], guard := none }) rfl [some 56, some 57, some 58, some 59, some 60, some 61, some 62, some 63, some 64, some 65, none, some 66, some 67] (fun i => ([.is (.pointer (some ⟨q, 0, none⟩)), .is (.pointer (some ⟨q, 0, none⟩)), .is (.pointer (some ⟨q, 2, none⟩)), mapF0 b X0 X1 X2, .is (.int .u32 (y.a : Int)), .is (.pointer (some ⟨q, 0, none⟩)), .is (.agg (vec r1)), .is (.agg (vec r2)), entFm b X1 X2 X0 born, bornF b X1 X2 X0 born, doneM b X0 X1 X2, .is (.pointer (some ⟨q, 0, none⟩)), .is (.pointer (some ⟨q, 3, none⟩))] : List (FlwG _)).getD i .any) (by kernel_rfl) (by rw [hsz]; kernel_rfl) (by kernel_rfl) rfl rfl ?_ ?_
  · refine ⟨step_freeG rfl (fun aF wF hs hb => ?_), ?_⟩
    · obtain ⟨x0, -⟩ := hs
      have e0 : aF.eval (.tmp 0) = .pointer (some ⟨q, 0, none⟩) := x0.trans h0
      exact opC_move e0 ⟨rfl, (relA _ _).refl wF⟩
    refine ⟨step_freeG rfl (fun aF wF hs hb => ?_), ?_⟩
    · obtain ⟨x0, -⟩ := hs
      have e0 : aF.eval (.tmp 56) = .pointer (some ⟨q, 0, none⟩) := x0
      refine opC_value (v := .pointer (some ⟨q, 0, none⟩)) ?_ ⟨rfl, (relA _ _).refl wF⟩
      have t0 := ev_of e0
      simp [execOp, go_sem, t0]
    refine ⟨step_freeG rfl (fun aF wF hs hb => ?_), ?_⟩
    · obtain ⟨x0, -⟩ := hs
      have e0 : aF.eval (.tmp 57) = .pointer (some ⟨q, 0, none⟩) := x0
      refine opC_value (v := .pointer (some ⟨q, 2, none⟩)) ?_ ⟨rfl, (relA _ _).refl wF⟩
      have t0 := ev_of e0
      simp [execOp, go_sem, t0]
    refine ⟨step_freeG rfl (fun aF wF hs hb => ?_), ?_⟩
    · obtain ⟨x0, -⟩ := hs
      have e0 : aF.eval (.tmp 58) = .pointer (some ⟨q, 2, none⟩) := x0
      exact opC_load e0 (LB wF hb) ⟨⟨rfl, HX wF hb⟩, (relA _ _).refl wF⟩
    refine ⟨step_freeG rfl (fun aF wF hs hb => ?_), ?_⟩
    · obtain ⟨x0, -⟩ := hs
      have e0 : aF.eval (.tmp 5) = .int .u32 (y.a : Int) := x0.trans h5
      exact opC_move e0 ⟨rfl, (relA _ _).refl wF⟩
    refine ⟨step_freeG rfl (fun aF wF hs hb => ?_), ?_⟩
    · obtain ⟨x0, -⟩ := hs
      have e0 : aF.eval (.tmp 0) = .pointer (some ⟨q, 0, none⟩) := x0.trans h0
      exact opC_move e0 ⟨rfl, (relA _ _).refl wF⟩
    refine ⟨step_freeG rfl (fun aF wF hs hb => ?_), ?_⟩
    · obtain ⟨x0, -⟩ := hs
      have e0 : aF.eval (.tmp 6) = .pointer (some ⟨g6, 0, none⟩) := x0.trans h6
      exact opC_load e0 (L6 wF (hb)) ⟨rfl, (relA _ _).refl wF⟩
    refine ⟨step_freeG rfl (fun aF wF hs hb => ?_), ?_⟩
    · obtain ⟨x0, -⟩ := hs
      have e0 : aF.eval (.tmp 8) = .pointer (some ⟨g8, 0, none⟩) := x0.trans h8
      exact opC_load e0 (L8 wF (hb)) ⟨rfl, (relA _ _).refl wF⟩
    refine ⟨step_freeG rfl (fun aF wF hs hb => ?_), ?_⟩
    · obtain ⟨x0, x1, -⟩ := hs
      obtain ⟨m1, m2⟩ : (mapF0 b X0 X1 X2).p (aF.eval (.tmp 59)) wF := x0
      have e1 : aF.eval (.tmp 60) = .int .u32 (y.a : Int) := x1
      exact entry_step HE m2 (by simp [execOp, m1, e1, u32E]) (by exact ⟨_, rfl⟩)
    refine ⟨step_freeG rfl (fun aF wF hs hb => ?_), ?_⟩
    · obtain ⟨x0, -⟩ := hs
      obtain ⟨ve, m1, m2⟩ : (entFm b X1 X2 X0 born).p (aF.eval (.tmp 64)) wF := x0
      refine opC_value (v := goI born) ?_ ⟨⟨rfl, m2⟩, (relA _ _).refl wF⟩
      have t0 := ev_of m1
      simp [execOp, go_sem, t0]
    refine ⟨step_freeG rfl (fun aF wF hs hb => ?_), ?_⟩
    · obtain ⟨x0, x1, x2, -⟩ := hs
      obtain ⟨m1, -⟩ : (mapF0 b X0 X1 X2).p (aF.eval (.tmp 59)) wF := x0
      obtain ⟨m3, m4⟩ : (bornF b X1 X2 X0 born).p (aF.eval (.tmp 65)) wF := x1
      have e2 : aF.eval (.tmp 62) = .agg (vec r1) := x2
      exact estore_step HE m4 (by simp [execOp, m1, m3, e2])
    refine ⟨step_freeG rfl (fun aF wF hs hb => ?_), ?_⟩
    · obtain ⟨x0, -⟩ := hs
      have e0 : aF.eval (.tmp 61) = .pointer (some ⟨q, 0, none⟩) := x0
      refine opC_value (v := .pointer (some ⟨q, 0, none⟩)) ?_ ⟨rfl, (relA _ _).refl wF⟩
      have t0 := ev_of e0
      simp [execOp, go_sem, t0]
    refine ⟨step_freeG rfl (fun aF wF hs hb => ?_), ?_⟩
    · obtain ⟨x0, -⟩ := hs
      have e0 : aF.eval (.tmp 66) = .pointer (some ⟨q, 0, none⟩) := x0
      refine opC_value (v := .pointer (some ⟨q, 3, none⟩)) ?_ ⟨rfl, (relA _ _).refl wF⟩
      have t0 := ev_of e0
      simp [execOp, go_sem, t0]
    exact trivial

  · intro u W' hf hn hb
    have h2 := hn 10 _ 59 rfl rfl
    have e1 := hf 12 67 rfl
    have e2 := hf 7 63 rfl
    have z1 : (putF u [some 56, some 57, some 58, some 59, some 60, some 61, some 62, some 63, some 64, some 65, none, some 66, some 67] 0 a0).eval (.tmp 67) = u 12 := by
      have hz : a0.tmps.size = 78 := hsz
      simp only [putF, Act.put, Act.eval]
      simp [hz]
    have z2 : (putF u [some 56, some 57, some 58, some 59, some 60, some 61, some 62, some 63, some 64, some 65, none, some 66, some 67] 0 a0).eval (.tmp 63) = u 7 := by
      have hz : a0.tmps.size = 78 := hsz
      simp only [putF, Act.put, Act.eval]
      simp [hz]
    have e1' : (putF u [some 56, some 57, some 58, some 59, some 60, some 61, some 62, some 63, some 64, some 65, none, some 66, some 67] 0 a0).eval (.tmp 67) = .pointer (some ⟨q, 3, none⟩) := z1.trans e1
    have e2' : (putF u [some 56, some 57, some 58, some 59, some 60, some 61, some 62, some 63, some 64, some 65, none, some 66, some 67] 0 a0).eval (.tmp 63) = .agg (vec r2) := z2.trans e2
    have hst := run_storeAt_mid (P := Tryz.prog) W' q 3 85 (vec r2) (TH W' hb) (by kernel_rfl) (vec_one _)
    have hq := hQ u W' hb h2
    obtain ⟨A9, hA9⟩ : ∃ A9, putF u [some 56, some 57, some 58, some 59, some 60, some 61, some 62, some 63, some 64, some 65, none, some 66, some 67] 0 a0 = A9 := ⟨_, rfl⟩
    rw [hA9] at e1' e2' hq ⊢
    clear hA9 z1 z2 hQ hf hn
    refine opC_skip (w' := W'.setCells q 3 (vec r2).toList) ?_ hq
    simp only [execOp, e1', e2', hst, Sem.run_bind, Sem.run_pure, Result.andThen_ok]
end Go.Proofs.YtdnnkdldolhbpaaGreatDoor
