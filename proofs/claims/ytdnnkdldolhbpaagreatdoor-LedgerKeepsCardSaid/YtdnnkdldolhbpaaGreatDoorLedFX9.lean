/-
Regions that draw their order and store into blocks that they made. No condition.
'm[k], x = ..': the entry first, its store behind. Conditions: a bundle on the key's type.
Ledger.add: the two regions that reckon the sums. Conditions: the ledger is there.
-/
import Derived.Test.YtdnnkdldolhbpaaGreatDoorFlowGX9
import Derived.Test.YtdnnkdldolhbpaaGreatDoorMemX9
import Derived.Deep.MidRow
import Derived.Test.YtdnnkdldolhbpaaGreatDoorLedCX9
import Derived.Test.YtdnnkdldolhbpaaGreatDoorLedEX9
import Derived.Shelf.Abstract
namespace Go.Proofs.YtdnnkdldolhbpaaGreatDoor
open Go Go.RowKit

section
variable {P : Program}
def putL (cs : Array Value) : Nat → List Value → Array Value
  | _, [] => cs
  | o, v :: r => putL (cs.setIfInBounds o v) (o + 1) r
theorem putL_size (vs : List Value) : ∀ (cs : Array Value) (o : Nat), (putL cs o vs).size = cs.size := by
  induction vs with
  | nil => intro cs o; rfl
  | cons v r ih => intro cs o; simp [putL, ih]
theorem putL_at (vs : List Value) : ∀ (cs : Array Value) (o i : Nat), i < cs.size → (putL cs o vs)[i]? = if o ≤ i ∧ i < o + vs.length then vs[i - o]? else cs[i]? := by
  induction vs with
  | nil =>
    intro cs o i hi
    rw [if_neg (by simp)]
    rfl
  | cons v r ih =>
    intro cs o i hi
    simp only [putL]
    rw [ih _ _ _ (by simpa using hi)]
    by_cases h1 : i = o
    · subst h1
      rw [if_neg (by omega), if_pos (by simp)]
      simp [hi]
    · by_cases h2 : o ≤ i ∧ i < o + (v :: r).length
      · rw [if_pos h2, if_pos (by simp at h2; omega)]
        rw [show i - o = (i - (o + 1)) + 1 by omega]
        simp
      · rw [if_neg h2, if_neg (by simp at h2; omega), Array.getElem?_setIfInBounds_ne (by omega)]
theorem blk_setCells {g : Nat} {ty : TypeId} : ∀ (vs : List Value) (o : Nat) (w : World) (cs : Array Value), Blk w g ty cs → Blk (w.setCells g o vs) g ty (putL cs o vs)
  | [], _, _, _, h => h
  | v :: r, o, _, _, h => blk_setCells r (o + 1) _ _ (h.set_ o v)
theorem putL_all {cs : Array Value} {vs : Array Value} (h : cs.size = vs.size) : putL cs 0 vs.toList = vs := by
  apply Array.ext_getElem?
  intro i
  by_cases hi : i < cs.size
  · rw [putL_at _ _ _ _ hi, if_pos (by simp; omega)]
    simp
  · have h1 : (putL cs 0 vs.toList)[i]? = none := Array.getElem?_eq_none (by rw [putL_size]; omega)
    have h2 : vs[i]? = none := Array.getElem?_eq_none (by omega)
    rw [h1, h2]
theorem setCells_other (g : Nat) : ∀ (vs : List Value) (o : Nat) (w : World) (i : Nat), i ≠ g → (w.setCells g o vs).heap[i]? = w.heap[i]?
  | [], _, _, _, _ => rfl
  | _ :: r, o, _, i, h => (setCells_other g r (o + 1) _ i h).trans (Below.heap_setCell _ _ _ _ h)
theorem setCells_keeps (g : Nat) : ∀ (vs : List Value) (o : Nat) (w : World), (w.setCells g o vs).os = w.os ∧ (w.setCells g o vs).tape = w.tape ∧ (w.setCells g o vs).output = w.output ∧ (w.setCells g o vs).heap.size = w.heap.size
  | [], _, _ => ⟨rfl, rfl, rfl, rfl⟩
  | v :: r, o, w => by
    obtain ⟨h1, h2, h3, h4⟩ := setCells_keeps g r (o + 1) (w.setCell ⟨g, o, none⟩ v)
    have hb := (Below.refl 0 w).setCell (Nat.zero_le _) (p := ⟨g, o, none⟩) v
    exact ⟨h1.trans hb.os, h2.trans hb.tape, h3.trans hb.output, h4.trans (by simp [World.size_setCell])⟩
/-- Only block g has turned. -/
structure OnlyAt (g : Nat) (w w' : World) : Prop where
  os : w'.os = w.os
  tape : w'.tape = w.tape
  output : w'.output = w.output
  size : w'.heap.size = w.heap.size
  block : ∀ i : Nat, i ≠ g → w'.heap[i]? = w.heap[i]?
theorem onlyAt_setCells (g : Nat) (vs : List Value) (o : Nat) (w : World) : OnlyAt g w (w.setCells g o vs) := by
  obtain ⟨h1, h2, h3, h4⟩ := setCells_keeps g vs o w
  exact ⟨h1, h2, h3, h4, fun i hi => setCells_other g vs o w i hi⟩
/-- A whole block is written over. -/
theorem opC_store {t : TypeId} {s : Tmp} {x : Operand} {ty : TypeId} {pos : String} {af : Array Edge} {gd : Option (Nat × Bool)} {a : Act} {w : World} {K : Value → World → Prop} {g : Nat} {bt : TypeId} {cs vs : Array Value}
    (he : a.eval (.tmp s) = .pointer (some ⟨g, 0, none⟩)) (hx : a.eval x = .agg vs) (hb : Blk w g bt cs) (hs : cs.size = vs.size) (hi : (P.info? t).map (·.size) = some vs.size) (h1 : vs.all (·.oneCell') = true)
    (hk : ∀ w', OnlyAt g w w' → Blk w' g bt vs → K undef w') : opC P ⟨none, .store t (.tmp s) x, ty, pos, af, gd⟩ a w K := by
  have ht : w.there g 0 vs.size := fun j hj => by
    refine ⟨?_, by simpa using hb.frozen j⟩
    have := hb.cell j
    rw [Nat.zero_add, this]
    simp [hs, hj]
  refine opC_skip (w' := w.setCells g 0 vs.toList) ?_ (hk _ (onlyAt_setCells _ _ _ _) ?_)
  · simp [execOp, he, hx, run_storeAt_mid w g 0 t vs ht hi h1, Result.andThen]
  · have := blk_setCells vs.toList 0 w cs hb
    rwa [putL_all hs] at this
/-- What an object may turn into. -/
structure Turn where
  s : Obj → Obj → Prop
  refl : ∀ o, s o o
  trans : ∀ {a b c : Obj}, s a b → s b c → s a c
def turn1 (Z V : Obj) : Turn := ⟨fun o o' => o' = o ∨ (o = Z ∧ o' = V), fun _ => .inl rfl, fun {a b c} h1 h2 => by
  rcases h1 with rfl | ⟨rfl, rfl⟩
  · exact h2
  · rcases h2 with rfl | ⟨_, rfl⟩
    · exact .inr ⟨rfl, rfl⟩
    · exact .inr ⟨rfl, rfl⟩⟩
structure TurnR (base : Nat) (S : Turn) (w w' : World) : Prop where
  os : w'.os = w.os
  tape : w'.tape = w.tape
  output : w'.output = w.output
  size : w.heap.size ≤ w'.heap.size
  low : ∀ i : Nat, i < base → w'.heap[i]? = w.heap[i]?
  turn : ∀ (i : Nat) (o : Obj), w.heap[i]? = some o → ∃ o', w'.heap[i]? = some o' ∧ S.s o o'
theorem TurnR.of_below {base : Nat} {S : Turn} {w w' : World} (h : Below w.heap.size w w') (hb : base ≤ w.heap.size) : TurnR base S w w' :=
  ⟨h.os, h.tape, h.output, h.size, fun i hi => h.block i (by omega), fun i o ho => ⟨o, (h.block i (Array.getElem?_eq_some_iff.1 ho).1).trans ho, S.refl o⟩⟩
def relT (base : Nat) (S : Turn) : Rel := ⟨TurnR base S, fun _ => ⟨rfl, rfl, rfl, Nat.le_refl _, fun _ _ => rfl, fun _ o ho => ⟨o, ho, S.refl o⟩⟩,
  fun _ => ⟨rfl, rfl, rfl, Nat.le_refl _, fun _ _ => rfl, fun _ o ho => ⟨o, ho, S.refl o⟩⟩,
  fun h1 h2 => ⟨h2.os.trans h1.os, h2.tape.trans h1.tape, h2.output.trans h1.output, Nat.le_trans h1.size h2.size, fun i hi => (h2.low i hi).trans (h1.low i hi), fun i o ho => by
    obtain ⟨o', h3, h4⟩ := h1.turn i o ho
    obtain ⟨o'', h5, h6⟩ := h2.turn i o' h3
    exact ⟨o'', h5, S.trans h4 h6⟩⟩⟩
theorem TurnR.below {base : Nat} {S : Turn} {w w' : World} (h : TurnR base S w w') : Below base w w' := ⟨h.os, h.tape, h.output, h.size, h.low⟩
theorem TurnR.only {base g : Nat} {S : Turn} {w w' : World} {o o' : Obj} (h : OnlyAt g w w') (hb : base ≤ g) (ho : w.heap[g]? = some o) (ho' : w'.heap[g]? = some o') (hs : S.s o o') : TurnR base S w w' :=
  ⟨h.os, h.tape, h.output, Nat.le_of_eq h.size.symm, fun i hi => h.block i (by omega), fun i x hx => by
    by_cases e : i = g
    · subst e
      rw [ho] at hx
      cases hx
      exact ⟨o', ho', hs⟩
    · exact ⟨x, (h.block i e).trans hx, S.refl x⟩⟩
/-- A block made in the region: zero, or written. -/
def newF (base : Nat) (Z V : Obj) : FlwG (relT base (turn1 Z V)) := ⟨fun v w => ∃ g, v = .pointer (some ⟨g, 0, none⟩) ∧ base ≤ g ∧ (w.heap[g]? = some Z ∨ w.heap[g]? = some V), fun {_ w w'} ⟨g, h1, h2, h3⟩ hb => by
  refine ⟨g, h1, h2, ?_⟩
  rcases h3 with h3 | h3
  · obtain ⟨o', h4, h5⟩ := hb.turn g _ h3
    rcases h5 with rfl | ⟨_, rfl⟩
    · exact .inl h4
    · exact .inr h4
  · obtain ⟨o', h4, h5⟩ := hb.turn g _ h3
    rcases h5 with rfl | ⟨_, rfl⟩
    · exact .inr h4
    · exact .inr h4⟩
/-- .. written. -/
def doneF (base : Nat) (Z V : Obj) : FlwG (relT base (turn1 Z V)) := ⟨fun v w => ∃ g, v = .pointer (some ⟨g, 0, none⟩) ∧ base ≤ g ∧ w.heap[g]? = some V, fun {_ w w'} ⟨g, h1, h2, h3⟩ hb => by
  refine ⟨g, h1, h2, ?_⟩
  obtain ⟨o', h4, h5⟩ := hb.turn g _ h3
  rcases h5 with rfl | ⟨_, rfl⟩
  · exact h4
  · exact h4⟩
end
end Go.Proofs.YtdnnkdldolhbpaaGreatDoor
namespace Go.Proofs.YtdnnkdldolhbpaaGreatDoor
open Go.RowKit Go.Maps Go.MapKept Go.ChangeMaps
variable {κ : Type} {P : Program} {k t e : TypeId} {In : κ → Prop} {enc : κ → Value} {w : World} {b : Nat} {f : κ → Option Value}
theorem FitF.push [DecidableEq κ] {es : Array MapEntry} {clock : Nat} (F : FitF In enc f es clock) (_ : KeyE P k In enc) {x : κ} (hx : In x) (v : Value) (h2 : ∀ e ∈ es.toList, e.key ≠ enc x) : FitF In enc (upd f x (some v)) (es.push ⟨enc x, v, clock⟩) (clock + 1) := by
  refine ⟨fun e he => ?_, fun y u hy => ?_, stamped_push F.2.2 h2⟩
  · simp only [Array.toList_push, List.mem_append, List.mem_singleton] at he
    rcases he with he | rfl
    · obtain ⟨y, hy, hk, hv⟩ := F.1 e he
      exact ⟨y, hy, hk, by rw [upd_other _ (fun e1 => h2 e he (by rw [hk, e1]))]; exact hv⟩
    · exact ⟨x, hx, rfl, upd_same _ _ _⟩
  · by_cases hyx : y = x
    · subst hyx
      rw [upd_same] at hy
      cases hy
      exact ⟨_, by rw [Array.toList_push]; exact List.mem_append_right _ (List.mem_singleton.2 rfl), rfl, rfl⟩
    · rw [upd_other _ hyx] at hy
      obtain ⟨e, he, hk, hv⟩ := F.2.1 y u hy
      exact ⟨e, by rw [Array.toList_push]; exact List.mem_append_left _ he, hk, hv⟩
theorem FitF.mod [DecidableEq κ] {es : Array MapEntry} {clock : Nat} (F : FitF In enc f es clock) (K : KeyE P k In enc) {x : κ} (hx : In x) (v : Value) {j : Nat} {e0 : MapEntry} (h2 : es.toList[j]? = some e0) (h3 : e0.key = enc x) :
    FitF In enc (upd f x (some v)) (es.modify j (fun e' => { e' with key := enc x, val := v })) clock := by
  have hj : es[j]? = some e0 := by simpa using h2
  have hm0 := List.mem_of_getElem? h2
  have hst := (stamped_iff es clock).1 F.2.2
  have hkeyf : ∀ e', es[j]? = some e' → ({ e' with key := enc x, val := v } : MapEntry).key = e'.key := fun e' he' => by rw [hj] at he'; cases he'; exact h3.symm
  have hlist : (es.modify j (fun e' => { e' with key := enc x, val := v })).toList = es.toList.set j { e0 with key := enc x, val := v } := by rw [Array.toList_modify, modify_eq_set _ _ _ _ h2]
  have hjl : j < es.toList.length := (List.getElem?_eq_some_iff.1 h2).1
  have e5 : es.toList[j] = e0 := (List.getElem?_eq_some_iff.1 h2).2
  refine ⟨fun e he => ?_, fun y u hy => ?_, stamped_modify F.2.2 _ _ (fun _ _ => rfl) (fun e' _ he' => hkeyf e' he')⟩
  · rw [hlist] at he
    rcases List.mem_or_eq_of_mem_set he with he' | rfl
    · obtain ⟨i, hi, ex⟩ := List.getElem_of_mem he
      rw [List.getElem_set] at ex
      by_cases hij : j = i
      · rw [if_pos hij] at ex
        subst ex
        exact ⟨x, hx, rfl, upd_same _ _ _⟩
      · rw [if_neg hij] at ex
        obtain ⟨y, hy, hk, hv⟩ := F.1 e he'
        refine ⟨y, hy, hk, ?_⟩
        rw [upd_other]
        · exact hv
        · rintro rfl
          have h4 : e = e0 := entry_eq_of_key hst.2.2 he' hm0 (hk.trans h3.symm)
          have hi' : i < es.toList.length := by simpa using hi
          have h5 := (List.pairwise_iff_getElem.1 hst.2.2)
          rcases Nat.lt_or_gt_of_ne hij with h6 | h6
          · exact h5 j i hjl hi' h6 (by rw [ex, h4, e5])
          · exact h5 i j hi' hjl h6 (by rw [ex, h4, e5])
    · exact ⟨x, hx, rfl, upd_same _ _ _⟩
  · rw [hlist]
    by_cases hyx : y = x
    · subst hyx
      rw [upd_same] at hy
      cases hy
      exact ⟨{ e0 with key := enc y, val := v }, List.mem_iff_getElem.2 ⟨j, by simpa using hjl, by simp⟩, rfl, rfl⟩
    · rw [upd_other _ hyx] at hy
      obtain ⟨e, he, hk, hv⟩ := F.2.1 y u hy
      obtain ⟨i, hi, ex⟩ := List.getElem_of_mem he
      have hij : j ≠ i := by
        rintro rfl
        exact hyx (K.inj _ _ (by rw [← hk, ← ex, e5, h3]))
      exact ⟨e, List.mem_iff_getElem.2 ⟨i, by simpa using hi, by rw [List.getElem_set, if_neg hij, ex]⟩, hk, hv⟩
theorem find_none (K : KeyE P k In enc) {es : Array MapEntry} {clock : Nat} (F : FitF In enc f es clock) {x : κ} (hx : In x) (h2 : ∀ e ∈ es.toList, e.key ≠ enc x) (w' : World) : (Instr.findKey k (enc x) es.toList).run P w' = .ok none w' := by
  obtain ⟨l, hl⟩ := K.of x hx
  rcases K.keyed.find w' hl es.toList (F.keys K) with ⟨h1, _⟩ | ⟨j, e0, _, h3, h4⟩
  · exact h1
  · exact absurd h4 (h2 _ (List.mem_of_getElem? h3))
theorem find_some (K : KeyE P k In enc) {es : Array MapEntry} {clock : Nat} (F : FitF In enc f es clock) {x : κ} (hx : In x) {j : Nat} {e0 : MapEntry} (h2 : es.toList[j]? = some e0) (h3 : e0.key = enc x) (w' : World) : (Instr.findKey k (enc x) es.toList).run P w' = .ok (some (j, e0.val)) w' := by
  obtain ⟨l, hl⟩ := K.of x hx
  have hst := (stamped_iff es clock).1 F.2.2
  rcases K.keyed.find w' hl es.toList (F.keys K) with ⟨_, h4⟩ | ⟨i, e1, h4, h5, h6⟩
  · exact absurd h3 (h4 _ (List.mem_of_getElem? h2))
  · have he : e1 = e0 := entry_eq_of_key hst.2.2 (List.mem_of_getElem? h5) (List.mem_of_getElem? h2) (h6.trans h3.symm)
    have hij : i = j := by
      have hp := (List.pairwise_iff_getElem.1 hst.2.2)
      have hjl : j < es.toList.length := (List.getElem?_eq_some_iff.1 h2).1
      have hil : i < es.toList.length := (List.getElem?_eq_some_iff.1 h5).1
      have ej : es.toList[j] = e0 := (List.getElem?_eq_some_iff.1 h2).2
      have ei : es.toList[i] = e1 := (List.getElem?_eq_some_iff.1 h5).2
      rcases Nat.lt_trichotomy i j with h7 | h7 | h7
      · exact absurd (by rw [ei, ej, he]) (hp i j hil hjl h7)
      · exact h7
      · exact absurd (by rw [ei, ej, he]) (hp j i hjl hil h7)
    rw [← hij, ← he]
    exact h4
def goI (n : Nat) : Value := .int .i64 (n : Int)
theorem modify_same {es : Array MapEntry} {j : Nat} {e0 : MapEntry} {g : MapEntry → MapEntry} (h : es.toList[j]? = some e0) (hg : g e0 = e0) : es.modify j g = es := by
  have hj : es[j]? = some e0 := by simpa using h
  have hjl : j < es.size := (Array.getElem?_eq_some_iff.1 hj).1
  have hje : es[j] = e0 := (Array.getElem?_eq_some_iff.1 hj).2
  apply Array.ext
  · simp
  · intro i h1 h4
    rw [Array.getElem_modify]
    by_cases hi : j = i
    · subst hi
      rw [if_pos rfl, hje, hg]
    · rw [if_neg hi]
theorem entry_at (K : KeyE P k In enc) (ht : P.underlying t = some (.map k e)) {es : Array MapEntry} {clock : Nat} (F : FitF In enc f es clock) {x : κ} (hx : In x) {j : Nat} {e0 : MapEntry} (h2 : es.toList[j]? = some e0) (h3 : e0.key = enc x) (w' : World) (hb' : w'.heap[b]? = some (.map es clock)) :
    (Instr.mapEntry t (.map (some b)) (enc x)).run P w' = .ok (.tuple #[e0.val, goI e0.born]) (setBlock w' b (.map es clock)) := by
  obtain ⟨l, hl⟩ := K.of x hx
  have hj : es[j]? = some e0 := by simpa using h2
  have hm := modify_same (g := fun e => { key := enc x, val := e.val, born := e.born }) h2 (by rw [← h3])
  simp [Instr.mapEntry, run_underlying ht, MapKept.run_getObj_map hb', K.keyed.check w' false hl, find_some K F hx h2 h3 w', hj, h3, K.keyed.stays w' hl, MapKept.run_setObj_map _ hb', Result.andThen, setBlock, goI]
  rw [hm]
  exact ⟨rfl, rfl⟩
theorem estore_at {es : Array MapEntry} {clock : Nat} (F : FitF In enc f es clock) {x : κ} {j : Nat} {e0 : MapEntry} (h2 : es.toList[j]? = some e0) (h3 : e0.key = enc x) (val : Value) (w' : World) (hb' : w'.heap[b]? = some (.map es clock)) :
    (Instr.entryStore t (.map (some b)) (goI e0.born) val).run P w' = .ok () (setBlock w' b (.map (es.modify j (fun e' => { e' with key := enc x, val := val })) clock)) := by
  have hst := (stamped_iff es clock).1 F.2.2
  have hj : es[j]? = some e0 := by simpa using h2
  have hjl : j < es.size := (Array.getElem?_eq_some_iff.1 hj).1
  have hje : es[j] = e0 := (Array.getElem?_eq_some_iff.1 hj).2
  have hidx : es.findIdx? (fun e => ((e.born : Int) == (e0.born : Int))) = some j := by
    refine Array.findIdx?_eq_some_iff_getElem.2 ⟨hjl, by simp [hje], fun i hi => ?_⟩
    have hi2 : i < es.size := by omega
    have h1 := hst.2.1
    have h2' := List.pairwise_iff_getElem.1 h1 i j (by simpa using hi2) (by simpa using hjl) hi
    simp [hje] at h2'
    simp
    omega
  simp [Instr.entryStore, MapKept.run_getObj_map hb', asInt, asIntOf, goI, hidx, MapKept.run_setObj_map _ hb', Result.andThen, setBlock]
  congr 2
  apply Array.ext
  · simp
  · intro i h1 h4
    rw [Array.getElem_modify, Array.getElem_modify]
    by_cases hi : j = i
    · subst hi
      rw [if_pos rfl, if_pos rfl, hje, ← h3]
    · rw [if_neg hi, if_neg hi]
/-- What 'm[k], .. = v, ..' does to the block, step by step, however often. -/
structure EntryOf (P : Program) (t : TypeId) (In : κ → Prop) (enc : κ → Value) (b : Nat) (key : Value) (val : Value) (f : κ → Option Value) (X0 X1 X2 : Obj) (born : Nat) : Prop where
  e0 : ∀ w' : World, w'.heap[b]? = some X0 → ∃ v, (Instr.mapEntry t (.map (some b)) key).run P w' = .ok (.tuple #[v, goI born]) (setBlock w' b X1)
  e1 : ∀ w' : World, w'.heap[b]? = some X1 → ∃ v, (Instr.mapEntry t (.map (some b)) key).run P w' = .ok (.tuple #[v, goI born]) (setBlock w' b X1)
  e2 : ∀ w' : World, w'.heap[b]? = some X2 → ∃ v, (Instr.mapEntry t (.map (some b)) key).run P w' = .ok (.tuple #[v, goI born]) (setBlock w' b X2)
  s1 : ∀ w' : World, w'.heap[b]? = some X1 → (Instr.entryStore t (.map (some b)) (goI born) val).run P w' = .ok () (setBlock w' b X2)
  s2 : ∀ w' : World, w'.heap[b]? = some X2 → (Instr.entryStore t (.map (some b)) (goI born) val).run P w' = .ok () (setBlock w' b X2)
  done : ∀ w' : World, w'.heap[b]? = some X2 → MapF w' In enc b f
  m0 : ∃ es c, X0 = .map es c
  m1 : ∃ es c, X1 = .map es c
  m2 : ∃ es c, X2 = .map es c
theorem entry_rest [DecidableEq κ] (K : KeyE P k In enc) (ht : P.underlying t = some (.map k e)) {x : κ} (hx : In x) (val : Value) {X0 : Obj} {es1 : Array MapEntry} {c1 : Nat} {f1 : κ → Option Value} (F1 : FitF In enc f1 es1 c1) {j : Nat} {e1 : MapEntry} (h2 : es1.toList[j]? = some e1) (h3 : e1.key = enc x)
    (hm : ∃ es c, X0 = .map es c) (h0 : ∀ w' : World, w'.heap[b]? = some X0 → ∃ v, (Instr.mapEntry t (.map (some b)) (enc x)).run P w' = .ok (.tuple #[v, goI e1.born]) (setBlock w' b (.map es1 c1))) :
    EntryOf P t In enc b (enc x) val (upd f1 x (some val)) X0 (.map es1 c1) (.map (es1.modify j (fun e' => { e' with key := enc x, val := val })) c1) e1.born := by
  have F2 := F1.mod K hx val h2 h3
  have h22 : (es1.modify j (fun e' => { e' with key := enc x, val := val })).toList[j]? = some { e1 with key := enc x, val := val } := by
    have hjl := (List.getElem?_eq_some_iff.1 h2).1
    rw [Array.toList_modify, modify_eq_set _ _ _ _ h2, List.getElem?_set_self (by simpa using hjl)]
  refine ⟨h0, fun w' hb => ⟨_, entry_at K ht F1 hx h2 h3 w' hb⟩, fun w' hb => ⟨_, entry_at K ht F2 hx h22 rfl w' hb⟩, fun w' hb => estore_at F1 h2 h3 val w' hb, fun w' hb => ?_, fun w' hb => ⟨_, _, hb, F2⟩, hm, ⟨_, _, rfl⟩, ⟨_, _, rfl⟩⟩
  have := estore_at (P := P) (t := t) F2 h22 rfl val w' hb
  rw [modify_same h22 rfl] at this
  exact this
theorem upd_upd [DecidableEq κ] (f : κ → Option Value) (x : κ) (u v : Option Value) : upd (upd f x u) x v = upd f x v := by
  funext y
  unfold upd
  split <;> rfl
theorem MapF.entry [DecidableEq κ] (h : MapF w In enc b f) (K : KeyE P k In enc) (ht : P.underlying t = some (.map k e)) {z : Value} (hz : ∀ w', (zeroValue e).run P w' = .ok z w') {x : κ} (hx : In x) (val : Value) :
    ∃ X0 X1 X2 born, w.heap[b]? = some X0 ∧ EntryOf P t In enc b (enc x) val (upd f x (some val)) X0 X1 X2 born := by
  obtain ⟨es, clock, hb, F⟩ := h
  obtain ⟨l, hl⟩ := K.of x hx
  rcases K.keyed.find w hl es.toList (F.keys K) with ⟨_, h2⟩ | ⟨j, e0, _, h2, h3⟩
  · have F1 := F.push K hx z h2
    have h22 : (es.push ⟨enc x, z, clock⟩).toList[es.size]? = some ⟨enc x, z, clock⟩ := by simp
    have := entry_rest (b := b) (t := t) (X0 := .map es clock) K ht hx val F1 h22 rfl ⟨_, _, rfl⟩ (fun w' hb' => ⟨z, by
      simp [Instr.mapEntry, run_underlying ht, MapKept.run_getObj_map hb', K.keyed.check w' false hl, find_none K F hx h2 w', hz, MapKept.run_setObj_map _ hb', Result.andThen, setBlock, goI]
      rfl⟩)
    rw [upd_upd] at this
    exact ⟨_, _, _, _, hb, this⟩
  · exact ⟨_, _, _, _, hb, entry_rest K ht hx val F h2 h3 ⟨_, _, rfl⟩ (fun w' hb' => ⟨_, entry_at K ht F hx h2 h3 w' hb'⟩)⟩
end Go.Proofs.YtdnnkdldolhbpaaGreatDoor
namespace Go.Proofs.YtdnnkdldolhbpaaGreatDoor
open Go.ChangeShapes Go.WideShapes Go.ChangeAt Go.RowKit Go.Maps

theorem vec_one (f : Nat → Int) : ((vec f).all fun x => x.oneCell') = true := by
  simp [vec, Value.oneCell']
set_option maxRecDepth 100000 in
set_option maxHeartbeats 8000000 in
theorem add_reg2 {Q : Exit → Act → World → Prop} {a0 : Act} {w W : World} {q n c : Nat} {A : Option Addr} {y : Ky} {bm : Option Nat} {f0 r1 : Nat → Int} {v1 : Value} (h0 : a0.eval (.tmp 0) = .pointer (some ⟨q, 0, none⟩)) (h3 : a0.eval (.tmp 3) = .pointer (some ⟨w.heap.size, 0, none⟩)) (h5 : a0.eval (.tmp 5) = .int .u32 (y.a : Int)) (hsz : a0.tmps.size = 78)
    (LB : ∀ W', Below W.heap.size W W' → (Instr.loadAt 83 (.pointer (some ⟨q, 2, none⟩))).run Tryz.prog W' = .ok (.map bm) W')
    (LK : ∀ W', Below W.heap.size W W' → (Instr.lookup 83 (.map bm) (.int .u32 (y.a : Int)) false).run Tryz.prog W' = .ok (.agg (vec f0)) W')
    (LS : ∀ W', Below W.heap.size W W' → (Instr.loadAt 34 (.pointer (some ⟨w.heap.size, 4, none⟩))).run Tryz.prog W' = .ok (.slice A n c) W')
    (CW : ∀ W', Below W.heap.size W W' → Calls Tryz.prog 73 #[.agg (vec f0), .slice A n c] W' (Ret (.tuple #[.agg (vec r1), v1]) W'))
    (hQ : ∀ (u : Nat → Value) (g : Nat) (W' : World), W.heap.size ≤ g → Blk W' g 85 (vec r1) → Below W.heap.size W W' → (u 13 = .pointer (some ⟨g, 0, none⟩)) → (u 15 = v1) → Q .normal (putF u [some 14, some 15, some 16, some 17, some 18, some 19, some 20, some 21, some 22, some 23, some 13, some 24, some 25, some 6, none, some 7] 0 a0) W') :
    (Code.region 2 #[{ dst := some 14, op := Go.Op.move (Go.Operand.tmp 0), type := 24, pos := "ledger.go:223", after := #[], guard := none }, { dst := some 15, op := Go.Op.nilCheck (Go.Operand.tmp 14), type := 0, pos := "ledger.go:223", after := #[{ on := 0, ground := Go.Ground.data }], guard := none }, { dst := some 16, op := Go.Op.fieldAddr 87 (Go.Operand.tmp 15) 2, type := 0, pos := "ledger.go:223", after := #[{ on := 1, ground := Go.Ground.data }], guard := none }, { dst := some 17, op := Go.Op.load 83 (Go.Operand.tmp 16), type := 83, pos := "ledger.go:223", after := #[{ on := 2, ground := Go.Ground.data }], guard := none }, { dst := some 18, op := Go.Op.move (Go.Operand.tmp 5), type := 30, pos := "ledger.go:223", after := #[], guard := none }, { dst := some 19, op := Go.Op.lookup 83 (Go.Operand.tmp 17) (Go.Operand.tmp 18) false, type := 85, pos := "ledger.go:223", after := #[{ on := 3, ground := Go.Ground.data }, { on := 4, ground := Go.Ground.data }], guard := none }, { dst := some 20, op := Go.Op.fieldAddr 42 (Go.Operand.tmp 3) 0, type := 0, pos := "ledger.go:223", after := #[], guard := none }, { dst := some 21, op := Go.Op.fieldAddr 40 (Go.Operand.tmp 20) 1, type := 0, pos := "ledger.go:223", after := #[{ on := 6, ground := Go.Ground.data }], guard := none }, { dst := some 22, op := Go.Op.load 34 (Go.Operand.tmp 21), type := 34, pos := "ledger.go:223", after := #[{ on := 7, ground := Go.Ground.data }], guard := none }, { dst := some 23, op := Go.Op.call { callee := Go.Callee.value (Go.Operand.func 73), args := #[Go.Operand.tmp 19, Go.Operand.tmp 22], argTypes := #[85, 34] }, type := 145, pos := "ledger.go:223", after := #[{ on := 5, ground := Go.Ground.data }, { on := 8, ground := Go.Ground.data }], guard := none }, { dst := some 13, op := Go.Op.move (Go.Operand.tmp 23), type := 145, pos := "ledger.go:223", after := #[{ on := 9, ground := Go.Ground.data }], guard := none }, { dst := some 24, op := Go.Op.extract (Go.Operand.tmp 13) 0, type := 85, pos := "ledger.go:223", after := #[{ on := 10, ground := Go.Ground.data }], guard := none }, { dst := some 25, op := Go.Op.extract (Go.Operand.tmp 13) 1, type := 57, pos := "ledger.go:223", after := #[{ on := 10, ground := Go.Ground.data }, { on := 14, ground := Go.Ground.gcOnly Go.Departure.lateStores }], guard := none }, { dst := some 6, op := Go.Op.alloc 85, type := 0, pos := "ledger.go:223", after := #[], guard := none }, { dst := none, op := Go.Op.store 85 (Go.Operand.tmp 6) (Go.Operand.tmp 24), type := 0, pos := "ledger.go:223", after := #[{ on := 13, ground := Go.Ground.data }, { on := 11, ground := Go.Ground.data }, { on := 9, ground := Go.Ground.chain }, { on := 0, ground := Go.Ground.phase }, { on := 1, ground := Go.Ground.phase }, { on := 2, ground := Go.Ground.phase }, { on := 3, ground := Go.Ground.phase }, { on := 4, ground := Go.Ground.phase }, { on := 5, ground := Go.Ground.phase }, { on := 6, ground := Go.Ground.phase }, { on := 7, ground := Go.Ground.phase }, { on := 8, ground := Go.Ground.phase }, { on := 9, ground := Go.Ground.phase }, { on := 10, ground := Go.Ground.phase }, { on := 11, ground := Go.Ground.phase }, { on := 12, ground := Go.Ground.textOnly Go.Departure.lateStores }, { on := 13, ground := Go.Ground.phase }], guard := none }, { dst := some 7, op := Go.Op.assign (Go.Operand.tmp 25), type := 57, pos := "ledger.go:223", after := #[{ on := 12, ground := Go.Ground.data }, { on := 14, ground := Go.Ground.chain }, { on := 0, ground := Go.Ground.phase }, { on := 1, ground := Go.Ground.phase }, { on := 2, ground := Go.Ground.phase }, { on := 3, ground := Go.Ground.phase }, { on := 4, ground := Go.Ground.phase }, { on := 5, ground := Go.Ground.phase }, { on := 6, ground := Go.Ground.phase }, { on := 7, ground := Go.Ground.phase }, { on := 8, ground := Go.Ground.phase }, { on := 9, ground := Go.Ground.phase }, { on := 10, ground := Go.Ground.phase }, { on := 11, ground := Go.Ground.phase }, { on := 12, ground := Go.Ground.phase }, { on := 13, ground := Go.Ground.phase }, { on := 14, ground := Go.Ground.phase }], guard := none }] true).wp Tryz.prog Q a0 W := by
  refine wp_region_flowG (l := [{ dst := some 14, op := Go.Op.move (Go.Operand.tmp 0), type := 24, pos := "ledger.go:223", after := #[], guard := none }, { dst := some 15, op := Go.Op.nilCheck (Go.Operand.tmp 14), type := 0, pos := "ledger.go:223", after := #[{ on := 0, ground := Go.Ground.data }], guard := none }, { dst := some 16, op := Go.Op.fieldAddr 87 (Go.Operand.tmp 15) 2, type := 0, pos := "ledger.go:223", after := #[{ on := 1, ground := Go.Ground.data }], guard := none }, { dst := some 17, op := Go.Op.load 83 (Go.Operand.tmp 16), type := 83, pos := "ledger.go:223", after := #[{ on := 2, ground := Go.Ground.data }], guard := none }, { dst := some 18, op := Go.Op.move (Go.Operand.tmp 5), type := 30, pos := "ledger.go:223", after := #[], guard := none }, { dst := some 19, op := Go.Op.lookup 83 (Go.Operand.tmp 17) (Go.Operand.tmp 18) false, type := 85, pos := "ledger.go:223", after := #[{ on := 3, ground := Go.Ground.data }, { on := 4, ground := Go.Ground.data }], guard := none }, { dst := some 20, op := Go.Op.fieldAddr 42 (Go.Operand.tmp 3) 0, type := 0, pos := "ledger.go:223", after := #[], guard := none }, { dst := some 21, op := Go.Op.fieldAddr 40 (Go.Operand.tmp 20) 1, type := 0, pos := "ledger.go:223", after := #[{ on := 6, ground := Go.Ground.data }], guard := none }, { dst := some 22, op := Go.Op.load 34 (Go.Operand.tmp 21), type := 34, pos := "ledger.go:223", after := #[{ on := 7, ground := Go.Ground.data }], guard := none }, { dst := some 23, op := Go.Op.call { callee := Go.Callee.value (Go.Operand.func 73), args := #[Go.Operand.tmp 19, Go.Operand.tmp 22], argTypes := #[85, 34] }, type := 145, pos := "ledger.go:223", after := #[{ on := 5, ground := Go.Ground.data }, { on := 8, ground := Go.Ground.data }], guard := none }, { dst := some 13, op := Go.Op.move (Go.Operand.tmp 23), type := 145, pos := "ledger.go:223", after := #[{ on := 9, ground := Go.Ground.data }], guard := none }, { dst := some 24, op := Go.Op.extract (Go.Operand.tmp 13) 0, type := 85, pos := "ledger.go:223", after := #[{ on := 10, ground := Go.Ground.data }], guard := none }, { dst := some 25, op := Go.Op.extract (Go.Operand.tmp 13) 1, type := 57, pos := "ledger.go:223", after := #[{ on := 10, ground := Go.Ground.data }, { on := 14, ground := Go.Ground.gcOnly Go.Departure.lateStores }], guard := none }, { dst := some 6, op := Go.Op.alloc 85, type := 0, pos := "ledger.go:223", after := #[], guard := none }, { dst := none, op := Go.Op.store 85 (Go.Operand.tmp 6) (Go.Operand.tmp 24), type := 0, pos := "ledger.go:223", after := #[{ on := 13, ground := Go.Ground.data }, { on := 11, ground := Go.Ground.data }, { on := 9, ground := Go.Ground.chain }, { on := 0, ground := Go.Ground.phase }, { on := 1, ground := Go.Ground.phase }, { on := 2, ground := Go.Ground.phase }, { on := 3, ground := Go.Ground.phase }, { on := 4, ground := Go.Ground.phase }, { on := 5, ground := Go.Ground.phase }, { on := 6, ground := Go.Ground.phase }, { on := 7, ground := Go.Ground.phase }, { on := 8, ground := Go.Ground.phase }, { on := 9, ground := Go.Ground.phase }, { on := 10, ground := Go.Ground.phase }, { on := 11, ground := Go.Ground.phase }, { on := 12, ground := Go.Ground.textOnly Go.Departure.lateStores }, { on := 13, ground := Go.Ground.phase }], guard := none }, { dst := some 7, op := Go.Op.assign (Go.Operand.tmp 25), type := 57, pos := "ledger.go:223", after := #[{ on := 12, ground := Go.Ground.data }, { on := 14, ground := Go.Ground.chain }, { on := 0, ground := Go.Ground.phase }, { on := 1, ground := Go.Ground.phase }, { on := 2, ground := Go.Ground.phase }, { on := 3, ground := Go.Ground.phase }, { on := 4, ground := Go.Ground.phase }, { on := 5, ground := Go.Ground.phase }, { on := 6, ground := Go.Ground.phase }, { on := 7, ground := Go.Ground.phase }, { on := 8, ground := Go.Ground.phase }, { on := 9, ground := Go.Ground.phase }, { on := 10, ground := Go.Ground.phase }, { on := 11, ground := Go.Ground.phase }, { on := 12, ground := Go.Ground.phase }, { on := 13, ground := Go.Ground.phase }, { on := 14, ground := Go.Ground.phase }], guard := none }]) [some 14, some 15, some 16, some 17, some 18, some 19, some 20, some 21, some 22, some 23, some 13, some 24, some 25, some 6, none, some 7] (fun i => ([.is (.pointer (some ⟨q, 0, none⟩)), .is (.pointer (some ⟨q, 0, none⟩)), .is (.pointer (some ⟨q, 2, none⟩)), .is (.map bm), .is (.int .u32 (y.a : Int)), .is (.agg (vec f0)), .is (.pointer (some ⟨w.heap.size, 0, none⟩)), .is (.pointer (some ⟨w.heap.size, 4, none⟩)), .is (.slice A n c), .is (.tuple #[.agg (vec r1), v1]), .is (.tuple #[.agg (vec r1), v1]), .is (.agg (vec r1)), .is (v1), newF W.heap.size (.cells (vec (fun _ => 0)) 85 (0, 0)) (.cells (vec r1) 85 (0, 0)), doneF W.heap.size (.cells (vec (fun _ => 0)) 85 (0, 0)) (.cells (vec r1) 85 (0, 0)), .is (v1)] : List (FlwG _)).getD i .any) (by kernel_rfl) (by rw [hsz]; kernel_rfl) rfl ?_ ?_
  · refine ⟨step_freeG rfl (fun aF wF hs hb => ?_), ?_⟩
    · obtain ⟨x0, -⟩ := hs
      have e0 : aF.eval (.tmp 0) = .pointer (some ⟨q, 0, none⟩) := x0.trans h0
      exact opC_move e0 ⟨rfl, (relT _ _).refl wF⟩
    refine ⟨step_freeG rfl (fun aF wF hs hb => ?_), ?_⟩
    · obtain ⟨x0, -⟩ := hs
      have e0 : aF.eval (.tmp 14) = .pointer (some ⟨q, 0, none⟩) := x0
      refine opC_value (v := .pointer (some ⟨q, 0, none⟩)) ?_ ⟨rfl, (relT _ _).refl wF⟩
      have t0 := ev_of e0
      simp [execOp, go_sem, t0]
    refine ⟨step_freeG rfl (fun aF wF hs hb => ?_), ?_⟩
    · obtain ⟨x0, -⟩ := hs
      have e0 : aF.eval (.tmp 15) = .pointer (some ⟨q, 0, none⟩) := x0
      refine opC_value (v := .pointer (some ⟨q, 2, none⟩)) ?_ ⟨rfl, (relT _ _).refl wF⟩
      have t0 := ev_of e0
      simp [execOp, go_sem, t0]
    refine ⟨step_freeG rfl (fun aF wF hs hb => ?_), ?_⟩
    · obtain ⟨x0, -⟩ := hs
      have e0 : aF.eval (.tmp 16) = .pointer (some ⟨q, 2, none⟩) := x0
      exact opC_load e0 (LB wF (hb.below)) ⟨rfl, (relT _ _).refl wF⟩
    refine ⟨step_freeG rfl (fun aF wF hs hb => ?_), ?_⟩
    · obtain ⟨x0, -⟩ := hs
      have e0 : aF.eval (.tmp 5) = .int .u32 (y.a : Int) := x0.trans h5
      exact opC_move e0 ⟨rfl, (relT _ _).refl wF⟩
    refine ⟨step_freeG rfl (fun aF wF hs hb => ?_), ?_⟩
    · obtain ⟨x0, x1, -⟩ := hs
      have e0 : aF.eval (.tmp 17) = .map bm := x0
      have e1 : aF.eval (.tmp 18) = .int .u32 (y.a : Int) := x1
      refine opC_value (v := .agg (vec f0)) ?_ ⟨rfl, (relT _ _).refl wF⟩
      simp [execOp, e0, e1, LK wF hb.below, Result.andThen]
    refine ⟨step_freeG rfl (fun aF wF hs hb => ?_), ?_⟩
    · obtain ⟨x0, -⟩ := hs
      have e0 : aF.eval (.tmp 3) = .pointer (some ⟨w.heap.size, 0, none⟩) := x0.trans h3
      refine opC_value (v := .pointer (some ⟨w.heap.size, 0, none⟩)) ?_ ⟨rfl, (relT _ _).refl wF⟩
      have t0 := ev_of e0
      simp [execOp, go_sem, t0]
    refine ⟨step_freeG rfl (fun aF wF hs hb => ?_), ?_⟩
    · obtain ⟨x0, -⟩ := hs
      have e0 : aF.eval (.tmp 20) = .pointer (some ⟨w.heap.size, 0, none⟩) := x0
      refine opC_value (v := .pointer (some ⟨w.heap.size, 4, none⟩)) ?_ ⟨rfl, (relT _ _).refl wF⟩
      have t0 := ev_of e0
      simp [execOp, go_sem, t0]
    refine ⟨step_freeG rfl (fun aF wF hs hb => ?_), ?_⟩
    · obtain ⟨x0, -⟩ := hs
      have e0 : aF.eval (.tmp 21) = .pointer (some ⟨w.heap.size, 4, none⟩) := x0
      exact opC_load e0 (LS wF (hb.below)) ⟨rfl, (relT _ _).refl wF⟩
    refine ⟨step_freeG rfl (fun aF wF hs hb => ?_), ?_⟩
    · obtain ⟨x0, x1, -⟩ := hs
      have e0 : aF.eval (.tmp 19) = .agg (vec f0) := x0
      have e1 : aF.eval (.tmp 22) = .slice A n c := x1
      exact opC_call (args := #[.agg (vec f0), .slice A n c]) (enters_of Tryz.func73 (by kernel_rfl) rfl) (by simp [e0, e1]) (CW wF hb.below) (fun _ h => ⟨rfl, TurnR.of_below h hb.size⟩)
    refine ⟨step_freeG rfl (fun aF wF hs hb => ?_), ?_⟩
    · obtain ⟨x0, -⟩ := hs
      have e0 : aF.eval (.tmp 23) = .tuple #[.agg (vec r1), v1] := x0
      exact opC_move e0 ⟨rfl, (relT _ _).refl wF⟩
    refine ⟨step_freeG rfl (fun aF wF hs hb => ?_), ?_⟩
    · obtain ⟨x0, -⟩ := hs
      have e0 : aF.eval (.tmp 13) = .tuple #[.agg (vec r1), v1] := x0
      refine opC_value (v := .agg (vec r1)) ?_ ⟨rfl, (relT _ _).refl wF⟩
      have t0 := ev_of e0
      simp [execOp, go_sem, t0]
    refine ⟨step_freeG rfl (fun aF wF hs hb => ?_), ?_⟩
    · obtain ⟨x0, -⟩ := hs
      have e0 : aF.eval (.tmp 13) = .tuple #[.agg (vec r1), v1] := x0
      refine opC_value (v := v1) ?_ ⟨rfl, (relT _ _).refl wF⟩
      have t0 := ev_of e0
      simp [execOp, go_sem, t0]
    refine ⟨step_freeG rfl (fun aF wF hs hb => ?_), ?_⟩
    · refine opC_alloc (cs := vec (fun _ => 0)) (by unfold vec; go_simp) ⟨⟨wF.heap.size, rfl, hb.size, .inl ?_⟩, TurnR.of_below (b_alloc wF _) hb.size⟩
      exact heap_alloc_new wF _
    refine ⟨step_freeG rfl (fun aF wF hs hb => ?_), ?_⟩
    · obtain ⟨x0, x1, -⟩ := hs
      obtain ⟨g, hg1, hg2, hg3⟩ : (newF W.heap.size (.cells (vec (fun _ => 0)) 85 (0, 0)) (.cells (vec r1) 85 (0, 0))).p (aF.eval (.tmp 6)) wF := x0
      have e1 : aF.eval (.tmp 24) = .agg (vec r1) := x1
      rcases hg3 with hg3 | hg3
      · exact opC_store hg1 e1 hg3 rfl (by kernel_rfl) (vec_one _) (fun w9 ho hv => ⟨⟨g, hg1, hg2, hv⟩, TurnR.only ho hg2 hg3 hv (.inr ⟨rfl, rfl⟩)⟩)
      · exact opC_store hg1 e1 hg3 rfl (by kernel_rfl) (vec_one _) (fun w9 ho hv => ⟨⟨g, hg1, hg2, hv⟩, TurnR.only ho hg2 hg3 hv (.inl rfl)⟩)
    refine ⟨step_freeG rfl (fun aF wF hs hb => ?_), ?_⟩
    · obtain ⟨x0, -⟩ := hs
      have e0 : aF.eval (.tmp 25) = v1 := x0
      exact opC_assign e0 ⟨rfl, (relT _ _).refl wF⟩
    exact trivial
  · intro u W' hf hn hb
    obtain ⟨g, hg1, hg2, hg3⟩ := hn 14 _ 6 rfl rfl
    have e1 := hf 15 7 rfl
    refine hQ u g W' hg2 hg3 hb.below ?_ e1
    have e2 : (putF u [some 14, some 15, some 16, some 17, some 18, some 19, some 20, some 21, some 22, some 23, some 13, some 24, some 25, some 6, none, some 7] 0 a0).eval (.tmp 6) = u 13 := by
      have hz : a0.tmps.size = 78 := hsz
      simp only [putF, Act.put, Act.eval]
      simp [hz]
    rw [← e2]
    exact hg1
set_option maxRecDepth 100000 in
set_option maxHeartbeats 8000000 in
theorem add_reg5 {Q : Exit → Act → World → Prop} {a0 : Act} {w W : World} {q n c : Nat} {A : Option Addr} {f1 r2 : Nat → Int} {v2 : Value} (h0 : a0.eval (.tmp 0) = .pointer (some ⟨q, 0, none⟩)) (h3 : a0.eval (.tmp 3) = .pointer (some ⟨w.heap.size, 0, none⟩)) (hsz : a0.tmps.size = 78)
    (LC : ∀ W', Below W.heap.size W W' → (Instr.loadAt 85 (.pointer (some ⟨q, 3, none⟩))).run Tryz.prog W' = .ok (.agg (vec f1)) W')
    (LS : ∀ W', Below W.heap.size W W' → (Instr.loadAt 34 (.pointer (some ⟨w.heap.size, 4, none⟩))).run Tryz.prog W' = .ok (.slice A n c) W')
    (CW : ∀ W', Below W.heap.size W W' → Calls Tryz.prog 73 #[.agg (vec f1), .slice A n c] W' (Ret (.tuple #[.agg (vec r2), v2]) W'))
    (hQ : ∀ (u : Nat → Value) (g : Nat) (W' : World), W.heap.size ≤ g → Blk W' g 85 (vec r2) → Below W.heap.size W W' → (u 11 = .pointer (some ⟨g, 0, none⟩)) → (u 13 = v2) → Q .normal (putF u [some 30, some 31, some 32, some 33, some 34, some 35, some 36, some 37, some 29, some 38, some 39, some 8, none, some 7] 0 a0) W') :
    (Code.region 5 #[{ dst := some 30, op := Go.Op.move (Go.Operand.tmp 0), type := 24, pos := "ledger.go:227", after := #[], guard := none }, { dst := some 31, op := Go.Op.nilCheck (Go.Operand.tmp 30), type := 0, pos := "ledger.go:227", after := #[{ on := 0, ground := Go.Ground.data }], guard := none }, { dst := some 32, op := Go.Op.fieldAddr 87 (Go.Operand.tmp 31) 3, type := 0, pos := "ledger.go:227", after := #[{ on := 1, ground := Go.Ground.data }], guard := none }, { dst := some 33, op := Go.Op.load 85 (Go.Operand.tmp 32), type := 85, pos := "ledger.go:227", after := #[{ on := 2, ground := Go.Ground.data }], guard := none }, { dst := some 34, op := Go.Op.fieldAddr 42 (Go.Operand.tmp 3) 0, type := 0, pos := "ledger.go:227", after := #[], guard := none }, { dst := some 35, op := Go.Op.fieldAddr 40 (Go.Operand.tmp 34) 1, type := 0, pos := "ledger.go:227", after := #[{ on := 4, ground := Go.Ground.data }], guard := none }, { dst := some 36, op := Go.Op.load 34 (Go.Operand.tmp 35), type := 34, pos := "ledger.go:227", after := #[{ on := 5, ground := Go.Ground.data }], guard := none }, { dst := some 37, op := Go.Op.call { callee := Go.Callee.value (Go.Operand.func 73), args := #[Go.Operand.tmp 33, Go.Operand.tmp 36], argTypes := #[85, 34] }, type := 145, pos := "ledger.go:227", after := #[{ on := 3, ground := Go.Ground.data }, { on := 6, ground := Go.Ground.data }], guard := none }, { dst := some 29, op := Go.Op.move (Go.Operand.tmp 37), type := 145, pos := "ledger.go:227", after := #[{ on := 7, ground := Go.Ground.data }], guard := none }, { dst := some 38, op := Go.Op.extract (Go.Operand.tmp 29) 0, type := 85, pos := "ledger.go:227", after := #[{ on := 8, ground := Go.Ground.data }], guard := none }, { dst := some 39, op := Go.Op.extract (Go.Operand.tmp 29) 1, type := 57, pos := "ledger.go:227", after := #[{ on := 8, ground := Go.Ground.data }, { on := 12, ground := Go.Ground.gcOnly Go.Departure.lateStores }], guard := none }, { dst := some 8, op := Go.Op.alloc 85, type := 0, pos := "ledger.go:227", after := #[], guard := none }, { dst := none, op := Go.Op.store 85 (Go.Operand.tmp 8) (Go.Operand.tmp 38), type := 0, pos := "ledger.go:227", after := #[{ on := 11, ground := Go.Ground.data }, { on := 9, ground := Go.Ground.data }, { on := 7, ground := Go.Ground.chain }, { on := 0, ground := Go.Ground.phase }, { on := 1, ground := Go.Ground.phase }, { on := 2, ground := Go.Ground.phase }, { on := 3, ground := Go.Ground.phase }, { on := 4, ground := Go.Ground.phase }, { on := 5, ground := Go.Ground.phase }, { on := 6, ground := Go.Ground.phase }, { on := 7, ground := Go.Ground.phase }, { on := 8, ground := Go.Ground.phase }, { on := 9, ground := Go.Ground.phase }, { on := 10, ground := Go.Ground.textOnly Go.Departure.lateStores }, { on := 11, ground := Go.Ground.phase }], guard := none }, { dst := some 7, op := Go.Op.assign (Go.Operand.tmp 39), type := 57, pos := "ledger.go:227", after := #[{ on := 10, ground := Go.Ground.data }, { on := 12, ground := Go.Ground.chain }, { on := 0, ground := Go.Ground.phase }, { on := 1, ground := Go.Ground.phase }, { on := 2, ground := Go.Ground.phase }, { on := 3, ground := Go.Ground.phase }, { on := 4, ground := Go.Ground.phase }, { on := 5, ground := Go.Ground.phase }, { on := 6, ground := Go.Ground.phase }, { on := 7, ground := Go.Ground.phase }, { on := 8, ground := Go.Ground.phase }, { on := 9, ground := Go.Ground.phase }, { on := 10, ground := Go.Ground.phase }, { on := 11, ground := Go.Ground.phase }, { on := 12, ground := Go.Ground.phase }], guard := none }] true).wp Tryz.prog Q a0 W := by
  refine wp_region_flowG (l := [{ dst := some 30, op := Go.Op.move (Go.Operand.tmp 0), type := 24, pos := "ledger.go:227", after := #[], guard := none }, { dst := some 31, op := Go.Op.nilCheck (Go.Operand.tmp 30), type := 0, pos := "ledger.go:227", after := #[{ on := 0, ground := Go.Ground.data }], guard := none }, { dst := some 32, op := Go.Op.fieldAddr 87 (Go.Operand.tmp 31) 3, type := 0, pos := "ledger.go:227", after := #[{ on := 1, ground := Go.Ground.data }], guard := none }, { dst := some 33, op := Go.Op.load 85 (Go.Operand.tmp 32), type := 85, pos := "ledger.go:227", after := #[{ on := 2, ground := Go.Ground.data }], guard := none }, { dst := some 34, op := Go.Op.fieldAddr 42 (Go.Operand.tmp 3) 0, type := 0, pos := "ledger.go:227", after := #[], guard := none }, { dst := some 35, op := Go.Op.fieldAddr 40 (Go.Operand.tmp 34) 1, type := 0, pos := "ledger.go:227", after := #[{ on := 4, ground := Go.Ground.data }], guard := none }, { dst := some 36, op := Go.Op.load 34 (Go.Operand.tmp 35), type := 34, pos := "ledger.go:227", after := #[{ on := 5, ground := Go.Ground.data }], guard := none }, { dst := some 37, op := Go.Op.call { callee := Go.Callee.value (Go.Operand.func 73), args := #[Go.Operand.tmp 33, Go.Operand.tmp 36], argTypes := #[85, 34] }, type := 145, pos := "ledger.go:227", after := #[{ on := 3, ground := Go.Ground.data }, { on := 6, ground := Go.Ground.data }], guard := none }, { dst := some 29, op := Go.Op.move (Go.Operand.tmp 37), type := 145, pos := "ledger.go:227", after := #[{ on := 7, ground := Go.Ground.data }], guard := none }, { dst := some 38, op := Go.Op.extract (Go.Operand.tmp 29) 0, type := 85, pos := "ledger.go:227", after := #[{ on := 8, ground := Go.Ground.data }], guard := none }, { dst := some 39, op := Go.Op.extract (Go.Operand.tmp 29) 1, type := 57, pos := "ledger.go:227", after := #[{ on := 8, ground := Go.Ground.data }, { on := 12, ground := Go.Ground.gcOnly Go.Departure.lateStores }], guard := none }, { dst := some 8, op := Go.Op.alloc 85, type := 0, pos := "ledger.go:227", after := #[], guard := none }, { dst := none, op := Go.Op.store 85 (Go.Operand.tmp 8) (Go.Operand.tmp 38), type := 0, pos := "ledger.go:227", after := #[{ on := 11, ground := Go.Ground.data }, { on := 9, ground := Go.Ground.data }, { on := 7, ground := Go.Ground.chain }, { on := 0, ground := Go.Ground.phase }, { on := 1, ground := Go.Ground.phase }, { on := 2, ground := Go.Ground.phase }, { on := 3, ground := Go.Ground.phase }, { on := 4, ground := Go.Ground.phase }, { on := 5, ground := Go.Ground.phase }, { on := 6, ground := Go.Ground.phase }, { on := 7, ground := Go.Ground.phase }, { on := 8, ground := Go.Ground.phase }, { on := 9, ground := Go.Ground.phase }, { on := 10, ground := Go.Ground.textOnly Go.Departure.lateStores }, { on := 11, ground := Go.Ground.phase }], guard := none }, { dst := some 7, op := Go.Op.assign (Go.Operand.tmp 39), type := 57, pos := "ledger.go:227", after := #[{ on := 10, ground := Go.Ground.data }, { on := 12, ground := Go.Ground.chain }, { on := 0, ground := Go.Ground.phase }, { on := 1, ground := Go.Ground.phase }, { on := 2, ground := Go.Ground.phase }, { on := 3, ground := Go.Ground.phase }, { on := 4, ground := Go.Ground.phase }, { on := 5, ground := Go.Ground.phase }, { on := 6, ground := Go.Ground.phase }, { on := 7, ground := Go.Ground.phase }, { on := 8, ground := Go.Ground.phase }, { on := 9, ground := Go.Ground.phase }, { on := 10, ground := Go.Ground.phase }, { on := 11, ground := Go.Ground.phase }, { on := 12, ground := Go.Ground.phase }], guard := none }]) [some 30, some 31, some 32, some 33, some 34, some 35, some 36, some 37, some 29, some 38, some 39, some 8, none, some 7] (fun i => ([.is (.pointer (some ⟨q, 0, none⟩)), .is (.pointer (some ⟨q, 0, none⟩)), .is (.pointer (some ⟨q, 3, none⟩)), .is (.agg (vec f1)), .is (.pointer (some ⟨w.heap.size, 0, none⟩)), .is (.pointer (some ⟨w.heap.size, 4, none⟩)), .is (.slice A n c), .is (.tuple #[.agg (vec r2), v2]), .is (.tuple #[.agg (vec r2), v2]), .is (.agg (vec r2)), .is (v2), newF W.heap.size (.cells (vec (fun _ => 0)) 85 (0, 0)) (.cells (vec r2) 85 (0, 0)), doneF W.heap.size (.cells (vec (fun _ => 0)) 85 (0, 0)) (.cells (vec r2) 85 (0, 0)), .is (v2)] : List (FlwG _)).getD i .any) (by kernel_rfl) (by rw [hsz]; kernel_rfl) rfl ?_ ?_
  · refine ⟨step_freeG rfl (fun aF wF hs hb => ?_), ?_⟩
    · obtain ⟨x0, -⟩ := hs
      have e0 : aF.eval (.tmp 0) = .pointer (some ⟨q, 0, none⟩) := x0.trans h0
      exact opC_move e0 ⟨rfl, (relT _ _).refl wF⟩
    refine ⟨step_freeG rfl (fun aF wF hs hb => ?_), ?_⟩
    · obtain ⟨x0, -⟩ := hs
      have e0 : aF.eval (.tmp 30) = .pointer (some ⟨q, 0, none⟩) := x0
      refine opC_value (v := .pointer (some ⟨q, 0, none⟩)) ?_ ⟨rfl, (relT _ _).refl wF⟩
      have t0 := ev_of e0
      simp [execOp, go_sem, t0]
    refine ⟨step_freeG rfl (fun aF wF hs hb => ?_), ?_⟩
    · obtain ⟨x0, -⟩ := hs
      have e0 : aF.eval (.tmp 31) = .pointer (some ⟨q, 0, none⟩) := x0
      refine opC_value (v := .pointer (some ⟨q, 3, none⟩)) ?_ ⟨rfl, (relT _ _).refl wF⟩
      have t0 := ev_of e0
      simp [execOp, go_sem, t0]
    refine ⟨step_freeG rfl (fun aF wF hs hb => ?_), ?_⟩
    · obtain ⟨x0, -⟩ := hs
      have e0 : aF.eval (.tmp 32) = .pointer (some ⟨q, 3, none⟩) := x0
      exact opC_load e0 (LC wF (hb.below)) ⟨rfl, (relT _ _).refl wF⟩
    refine ⟨step_freeG rfl (fun aF wF hs hb => ?_), ?_⟩
    · obtain ⟨x0, -⟩ := hs
      have e0 : aF.eval (.tmp 3) = .pointer (some ⟨w.heap.size, 0, none⟩) := x0.trans h3
      refine opC_value (v := .pointer (some ⟨w.heap.size, 0, none⟩)) ?_ ⟨rfl, (relT _ _).refl wF⟩
      have t0 := ev_of e0
      simp [execOp, go_sem, t0]
    refine ⟨step_freeG rfl (fun aF wF hs hb => ?_), ?_⟩
    · obtain ⟨x0, -⟩ := hs
      have e0 : aF.eval (.tmp 34) = .pointer (some ⟨w.heap.size, 0, none⟩) := x0
      refine opC_value (v := .pointer (some ⟨w.heap.size, 4, none⟩)) ?_ ⟨rfl, (relT _ _).refl wF⟩
      have t0 := ev_of e0
      simp [execOp, go_sem, t0]
    refine ⟨step_freeG rfl (fun aF wF hs hb => ?_), ?_⟩
    · obtain ⟨x0, -⟩ := hs
      have e0 : aF.eval (.tmp 35) = .pointer (some ⟨w.heap.size, 4, none⟩) := x0
      exact opC_load e0 (LS wF (hb.below)) ⟨rfl, (relT _ _).refl wF⟩
    refine ⟨step_freeG rfl (fun aF wF hs hb => ?_), ?_⟩
    · obtain ⟨x0, x1, -⟩ := hs
      have e0 : aF.eval (.tmp 33) = .agg (vec f1) := x0
      have e1 : aF.eval (.tmp 36) = .slice A n c := x1
      exact opC_call (args := #[.agg (vec f1), .slice A n c]) (enters_of Tryz.func73 (by kernel_rfl) rfl) (by simp [e0, e1]) (CW wF hb.below) (fun _ h => ⟨rfl, TurnR.of_below h hb.size⟩)
    refine ⟨step_freeG rfl (fun aF wF hs hb => ?_), ?_⟩
    · obtain ⟨x0, -⟩ := hs
      have e0 : aF.eval (.tmp 37) = .tuple #[.agg (vec r2), v2] := x0
      exact opC_move e0 ⟨rfl, (relT _ _).refl wF⟩
    refine ⟨step_freeG rfl (fun aF wF hs hb => ?_), ?_⟩
    · obtain ⟨x0, -⟩ := hs
      have e0 : aF.eval (.tmp 29) = .tuple #[.agg (vec r2), v2] := x0
      refine opC_value (v := .agg (vec r2)) ?_ ⟨rfl, (relT _ _).refl wF⟩
      have t0 := ev_of e0
      simp [execOp, go_sem, t0]
    refine ⟨step_freeG rfl (fun aF wF hs hb => ?_), ?_⟩
    · obtain ⟨x0, -⟩ := hs
      have e0 : aF.eval (.tmp 29) = .tuple #[.agg (vec r2), v2] := x0
      refine opC_value (v := v2) ?_ ⟨rfl, (relT _ _).refl wF⟩
      have t0 := ev_of e0
      simp [execOp, go_sem, t0]
    refine ⟨step_freeG rfl (fun aF wF hs hb => ?_), ?_⟩
    · refine opC_alloc (cs := vec (fun _ => 0)) (by unfold vec; go_simp) ⟨⟨wF.heap.size, rfl, hb.size, .inl ?_⟩, TurnR.of_below (b_alloc wF _) hb.size⟩
      exact heap_alloc_new wF _
    refine ⟨step_freeG rfl (fun aF wF hs hb => ?_), ?_⟩
    · obtain ⟨x0, x1, -⟩ := hs
      obtain ⟨g, hg1, hg2, hg3⟩ : (newF W.heap.size (.cells (vec (fun _ => 0)) 85 (0, 0)) (.cells (vec r2) 85 (0, 0))).p (aF.eval (.tmp 8)) wF := x0
      have e1 : aF.eval (.tmp 38) = .agg (vec r2) := x1
      rcases hg3 with hg3 | hg3
      · exact opC_store hg1 e1 hg3 rfl (by kernel_rfl) (vec_one _) (fun w9 ho hv => ⟨⟨g, hg1, hg2, hv⟩, TurnR.only ho hg2 hg3 hv (.inr ⟨rfl, rfl⟩)⟩)
      · exact opC_store hg1 e1 hg3 rfl (by kernel_rfl) (vec_one _) (fun w9 ho hv => ⟨⟨g, hg1, hg2, hv⟩, TurnR.only ho hg2 hg3 hv (.inl rfl)⟩)
    refine ⟨step_freeG rfl (fun aF wF hs hb => ?_), ?_⟩
    · obtain ⟨x0, -⟩ := hs
      have e0 : aF.eval (.tmp 39) = v2 := x0
      exact opC_assign e0 ⟨rfl, (relT _ _).refl wF⟩
    exact trivial
  · intro u W' hf hn hb
    obtain ⟨g, hg1, hg2, hg3⟩ := hn 12 _ 8 rfl rfl
    have e1 := hf 13 7 rfl
    refine hQ u g W' hg2 hg3 hb.below ?_ e1
    have e2 : (putF u [some 30, some 31, some 32, some 33, some 34, some 35, some 36, some 37, some 29, some 38, some 39, some 8, none, some 7] 0 a0).eval (.tmp 8) = u 11 := by
      have hz : a0.tmps.size = 78 := hsz
      simp only [putF, Act.put, Act.eval]
      simp [hz]
    rw [← e2]
    exact hg1
end Go.Proofs.YtdnnkdldolhbpaaGreatDoor
