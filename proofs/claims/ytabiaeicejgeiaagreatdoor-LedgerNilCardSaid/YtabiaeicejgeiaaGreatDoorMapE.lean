/-
  'm[k], x = ..': the entry first, its store behind. Conditions: a bundle on the key's type.
-/
import Derived.Test.YtabiaeicejgeiaaGreatDoorMapF
import Derived.Test.YtabiaeicejgeiaaGreatDoorFlowG
namespace Go.Proofs.YtabiaeicejgeiaaGreatDoor
open Go.RowKit Go.Maps Go.MapKept Go.ChangeMaps
variable {κ : Type} {P : Program} {k t e : TypeId} {In : κ → Prop} {enc : κ → Value} {w : World} {b : Nat} {f : κ → Option Value}
theorem FitF.push [DecidableEq κ] {es : Array MapEntry} {clock : Nat} (F : FitF In enc f es clock) (_ : KeyE P k In enc) {x : κ} (hx : In x) (v : Value) (h2 : ∀ e ∈ es.toList, e.key ≠ enc x) : FitF In enc (upd f x (some v)) (es.push ⟨enc x, v, clock⟩) (clock + 1) := by
  refine ⟨fun e he => ?_, fun y u hy => ?_, stamped_push F.2.2 h2⟩
  · simp only [Array.toList_push, List.mem_append, List.mem_singleton] at he
    rcases he with he | rfl
    · obtain ⟨y, hy, hk, hv⟩ := F.1 e he
      exact ⟨y, hy, hk, by rw [upd_other _ (fun e1 => h2 e he (by rw [hk, e1]))]; exact hv⟩
    · exact ⟨x, hx, rfl, upd_same _ _ _⟩
  · by_cases hyx : y = x
    · subst hyx
      rw [upd_same] at hy
      cases hy
      exact ⟨_, by rw [Array.toList_push]; exact List.mem_append_right _ (List.mem_singleton.2 rfl), rfl, rfl⟩
    · rw [upd_other _ hyx] at hy
      obtain ⟨e, he, hk, hv⟩ := F.2.1 y u hy
      exact ⟨e, by rw [Array.toList_push]; exact List.mem_append_left _ he, hk, hv⟩
theorem FitF.mod [DecidableEq κ] {es : Array MapEntry} {clock : Nat} (F : FitF In enc f es clock) (K : KeyE P k In enc) {x : κ} (hx : In x) (v : Value) {j : Nat} {e0 : MapEntry} (h2 : es.toList[j]? = some e0) (h3 : e0.key = enc x) :
    FitF In enc (upd f x (some v)) (es.modify j (fun e' => { e' with key := enc x, val := v })) clock := by
  have hj : es[j]? = some e0 := by simpa using h2
  have hm0 := List.mem_of_getElem? h2
  have hst := (stamped_iff es clock).1 F.2.2
  have hkeyf : ∀ e', es[j]? = some e' → ({ e' with key := enc x, val := v } : MapEntry).key = e'.key := fun e' he' => by rw [hj] at he'; cases he'; exact h3.symm
  have hlist : (es.modify j (fun e' => { e' with key := enc x, val := v })).toList = es.toList.set j { e0 with key := enc x, val := v } := by rw [Array.toList_modify, modify_eq_set _ _ _ _ h2]
  have hjl : j < es.toList.length := (List.getElem?_eq_some_iff.1 h2).1
  have e5 : es.toList[j] = e0 := (List.getElem?_eq_some_iff.1 h2).2
  refine ⟨fun e he => ?_, fun y u hy => ?_, stamped_modify F.2.2 _ _ (fun _ _ => rfl) (fun e' _ he' => hkeyf e' he')⟩
  · rw [hlist] at he
    rcases List.mem_or_eq_of_mem_set he with he' | rfl
    · obtain ⟨i, hi, ex⟩ := List.getElem_of_mem he
      rw [List.getElem_set] at ex
      by_cases hij : j = i
      · rw [if_pos hij] at ex
        subst ex
        exact ⟨x, hx, rfl, upd_same _ _ _⟩
      · rw [if_neg hij] at ex
        obtain ⟨y, hy, hk, hv⟩ := F.1 e he'
        refine ⟨y, hy, hk, ?_⟩
        rw [upd_other]
        · exact hv
        · rintro rfl
          have h4 : e = e0 := entry_eq_of_key hst.2.2 he' hm0 (hk.trans h3.symm)
          have hi' : i < es.toList.length := by simpa using hi
          have h5 := (List.pairwise_iff_getElem.1 hst.2.2)
          rcases Nat.lt_or_gt_of_ne hij with h6 | h6
          · exact h5 j i hjl hi' h6 (by rw [ex, h4, e5])
          · exact h5 i j hi' hjl h6 (by rw [ex, h4, e5])
    · exact ⟨x, hx, rfl, upd_same _ _ _⟩
  · rw [hlist]
    by_cases hyx : y = x
    · subst hyx
      rw [upd_same] at hy
      cases hy
      exact ⟨{ e0 with key := enc y, val := v }, List.mem_iff_getElem.2 ⟨j, by simpa using hjl, by simp⟩, rfl, rfl⟩
    · rw [upd_other _ hyx] at hy
      obtain ⟨e, he, hk, hv⟩ := F.2.1 y u hy
      obtain ⟨i, hi, ex⟩ := List.getElem_of_mem he
      have hij : j ≠ i := by
        rintro rfl
        exact hyx (K.inj _ _ (by rw [← hk, ← ex, e5, h3]))
      exact ⟨e, List.mem_iff_getElem.2 ⟨i, by simpa using hi, by rw [List.getElem_set, if_neg hij, ex]⟩, hk, hv⟩
theorem find_none (K : KeyE P k In enc) {es : Array MapEntry} {clock : Nat} (F : FitF In enc f es clock) {x : κ} (hx : In x) (h2 : ∀ e ∈ es.toList, e.key ≠ enc x) (w' : World) : (Instr.findKey k (enc x) es.toList).run P w' = .ok none w' := by
  obtain ⟨l, hl⟩ := K.of x hx
  rcases K.keyed.find w' hl es.toList (F.keys K) with ⟨h1, _⟩ | ⟨j, e0, _, h3, h4⟩
  · exact h1
  · exact absurd h4 (h2 _ (List.mem_of_getElem? h3))
theorem find_some (K : KeyE P k In enc) {es : Array MapEntry} {clock : Nat} (F : FitF In enc f es clock) {x : κ} (hx : In x) {j : Nat} {e0 : MapEntry} (h2 : es.toList[j]? = some e0) (h3 : e0.key = enc x) (w' : World) : (Instr.findKey k (enc x) es.toList).run P w' = .ok (some (j, e0.val)) w' := by
  obtain ⟨l, hl⟩ := K.of x hx
  have hst := (stamped_iff es clock).1 F.2.2
  rcases K.keyed.find w' hl es.toList (F.keys K) with ⟨_, h4⟩ | ⟨i, e1, h4, h5, h6⟩
  · exact absurd h3 (h4 _ (List.mem_of_getElem? h2))
  · have he : e1 = e0 := entry_eq_of_key hst.2.2 (List.mem_of_getElem? h5) (List.mem_of_getElem? h2) (h6.trans h3.symm)
    have hij : i = j := by
      have hp := (List.pairwise_iff_getElem.1 hst.2.2)
      have hjl : j < es.toList.length := (List.getElem?_eq_some_iff.1 h2).1
      have hil : i < es.toList.length := (List.getElem?_eq_some_iff.1 h5).1
      have ej : es.toList[j] = e0 := (List.getElem?_eq_some_iff.1 h2).2
      have ei : es.toList[i] = e1 := (List.getElem?_eq_some_iff.1 h5).2
      rcases Nat.lt_trichotomy i j with h7 | h7 | h7
      · exact absurd (by rw [ei, ej, he]) (hp i j hil hjl h7)
      · exact h7
      · exact absurd (by rw [ei, ej, he]) (hp j i hjl hil h7)
    rw [← hij, ← he]
    exact h4
def goI (n : Nat) : Value := .int .i64 (n : Int)
theorem modify_same {es : Array MapEntry} {j : Nat} {e0 : MapEntry} {g : MapEntry → MapEntry} (h : es.toList[j]? = some e0) (hg : g e0 = e0) : es.modify j g = es := by
  have hj : es[j]? = some e0 := by simpa using h
  have hjl : j < es.size := (Array.getElem?_eq_some_iff.1 hj).1
  have hje : es[j] = e0 := (Array.getElem?_eq_some_iff.1 hj).2
  apply Array.ext
  · simp
  · intro i h1 h4
    rw [Array.getElem_modify]
    by_cases hi : j = i
    · subst hi
      rw [if_pos rfl, hje, hg]
    · rw [if_neg hi]
theorem entry_at (K : KeyE P k In enc) (ht : P.underlying t = some (.map k e)) {es : Array MapEntry} {clock : Nat} (F : FitF In enc f es clock) {x : κ} (hx : In x) {j : Nat} {e0 : MapEntry} (h2 : es.toList[j]? = some e0) (h3 : e0.key = enc x) (w' : World) (hb' : w'.heap[b]? = some (.map es clock)) :
    (Instr.mapEntry t (.map (some b)) (enc x)).run P w' = .ok (.tuple #[e0.val, goI e0.born]) (setBlock w' b (.map es clock)) := by
  obtain ⟨l, hl⟩ := K.of x hx
  have hj : es[j]? = some e0 := by simpa using h2
  have hm := modify_same (g := fun e => { key := enc x, val := e.val, born := e.born }) h2 (by rw [← h3])
  simp [Instr.mapEntry, run_underlying ht, MapKept.run_getObj_map hb', K.keyed.check w' false hl, find_some K F hx h2 h3 w', hj, h3, K.keyed.stays w' hl, MapKept.run_setObj_map _ hb', Result.andThen, setBlock, goI]
  rw [hm]
  exact ⟨rfl, rfl⟩
theorem estore_at {es : Array MapEntry} {clock : Nat} (F : FitF In enc f es clock) {x : κ} {j : Nat} {e0 : MapEntry} (h2 : es.toList[j]? = some e0) (h3 : e0.key = enc x) (val : Value) (w' : World) (hb' : w'.heap[b]? = some (.map es clock)) :
    (Instr.entryStore t (.map (some b)) (goI e0.born) val).run P w' = .ok () (setBlock w' b (.map (es.modify j (fun e' => { e' with key := enc x, val := val })) clock)) := by
  have hst := (stamped_iff es clock).1 F.2.2
  have hj : es[j]? = some e0 := by simpa using h2
  have hjl : j < es.size := (Array.getElem?_eq_some_iff.1 hj).1
  have hje : es[j] = e0 := (Array.getElem?_eq_some_iff.1 hj).2
  have hidx : es.findIdx? (fun e => ((e.born : Int) == (e0.born : Int))) = some j := by
    refine Array.findIdx?_eq_some_iff_getElem.2 ⟨hjl, by simp [hje], fun i hi => ?_⟩
    have hi2 : i < es.size := by omega
    have h1 := hst.2.1
    have h2' := List.pairwise_iff_getElem.1 h1 i j (by simpa using hi2) (by simpa using hjl) hi
    simp [hje] at h2'
    simp
    omega
  simp [Instr.entryStore, MapKept.run_getObj_map hb', asInt, asIntOf, goI, hidx, MapKept.run_setObj_map _ hb', Result.andThen, setBlock]
  congr 2
  apply Array.ext
  · simp
  · intro i h1 h4
    rw [Array.getElem_modify, Array.getElem_modify]
    by_cases hi : j = i
    · subst hi
      rw [if_pos rfl, if_pos rfl, hje, ← h3]
    · rw [if_neg hi, if_neg hi]
/-- What 'm[k], .. = v, ..' does to the block, step by step, however often. -/
structure EntryOf (P : Program) (t : TypeId) (In : κ → Prop) (enc : κ → Value) (b : Nat) (key : Value) (val : Value) (f : κ → Option Value) (X0 X1 X2 : Obj) (born : Nat) : Prop where
  e0 : ∀ w' : World, w'.heap[b]? = some X0 → ∃ v, (Instr.mapEntry t (.map (some b)) key).run P w' = .ok (.tuple #[v, goI born]) (setBlock w' b X1)
  e1 : ∀ w' : World, w'.heap[b]? = some X1 → ∃ v, (Instr.mapEntry t (.map (some b)) key).run P w' = .ok (.tuple #[v, goI born]) (setBlock w' b X1)
  e2 : ∀ w' : World, w'.heap[b]? = some X2 → ∃ v, (Instr.mapEntry t (.map (some b)) key).run P w' = .ok (.tuple #[v, goI born]) (setBlock w' b X2)
  s1 : ∀ w' : World, w'.heap[b]? = some X1 → (Instr.entryStore t (.map (some b)) (goI born) val).run P w' = .ok () (setBlock w' b X2)
  s2 : ∀ w' : World, w'.heap[b]? = some X2 → (Instr.entryStore t (.map (some b)) (goI born) val).run P w' = .ok () (setBlock w' b X2)
  done : ∀ w' : World, w'.heap[b]? = some X2 → MapF w' In enc b f
  m0 : ∃ es c, X0 = .map es c
  m1 : ∃ es c, X1 = .map es c
  m2 : ∃ es c, X2 = .map es c
theorem entry_rest [DecidableEq κ] (K : KeyE P k In enc) (ht : P.underlying t = some (.map k e)) {x : κ} (hx : In x) (val : Value) {X0 : Obj} {es1 : Array MapEntry} {c1 : Nat} {f1 : κ → Option Value} (F1 : FitF In enc f1 es1 c1) {j : Nat} {e1 : MapEntry} (h2 : es1.toList[j]? = some e1) (h3 : e1.key = enc x)
    (hm : ∃ es c, X0 = .map es c) (h0 : ∀ w' : World, w'.heap[b]? = some X0 → ∃ v, (Instr.mapEntry t (.map (some b)) (enc x)).run P w' = .ok (.tuple #[v, goI e1.born]) (setBlock w' b (.map es1 c1))) :
    EntryOf P t In enc b (enc x) val (upd f1 x (some val)) X0 (.map es1 c1) (.map (es1.modify j (fun e' => { e' with key := enc x, val := val })) c1) e1.born := by
  have F2 := F1.mod K hx val h2 h3
  have h22 : (es1.modify j (fun e' => { e' with key := enc x, val := val })).toList[j]? = some { e1 with key := enc x, val := val } := by
    have hjl := (List.getElem?_eq_some_iff.1 h2).1
    rw [Array.toList_modify, modify_eq_set _ _ _ _ h2, List.getElem?_set_self (by simpa using hjl)]
  refine ⟨h0, fun w' hb => ⟨_, entry_at K ht F1 hx h2 h3 w' hb⟩, fun w' hb => ⟨_, entry_at K ht F2 hx h22 rfl w' hb⟩, fun w' hb => estore_at F1 h2 h3 val w' hb, fun w' hb => ?_, fun w' hb => ⟨_, _, hb, F2⟩, hm, ⟨_, _, rfl⟩, ⟨_, _, rfl⟩⟩
  have := estore_at (P := P) (t := t) F2 h22 rfl val w' hb
  rw [modify_same h22 rfl] at this
  exact this
theorem upd_upd [DecidableEq κ] (f : κ → Option Value) (x : κ) (u v : Option Value) : upd (upd f x u) x v = upd f x v := by
  funext y
  unfold upd
  split <;> rfl
theorem MapF.entry [DecidableEq κ] (h : MapF w In enc b f) (K : KeyE P k In enc) (ht : P.underlying t = some (.map k e)) {z : Value} (hz : ∀ w', (zeroValue e).run P w' = .ok z w') {x : κ} (hx : In x) (val : Value) :
    ∃ X0 X1 X2 born, w.heap[b]? = some X0 ∧ EntryOf P t In enc b (enc x) val (upd f x (some val)) X0 X1 X2 born := by
  obtain ⟨es, clock, hb, F⟩ := h
  obtain ⟨l, hl⟩ := K.of x hx
  rcases K.keyed.find w hl es.toList (F.keys K) with ⟨_, h2⟩ | ⟨j, e0, _, h2, h3⟩
  · have F1 := F.push K hx z h2
    have h22 : (es.push ⟨enc x, z, clock⟩).toList[es.size]? = some ⟨enc x, z, clock⟩ := by simp
    have := entry_rest (b := b) (t := t) (X0 := .map es clock) K ht hx val F1 h22 rfl ⟨_, _, rfl⟩ (fun w' hb' => ⟨z, by
      simp [Instr.mapEntry, run_underlying ht, MapKept.run_getObj_map hb', K.keyed.check w' false hl, find_none K F hx h2 w', hz, MapKept.run_setObj_map _ hb', Result.andThen, setBlock, goI]
      rfl⟩)
    rw [upd_upd] at this
    exact ⟨_, _, _, _, hb, this⟩
  · exact ⟨_, _, _, _, hb, entry_rest K ht hx val F h2 h3 ⟨_, _, rfl⟩ (fun w' hb' => ⟨_, entry_at K ht F hx h2 h3 w' hb'⟩)⟩
end Go.Proofs.YtabiaeicejgeiaaGreatDoor
