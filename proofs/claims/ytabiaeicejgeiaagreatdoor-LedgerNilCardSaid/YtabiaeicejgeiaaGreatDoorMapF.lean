/-
  Maps as functions of their keys. Conditions: a bundle on the key's type.
-/
import Derived.Maps.OwnSet
import Derived.Maps.RangeWalk
import Derived.Lib.Hide
namespace Go.Proofs.YtabiaeicejgeiaaGreatDoor
open Go.RowKit Go.Maps Go.MapKept Go.ChangeMaps
variable {κ : Type}
def upd [DecidableEq κ] (f : κ → Option Value) (x : κ) (v : Option Value) : κ → Option Value := fun y => if y = x then v else f y
theorem upd_same [DecidableEq κ] (f : κ → Option Value) (x : κ) (v : Option Value) : upd f x v x = v := by simp [upd]
theorem upd_other [DecidableEq κ] (f : κ → Option Value) {x y : κ} (h : y ≠ x) (v : Option Value) : upd f x v y = f y := by simp [upd, h]
structure KeyE (P : Program) (k : TypeId) (In : κ → Prop) (enc : κ → Value) : Prop where
  keyed : Keyed P k
  of : ∀ x, In x → ∃ l, keyOf P k (enc x) = some l
  inj : ∀ x y, enc x = enc y → x = y
def FitF (In : κ → Prop) (enc : κ → Value) (f : κ → Option Value) (es : Array MapEntry) (clock : Nat) : Prop :=
  (∀ e ∈ es.toList, ∃ x, In x ∧ e.key = enc x ∧ f x = some e.val) ∧ (∀ x v, f x = some v → ∃ e ∈ es.toList, e.key = enc x ∧ e.val = v) ∧ Stamped es clock
/-- Block b is the map f. -/
def MapF (w : World) (In : κ → Prop) (enc : κ → Value) (b : Nat) (f : κ → Option Value) : Prop :=
  ∃ es clock, w.heap[b]? = some (.map es clock) ∧ FitF In enc f es clock
variable {P : Program} {k t e : TypeId} {In : κ → Prop} {enc : κ → Value} {w : World} {b : Nat} {f : κ → Option Value}
theorem MapF.lt (h : MapF w In enc b f) : b < w.heap.size := by
  obtain ⟨es, clock, hb, _⟩ := h
  exact (Array.getElem?_eq_some_iff.1 hb).1
theorem MapF.keep {w' : World} (h : MapF w In enc b f) (hk : w'.heap[b]? = w.heap[b]?) : MapF w' In enc b f := by
  obtain ⟨es, clock, hb, F⟩ := h
  exact ⟨es, clock, hk.trans hb, F⟩
theorem MapF.below {w' : World} {B : Nat} (h : MapF w In enc b f) (hb : Below B w w') (hl : b < B) : MapF w' In enc b f := h.keep (hb.block b hl)
theorem MapF.new (w : World) (In : κ → Prop) (enc : κ → Value) : MapF (w.alloc (.map #[] 0)) In enc w.heap.size (fun _ => none) :=
  ⟨#[], 0, (MapKept.heap_alloc w _).1, by simp, by simp, stamped_empty 0⟩
theorem FitF.keys {es : Array MapEntry} {clock : Nat} (F : FitF In enc f es clock) (K : KeyE P k In enc) : ∀ e ∈ es.toList, ∃ l, keyOf P k e.key = some l := fun e he => by
  obtain ⟨x, hx, hk, _⟩ := F.1 e he
  rw [hk]
  exact K.of x hx
theorem MapF.look (h : MapF w In enc b f) (K : KeyE P k In enc) (ht : P.underlying t = some (.map k e)) {z : Value} (hz : (zeroValue e).run P w = .ok z w) {x : κ} (hx : In x) (c : Bool) :
    (Instr.lookup t (.map (some b)) (enc x) c).run P w = .ok (if c then .tuple #[(f x).getD z, .bool (f x).isSome] else (f x).getD z) w := by
  obtain ⟨es, clock, hb, F⟩ := h
  obtain ⟨l, hl⟩ := K.of x hx
  rcases K.keyed.find w hl es.toList (F.keys K) with ⟨h1, h2⟩ | ⟨j, e0, h1, h2, h3⟩
  · have hf : f x = none := by
      cases hf : f x with
      | none => rfl
      | some v =>
        obtain ⟨e, he, hk, _⟩ := F.2.1 x v hf
        exact absurd hk (h2 e he)
    rw [hf]
    cases c <;> simp [Instr.lookup, run_underlying ht, MapKept.run_getObj_map hb, K.keyed.check w _ hl, h1, hz, Result.andThen]
  · obtain ⟨y, _, hk, hv⟩ := F.1 e0 (List.mem_of_getElem? h2)
    have : y = x := K.inj _ _ (hk.symm.trans h3)
    rw [this] at hv
    rw [hv]
    cases c <;> simp [Instr.lookup, run_underlying ht, MapKept.run_getObj_map hb, K.keyed.check w _ hl, h1, Result.andThen]
theorem look_none (K : KeyE P k In enc) (ht : P.underlying t = some (.map k e)) {z : Value} (hz : (zeroValue e).run P w = .ok z w) {x : κ} (hx : In x) (c : Bool) :
    (Instr.lookup t (.map none) (enc x) c).run P w = .ok (if c then .tuple #[z, .bool false] else z) w := by
  obtain ⟨l, hl⟩ := K.of x hx
  exact Maps.look_nil c K.keyed ht hz hl
theorem MapF.store [DecidableEq κ] (h : MapF w In enc b f) (K : KeyE P k In enc) (ht : P.underlying t = some (.map k e)) {x : κ} (hx : In x) (v : Value) :
    ∃ w', (Instr.mapUpdate t (.map (some b)) (enc x) v).run P w = .ok () w' ∧ MapF w' In enc b (upd f x (some v)) ∧ w.mapTurned w' b := by
  obtain ⟨es, clock, hb, F⟩ := h
  obtain ⟨l, hl⟩ := K.of x hx
  rcases K.keyed.find w hl es.toList (F.keys K) with ⟨h1, h2⟩ | ⟨j, e0, h1, h2, h3⟩
  · refine ⟨setBlock w b (.map (es.push ⟨enc x, v, clock⟩) (clock + 1)), ?_, ⟨_, _, heap_setBlock_same hb _, fun e he => ?_, fun y u hy => ?_, stamped_push F.2.2 h2⟩, es, clock, _, _, hb, rfl⟩
    · simp [Instr.mapUpdate, run_underlying ht, MapKept.run_getObj_map hb, K.keyed.check w false hl, h1, MapKept.run_setObj_map _ hb, Result.andThen, setBlock]
    · simp only [Array.toList_push, List.mem_append, List.mem_singleton] at he
      rcases he with he | rfl
      · obtain ⟨y, hy, hk, hv⟩ := F.1 e he
        exact ⟨y, hy, hk, by rw [upd_other _ (fun e1 => h2 e he (by rw [hk, e1]))]; exact hv⟩
      · exact ⟨x, hx, rfl, upd_same _ _ _⟩
    · by_cases hyx : y = x
      · subst hyx
        rw [upd_same] at hy
        cases hy
        exact ⟨_, by rw [Array.toList_push]; exact List.mem_append_right _ (List.mem_singleton.2 rfl), rfl, rfl⟩
      · rw [upd_other _ hyx] at hy
        obtain ⟨e, he, hk, hv⟩ := F.2.1 y u hy
        exact ⟨e, by rw [Array.toList_push]; exact List.mem_append_left _ he, hk, hv⟩
  · have hj : es[j]? = some e0 := by simpa using h2
    have hm0 := List.mem_of_getElem? h2
    have hst := (stamped_iff es clock).1 F.2.2
    have hkeyf : ∀ e', es[j]? = some e' → ({ e' with key := enc x, val := v } : MapEntry).key = e'.key := fun e' he' => by rw [hj] at he'; cases he'; exact h3.symm
    have hlist : (es.modify j (fun e' => { e' with key := enc x, val := v })).toList = es.toList.set j { e0 with key := enc x, val := v } := by rw [Array.toList_modify, modify_eq_set _ _ _ _ h2]
    refine ⟨setBlock w b (.map (es.modify j (fun e' => { e' with key := enc x, val := v })) clock), ?_, ⟨_, _, heap_setBlock_same hb _, fun e he => ?_, fun y u hy => ?_, stamped_modify F.2.2 _ _ (fun _ _ => rfl) (fun e' _ he' => hkeyf e' he')⟩, es, clock, _, _, hb, rfl⟩
    · simp [Instr.mapUpdate, run_underlying ht, MapKept.run_getObj_map hb, K.keyed.check w false hl, h1, hj, h3, K.keyed.stays w hl, MapKept.run_setObj_map _ hb, Result.andThen, setBlock]
    · rw [hlist] at he
      rcases List.mem_or_eq_of_mem_set he with he' | rfl
      · obtain ⟨i, hi, ex⟩ := List.getElem_of_mem he
        rw [List.getElem_set] at ex
        by_cases hij : j = i
        · rw [if_pos hij] at ex
          subst ex
          exact ⟨x, hx, rfl, upd_same _ _ _⟩
        · rw [if_neg hij] at ex
          obtain ⟨y, hy, hk, hv⟩ := F.1 e he'
          refine ⟨y, hy, hk, ?_⟩
          rw [upd_other]
          · exact hv
          · rintro rfl
            have h4 : e = e0 := entry_eq_of_key hst.2.2 he' hm0 (hk.trans h3.symm)
            have hi' : i < es.toList.length := by simpa using hi
            have h5 := (List.pairwise_iff_getElem.1 hst.2.2)
            have hjl : j < es.toList.length := (List.getElem?_eq_some_iff.1 h2).1
            have e5 : es.toList[j] = e0 := (List.getElem?_eq_some_iff.1 h2).2
            rcases Nat.lt_or_gt_of_ne hij with h6 | h6
            · exact h5 j i hjl hi' h6 (by rw [ex, h4, e5])
            · exact h5 i j hi' hjl h6 (by rw [ex, h4, e5])
      · exact ⟨x, hx, rfl, upd_same _ _ _⟩
    · rw [hlist]
      by_cases hyx : y = x
      · subst hyx
        rw [upd_same] at hy
        cases hy
        exact ⟨{ e0 with key := enc y, val := v }, List.mem_iff_getElem.2 ⟨j, by simpa using (List.getElem?_eq_some_iff.1 h2).1, by simp⟩, rfl, rfl⟩
      · rw [upd_other _ hyx] at hy
        obtain ⟨e, he, hk, hv⟩ := F.2.1 y u hy
        obtain ⟨i, hi, ex⟩ := List.getElem_of_mem he
        have hij : j ≠ i := by
          rintro rfl
          have e5 : es.toList[j] = e0 := (List.getElem?_eq_some_iff.1 h2).2
          exact hyx (K.inj _ _ (by rw [← hk, ← ex, e5, h3]))
        exact ⟨e, List.mem_iff_getElem.2 ⟨i, by simpa using hi, by rw [List.getElem_set, if_neg hij, ex]⟩, hk, hv⟩
theorem MapF.drop [DecidableEq κ] (h : MapF w In enc b f) (K : KeyE P k In enc) (ht : P.underlying t = some (.map k e)) {x : κ} (hx : In x) (ty : TypeId) :
    ∃ w', (Builtin.delete_ #[t, k] ty #[.map (some b), enc x]).run P w = .ok (.tuple #[]) w' ∧ MapF w' In enc b (upd f x none) ∧ w.mapTurned w' b := by
  obtain ⟨es, clock, hb, F⟩ := h
  obtain ⟨l, hl⟩ := K.of x hx
  have hst := (stamped_iff es clock).1 F.2.2
  rcases K.keyed.find w hl es.toList (F.keys K) with ⟨h1, h2⟩ | ⟨j, e0, h1, h2, h3⟩
  · refine ⟨setBlock w b (.map es clock), ?_, ⟨es, clock, heap_setBlock_same hb _, fun e he => ?_, fun y u hy => ?_, F.2.2⟩, es, clock, _, _, hb, rfl⟩
    · simp [Builtin.delete_, run_underlying ht, MapKept.run_getObj_map hb, K.keyed.check w _ hl, h1, MapKept.run_setObj_map _ hb, Result.andThen, setBlock]
    · obtain ⟨y, hy, hk, hv⟩ := F.1 e he
      exact ⟨y, hy, hk, by rw [upd_other _ (fun e1 => h2 e he (by rw [hk, e1]))]; exact hv⟩
    · by_cases hyx : y = x
      · subst hyx
        rw [upd_same] at hy
        cases hy
      · rw [upd_other _ hyx] at hy
        exact F.2.1 y u hy
  · have hjl : j < es.toList.length := (List.getElem?_eq_some_iff.1 h2).1
    have hjs : j < es.size := by simpa using hjl
    have hsub : (es.eraseIdxIfInBounds j).toList = es.toList.eraseIdx j := by
      unfold Array.eraseIdxIfInBounds
      rw [dif_pos hjs]
      simp
    have e5 : es.toList[j] = e0 := (List.getElem?_eq_some_iff.1 h2).2
    refine ⟨setBlock w b (.map (es.eraseIdxIfInBounds j) clock), ?_, ⟨_, _, heap_setBlock_same hb _, fun e he => ?_, fun y u hy => ?_, stamped_erase F.2.2 j⟩, es, clock, _, _, hb, rfl⟩
    · simp [Builtin.delete_, run_underlying ht, MapKept.run_getObj_map hb, K.keyed.check w _ hl, h1, MapKept.run_setObj_map _ hb, Result.andThen, setBlock]
    · rw [hsub, List.mem_eraseIdx_iff_getElem?] at he
      obtain ⟨i, hne, hi⟩ := he
      obtain ⟨y, hy, hk, hv⟩ := F.1 e (List.mem_of_getElem? hi)
      refine ⟨y, hy, hk, ?_⟩
      rw [upd_other]
      · exact hv
      · rintro rfl
        have hil : i < es.toList.length := (List.getElem?_eq_some_iff.1 hi).1
        have e6 : es.toList[i] = e := (List.getElem?_eq_some_iff.1 hi).2
        have h4 : e = e0 := entry_eq_of_key hst.2.2 (List.mem_of_getElem? hi) (List.mem_of_getElem? h2) (hk.trans h3.symm)
        have h5 := (List.pairwise_iff_getElem.1 hst.2.2)
        rcases Nat.lt_or_gt_of_ne hne with h6 | h6
        · exact h5 i j hil hjl h6 (by rw [e6, e5, h4])
        · exact h5 j i hjl hil h6 (by rw [e6, e5, h4])
    · by_cases hyx : y = x
      · subst hyx
        rw [upd_same] at hy
        cases hy
      · rw [upd_other _ hyx] at hy
        obtain ⟨e, he, hk, hv⟩ := F.2.1 y u hy
        refine ⟨e, ?_, hk, hv⟩
        rw [hsub, List.mem_eraseIdx_iff_getElem?]
        obtain ⟨i, hi⟩ := List.getElem?_of_mem he
        refine ⟨i, fun e1 => hyx ?_, hi⟩
        rw [e1, h2] at hi
        cases hi
        exact K.inj _ _ (hk.symm.trans h3)
section
variable {ops : Array Oper} {rest : List Oper} {o : Oper} {a : Act} {Q : Exit → Act → World → Prop}
theorem wpl_look (c : Bool) (hg : o.guard = none) (m x : Operand) (hop : o.op = Op.lookup t m x c) (K : KeyE P k In enc) (ht : P.underlying t = some (.map k e)) {z : Value} (hz : (zeroValue e).run P w = .ok z w)
    (hm : a.eval m = .map (some b)) (h : MapF w In enc b f) (key : κ) (hkey : In key) (hx : a.eval x = enc key) (v : Value) (hv : (f key).getD z = v) (g : Bool) (hs : (f key).isSome = g)
    (hK : wpList P ops Q rest (a.put o.dst (if c then .tuple #[v, .bool g] else v)) w) : wpList P ops Q (o :: rest) a w := by
  refine wpList_plain hg fun K' hK' => ?_
  have hrun := h.look K ht hz hkey c
  rw [hv, hs] at hrun
  unfold Oper.wp
  simp [execOp, hop, hm, hx, hrun, Result.andThen]
  exact hK' _ _ hK
theorem wpl_look_none (c : Bool) (hg : o.guard = none) (m x : Operand) (hop : o.op = Op.lookup t m x c) (K : KeyE P k In enc) (ht : P.underlying t = some (.map k e)) {z : Value} (hz : (zeroValue e).run P w = .ok z w)
    (hm : a.eval m = .map none) (key : κ) (hkey : In key) (hx : a.eval x = enc key)
    (hK : wpList P ops Q rest (a.put o.dst (if c then .tuple #[z, .bool false] else z)) w) : wpList P ops Q (o :: rest) a w := by
  refine wpList_plain hg fun K' hK' => ?_
  have hrun := look_none K ht hz hkey c
  unfold Oper.wp
  simp [execOp, hop, hm, hx, hrun, Result.andThen]
  exact hK' _ _ hK
theorem wpl_store [DecidableEq κ] (hg : o.guard = none) (m x v : Operand) (hop : o.op = Op.mapUpdate t m x v) (K : KeyE P k In enc) (ht : P.underlying t = some (.map k e))
    (hm : a.eval m = .map (some b)) (h : MapF w In enc b f) (key : κ) (hkey : In key) (hx : a.eval x = enc key) (val : Value) (hv : a.eval v = val)
    (hK : ∀ w', MapF w' In enc b (upd f key (some val)) → w.mapTurned w' b → wpList P ops Q rest (a.put o.dst undef) w') : wpList P ops Q (o :: rest) a w := by
  refine wpList_plain hg fun K' hK' => ?_
  obtain ⟨w', hrun, r1, r2⟩ := h.store K ht hkey val
  unfold Oper.wp
  simp [execOp, hop, hm, hx, hv, hrun, Result.andThen]
  exact hK' _ _ (hK w' r1 r2)
theorem wpl_drop [DecidableEq κ] (hg : o.guard = none) (m x : Operand) (hop : o.op = Op.call { callee := Callee.builtin Builtin.delete, args := #[m, x], argTypes := #[t, k] }) (K : KeyE P k In enc) (ht : P.underlying t = some (.map k e))
    (hm : a.eval m = .map (some b)) (h : MapF w In enc b f) (key : κ) (hkey : In key) (hx : a.eval x = enc key)
    (hK : ∀ w', MapF w' In enc b (upd f key none) → w.mapTurned w' b → wpList P ops Q rest (a.put o.dst (.tuple #[])) w') : wpList P ops Q (o :: rest) a w := by
  refine wpList_plain hg fun K' hK' => ?_
  obtain ⟨w', hrun, r1, r2⟩ := h.drop K ht hkey o.type
  unfold Oper.wp
  simp [execOp, hop, resolve, invoke, builtin, hm, hx, hrun, Result.andThen]
  exact hK' _ _ (hK w' r1 r2)
end
end Go.Proofs.YtabiaeicejgeiaaGreatDoor
