/-
Maps as functions of their keys. Conditions: a bundle on the key's type.
A journal of lines: which line of a key is live, what the sums are.
The ledger's keys, and how it lies in memory. No condition.
A ledger stays what it is while its blocks do. No condition.
The ledger's small calls: place, Len, New, sums.of, Balance, Control, fault. Conditions: the ledger is there.
-/
import Derived.Maps.OwnSet
import Derived.Maps.RangeWalk
import Derived.Lib.Hide
import Derived.Test.YtdnnkdldolhbpaaGreatDoorChHX9
import Derived.Test.YtdnnkdldolhbpaaGreatDoorShutAX9
import Derived.DeepKeys4
import Derived.Lib.QuietBelow
import Derived.BigQuiet
import Derived.Deep.CutBlock
namespace Go.Proofs.YtdnnkdldolhbpaaGreatDoor
open Go.RowKit Go.Maps Go.MapKept Go.ChangeMaps
variable {κ : Type}
def upd [DecidableEq κ] (f : κ → Option Value) (x : κ) (v : Option Value) : κ → Option Value := fun y => if y = x then v else f y
theorem upd_same [DecidableEq κ] (f : κ → Option Value) (x : κ) (v : Option Value) : upd f x v x = v := by simp [upd]
theorem upd_other [DecidableEq κ] (f : κ → Option Value) {x y : κ} (h : y ≠ x) (v : Option Value) : upd f x v y = f y := by simp [upd, h]
structure KeyE (P : Program) (k : TypeId) (In : κ → Prop) (enc : κ → Value) : Prop where
  keyed : Keyed P k
  of : ∀ x, In x → ∃ l, keyOf P k (enc x) = some l
  inj : ∀ x y, enc x = enc y → x = y
def FitF (In : κ → Prop) (enc : κ → Value) (f : κ → Option Value) (es : Array MapEntry) (clock : Nat) : Prop :=
  (∀ e ∈ es.toList, ∃ x, In x ∧ e.key = enc x ∧ f x = some e.val) ∧ (∀ x v, f x = some v → ∃ e ∈ es.toList, e.key = enc x ∧ e.val = v) ∧ Stamped es clock
/-- Block b is the map f. -/
def MapF (w : World) (In : κ → Prop) (enc : κ → Value) (b : Nat) (f : κ → Option Value) : Prop :=
  ∃ es clock, w.heap[b]? = some (.map es clock) ∧ FitF In enc f es clock
variable {P : Program} {k t e : TypeId} {In : κ → Prop} {enc : κ → Value} {w : World} {b : Nat} {f : κ → Option Value}
theorem MapF.lt (h : MapF w In enc b f) : b < w.heap.size := by
  obtain ⟨es, clock, hb, _⟩ := h
  exact (Array.getElem?_eq_some_iff.1 hb).1
theorem MapF.keep {w' : World} (h : MapF w In enc b f) (hk : w'.heap[b]? = w.heap[b]?) : MapF w' In enc b f := by
  obtain ⟨es, clock, hb, F⟩ := h
  exact ⟨es, clock, hk.trans hb, F⟩
theorem MapF.below {w' : World} {B : Nat} (h : MapF w In enc b f) (hb : Below B w w') (hl : b < B) : MapF w' In enc b f := h.keep (hb.block b hl)
theorem MapF.new (w : World) (In : κ → Prop) (enc : κ → Value) : MapF (w.alloc (.map #[] 0)) In enc w.heap.size (fun _ => none) :=
  ⟨#[], 0, (MapKept.heap_alloc w _).1, by simp, by simp, stamped_empty 0⟩
theorem FitF.keys {es : Array MapEntry} {clock : Nat} (F : FitF In enc f es clock) (K : KeyE P k In enc) : ∀ e ∈ es.toList, ∃ l, keyOf P k e.key = some l := fun e he => by
  obtain ⟨x, hx, hk, _⟩ := F.1 e he
  rw [hk]
  exact K.of x hx
theorem MapF.look (h : MapF w In enc b f) (K : KeyE P k In enc) (ht : P.underlying t = some (.map k e)) {z : Value} (hz : (zeroValue e).run P w = .ok z w) {x : κ} (hx : In x) (c : Bool) :
    (Instr.lookup t (.map (some b)) (enc x) c).run P w = .ok (if c then .tuple #[(f x).getD z, .bool (f x).isSome] else (f x).getD z) w := by
  obtain ⟨es, clock, hb, F⟩ := h
  obtain ⟨l, hl⟩ := K.of x hx
  rcases K.keyed.find w hl es.toList (F.keys K) with ⟨h1, h2⟩ | ⟨j, e0, h1, h2, h3⟩
  · have hf : f x = none := by
      cases hf : f x with
      | none => rfl
      | some v =>
        obtain ⟨e, he, hk, _⟩ := F.2.1 x v hf
        exact absurd hk (h2 e he)
    rw [hf]
    cases c <;> simp [Instr.lookup, run_underlying ht, MapKept.run_getObj_map hb, K.keyed.check w _ hl, h1, hz, Result.andThen]
  · obtain ⟨y, _, hk, hv⟩ := F.1 e0 (List.mem_of_getElem? h2)
    have : y = x := K.inj _ _ (hk.symm.trans h3)
    rw [this] at hv
    rw [hv]
    cases c <;> simp [Instr.lookup, run_underlying ht, MapKept.run_getObj_map hb, K.keyed.check w _ hl, h1, Result.andThen]
theorem look_none (K : KeyE P k In enc) (ht : P.underlying t = some (.map k e)) {z : Value} (hz : (zeroValue e).run P w = .ok z w) {x : κ} (hx : In x) (c : Bool) :
    (Instr.lookup t (.map none) (enc x) c).run P w = .ok (if c then .tuple #[z, .bool false] else z) w := by
  obtain ⟨l, hl⟩ := K.of x hx
  exact Maps.look_nil c K.keyed ht hz hl
theorem MapF.store [DecidableEq κ] (h : MapF w In enc b f) (K : KeyE P k In enc) (ht : P.underlying t = some (.map k e)) {x : κ} (hx : In x) (v : Value) :
    ∃ w', (Instr.mapUpdate t (.map (some b)) (enc x) v).run P w = .ok () w' ∧ MapF w' In enc b (upd f x (some v)) ∧ w.mapTurned w' b := by
  obtain ⟨es, clock, hb, F⟩ := h
  obtain ⟨l, hl⟩ := K.of x hx
  rcases K.keyed.find w hl es.toList (F.keys K) with ⟨h1, h2⟩ | ⟨j, e0, h1, h2, h3⟩
  · refine ⟨setBlock w b (.map (es.push ⟨enc x, v, clock⟩) (clock + 1)), ?_, ⟨_, _, heap_setBlock_same hb _, fun e he => ?_, fun y u hy => ?_, stamped_push F.2.2 h2⟩, es, clock, _, _, hb, rfl⟩
    · simp [Instr.mapUpdate, run_underlying ht, MapKept.run_getObj_map hb, K.keyed.check w false hl, h1, MapKept.run_setObj_map _ hb, Result.andThen, setBlock]
    · simp only [Array.toList_push, List.mem_append, List.mem_singleton] at he
      rcases he with he | rfl
      · obtain ⟨y, hy, hk, hv⟩ := F.1 e he
        exact ⟨y, hy, hk, by rw [upd_other _ (fun e1 => h2 e he (by rw [hk, e1]))]; exact hv⟩
      · exact ⟨x, hx, rfl, upd_same _ _ _⟩
    · by_cases hyx : y = x
      · subst hyx
        rw [upd_same] at hy
        cases hy
        exact ⟨_, by rw [Array.toList_push]; exact List.mem_append_right _ (List.mem_singleton.2 rfl), rfl, rfl⟩
      · rw [upd_other _ hyx] at hy
        obtain ⟨e, he, hk, hv⟩ := F.2.1 y u hy
        exact ⟨e, by rw [Array.toList_push]; exact List.mem_append_left _ he, hk, hv⟩
  · have hj : es[j]? = some e0 := by simpa using h2
    have hm0 := List.mem_of_getElem? h2
    have hst := (stamped_iff es clock).1 F.2.2
    have hkeyf : ∀ e', es[j]? = some e' → ({ e' with key := enc x, val := v } : MapEntry).key = e'.key := fun e' he' => by rw [hj] at he'; cases he'; exact h3.symm
    have hlist : (es.modify j (fun e' => { e' with key := enc x, val := v })).toList = es.toList.set j { e0 with key := enc x, val := v } := by rw [Array.toList_modify, modify_eq_set _ _ _ _ h2]
    refine ⟨setBlock w b (.map (es.modify j (fun e' => { e' with key := enc x, val := v })) clock), ?_, ⟨_, _, heap_setBlock_same hb _, fun e he => ?_, fun y u hy => ?_, stamped_modify F.2.2 _ _ (fun _ _ => rfl) (fun e' _ he' => hkeyf e' he')⟩, es, clock, _, _, hb, rfl⟩
    · simp [Instr.mapUpdate, run_underlying ht, MapKept.run_getObj_map hb, K.keyed.check w false hl, h1, hj, h3, K.keyed.stays w hl, MapKept.run_setObj_map _ hb, Result.andThen, setBlock]
    · rw [hlist] at he
      rcases List.mem_or_eq_of_mem_set he with he' | rfl
      · obtain ⟨i, hi, ex⟩ := List.getElem_of_mem he
        rw [List.getElem_set] at ex
        by_cases hij : j = i
        · rw [if_pos hij] at ex
          subst ex
          exact ⟨x, hx, rfl, upd_same _ _ _⟩
        · rw [if_neg hij] at ex
          obtain ⟨y, hy, hk, hv⟩ := F.1 e he'
          refine ⟨y, hy, hk, ?_⟩
          rw [upd_other]
          · exact hv
          · rintro rfl
            have h4 : e = e0 := entry_eq_of_key hst.2.2 he' hm0 (hk.trans h3.symm)
            have hi' : i < es.toList.length := by simpa using hi
            have h5 := (List.pairwise_iff_getElem.1 hst.2.2)
            have hjl : j < es.toList.length := (List.getElem?_eq_some_iff.1 h2).1
            have e5 : es.toList[j] = e0 := (List.getElem?_eq_some_iff.1 h2).2
            rcases Nat.lt_or_gt_of_ne hij with h6 | h6
            · exact h5 j i hjl hi' h6 (by rw [ex, h4, e5])
            · exact h5 i j hi' hjl h6 (by rw [ex, h4, e5])
      · exact ⟨x, hx, rfl, upd_same _ _ _⟩
    · rw [hlist]
      by_cases hyx : y = x
      · subst hyx
        rw [upd_same] at hy
        cases hy
        exact ⟨{ e0 with key := enc y, val := v }, List.mem_iff_getElem.2 ⟨j, by simpa using (List.getElem?_eq_some_iff.1 h2).1, by simp⟩, rfl, rfl⟩
      · rw [upd_other _ hyx] at hy
        obtain ⟨e, he, hk, hv⟩ := F.2.1 y u hy
        obtain ⟨i, hi, ex⟩ := List.getElem_of_mem he
        have hij : j ≠ i := by
          rintro rfl
          have e5 : es.toList[j] = e0 := (List.getElem?_eq_some_iff.1 h2).2
          exact hyx (K.inj _ _ (by rw [← hk, ← ex, e5, h3]))
        exact ⟨e, List.mem_iff_getElem.2 ⟨i, by simpa using hi, by rw [List.getElem_set, if_neg hij, ex]⟩, hk, hv⟩
theorem MapF.drop [DecidableEq κ] (h : MapF w In enc b f) (K : KeyE P k In enc) (ht : P.underlying t = some (.map k e)) {x : κ} (hx : In x) (ty : TypeId) :
    ∃ w', (Builtin.delete_ #[t, k] ty #[.map (some b), enc x]).run P w = .ok (.tuple #[]) w' ∧ MapF w' In enc b (upd f x none) ∧ w.mapTurned w' b := by
  obtain ⟨es, clock, hb, F⟩ := h
  obtain ⟨l, hl⟩ := K.of x hx
  have hst := (stamped_iff es clock).1 F.2.2
  rcases K.keyed.find w hl es.toList (F.keys K) with ⟨h1, h2⟩ | ⟨j, e0, h1, h2, h3⟩
  · refine ⟨setBlock w b (.map es clock), ?_, ⟨es, clock, heap_setBlock_same hb _, fun e he => ?_, fun y u hy => ?_, F.2.2⟩, es, clock, _, _, hb, rfl⟩
    · simp [Builtin.delete_, run_underlying ht, MapKept.run_getObj_map hb, K.keyed.check w _ hl, h1, MapKept.run_setObj_map _ hb, Result.andThen, setBlock]
    · obtain ⟨y, hy, hk, hv⟩ := F.1 e he
      exact ⟨y, hy, hk, by rw [upd_other _ (fun e1 => h2 e he (by rw [hk, e1]))]; exact hv⟩
    · by_cases hyx : y = x
      · subst hyx
        rw [upd_same] at hy
        cases hy
      · rw [upd_other _ hyx] at hy
        exact F.2.1 y u hy
  · have hjl : j < es.toList.length := (List.getElem?_eq_some_iff.1 h2).1
    have hjs : j < es.size := by simpa using hjl
    have hsub : (es.eraseIdxIfInBounds j).toList = es.toList.eraseIdx j := by
      unfold Array.eraseIdxIfInBounds
      rw [dif_pos hjs]
      simp
    have e5 : es.toList[j] = e0 := (List.getElem?_eq_some_iff.1 h2).2
    refine ⟨setBlock w b (.map (es.eraseIdxIfInBounds j) clock), ?_, ⟨_, _, heap_setBlock_same hb _, fun e he => ?_, fun y u hy => ?_, stamped_erase F.2.2 j⟩, es, clock, _, _, hb, rfl⟩
    · simp [Builtin.delete_, run_underlying ht, MapKept.run_getObj_map hb, K.keyed.check w _ hl, h1, MapKept.run_setObj_map _ hb, Result.andThen, setBlock]
    · rw [hsub, List.mem_eraseIdx_iff_getElem?] at he
      obtain ⟨i, hne, hi⟩ := he
      obtain ⟨y, hy, hk, hv⟩ := F.1 e (List.mem_of_getElem? hi)
      refine ⟨y, hy, hk, ?_⟩
      rw [upd_other]
      · exact hv
      · rintro rfl
        have hil : i < es.toList.length := (List.getElem?_eq_some_iff.1 hi).1
        have e6 : es.toList[i] = e := (List.getElem?_eq_some_iff.1 hi).2
        have h4 : e = e0 := entry_eq_of_key hst.2.2 (List.mem_of_getElem? hi) (List.mem_of_getElem? h2) (hk.trans h3.symm)
        have h5 := (List.pairwise_iff_getElem.1 hst.2.2)
        rcases Nat.lt_or_gt_of_ne hne with h6 | h6
        · exact h5 i j hil hjl h6 (by rw [e6, e5, h4])
        · exact h5 j i hjl hil h6 (by rw [e6, e5, h4])
    · by_cases hyx : y = x
      · subst hyx
        rw [upd_same] at hy
        cases hy
      · rw [upd_other _ hyx] at hy
        obtain ⟨e, he, hk, hv⟩ := F.2.1 y u hy
        refine ⟨e, ?_, hk, hv⟩
        rw [hsub, List.mem_eraseIdx_iff_getElem?]
        obtain ⟨i, hi⟩ := List.getElem?_of_mem he
        refine ⟨i, fun e1 => hyx ?_, hi⟩
        rw [e1, h2] at hi
        cases hi
        exact K.inj _ _ (hk.symm.trans h3)
section
variable {ops : Array Oper} {rest : List Oper} {o : Oper} {a : Act} {Q : Exit → Act → World → Prop}
theorem wpl_look (c : Bool) (hg : o.guard = none) (m x : Operand) (hop : o.op = Op.lookup t m x c) (K : KeyE P k In enc) (ht : P.underlying t = some (.map k e)) {z : Value} (hz : (zeroValue e).run P w = .ok z w)
    (hm : a.eval m = .map (some b)) (h : MapF w In enc b f) (key : κ) (hkey : In key) (hx : a.eval x = enc key) (v : Value) (hv : (f key).getD z = v) (g : Bool) (hs : (f key).isSome = g)
    (hK : wpList P ops Q rest (a.put o.dst (if c then .tuple #[v, .bool g] else v)) w) : wpList P ops Q (o :: rest) a w := by
  refine wpList_plain hg fun K' hK' => ?_
  have hrun := h.look K ht hz hkey c
  rw [hv, hs] at hrun
  unfold Oper.wp
  simp [execOp, hop, hm, hx, hrun, Result.andThen]
  exact hK' _ _ hK
theorem wpl_look_none (c : Bool) (hg : o.guard = none) (m x : Operand) (hop : o.op = Op.lookup t m x c) (K : KeyE P k In enc) (ht : P.underlying t = some (.map k e)) {z : Value} (hz : (zeroValue e).run P w = .ok z w)
    (hm : a.eval m = .map none) (key : κ) (hkey : In key) (hx : a.eval x = enc key)
    (hK : wpList P ops Q rest (a.put o.dst (if c then .tuple #[z, .bool false] else z)) w) : wpList P ops Q (o :: rest) a w := by
  refine wpList_plain hg fun K' hK' => ?_
  have hrun := look_none K ht hz hkey c
  unfold Oper.wp
  simp [execOp, hop, hm, hx, hrun, Result.andThen]
  exact hK' _ _ hK
theorem wpl_store [DecidableEq κ] (hg : o.guard = none) (m x v : Operand) (hop : o.op = Op.mapUpdate t m x v) (K : KeyE P k In enc) (ht : P.underlying t = some (.map k e))
    (hm : a.eval m = .map (some b)) (h : MapF w In enc b f) (key : κ) (hkey : In key) (hx : a.eval x = enc key) (val : Value) (hv : a.eval v = val)
    (hK : ∀ w', MapF w' In enc b (upd f key (some val)) → w.mapTurned w' b → wpList P ops Q rest (a.put o.dst undef) w') : wpList P ops Q (o :: rest) a w := by
  refine wpList_plain hg fun K' hK' => ?_
  obtain ⟨w', hrun, r1, r2⟩ := h.store K ht hkey val
  unfold Oper.wp
  simp [execOp, hop, hm, hx, hv, hrun, Result.andThen]
  exact hK' _ _ (hK w' r1 r2)
theorem wpl_drop [DecidableEq κ] (hg : o.guard = none) (m x : Operand) (hop : o.op = Op.call { callee := Callee.builtin Builtin.delete, args := #[m, x], argTypes := #[t, k] }) (K : KeyE P k In enc) (ht : P.underlying t = some (.map k e))
    (hm : a.eval m = .map (some b)) (h : MapF w In enc b f) (key : κ) (hkey : In key) (hx : a.eval x = enc key)
    (hK : ∀ w', MapF w' In enc b (upd f key none) → w.mapTurned w' b → wpList P ops Q rest (a.put o.dst (.tuple #[])) w') : wpList P ops Q (o :: rest) a w := by
  refine wpList_plain hg fun K' hK' => ?_
  obtain ⟨w', hrun, r1, r2⟩ := h.drop K ht hkey o.type
  unfold Oper.wp
  simp [execOp, hop, resolve, invoke, builtin, hm, hx, hrun, Result.andThen]
  exact hK' _ _ (hK w' r1 r2)
end
end Go.Proofs.YtdnnkdldolhbpaaGreatDoor
namespace Go.Proofs.YtdnnkdldolhbpaaGreatDoor
structure Lin (κ : Type) where
  y : κ
  l : List (Nat × Int)
  o : Nat
variable {κ : Type} [DecidableEq κ]
def stepL (k : κ) (i : Nat) (out : Option Nat) (x : Lin κ) : Option Nat :=
  if x.o = 0 ∧ x.y = k then some i else if 0 < x.o ∧ out = some (x.o - 1) then none else out
def liveF (k : κ) : Nat → Option Nat → List (Lin κ) → Option Nat
  | _, out, [] => out
  | i, out, x :: r => liveF k (i + 1) (stepL k i out x) r
def liveL (M : List (Lin κ)) (k : κ) : Option Nat := liveF k 0 none M
theorem liveF_snoc (k : κ) (x : Lin κ) : ∀ (M : List (Lin κ)) (i : Nat) (out : Option Nat), liveF k i out (M ++ [x]) = stepL k (i + M.length) (liveF k i out M) x
  | [], i, out => by simp [liveF]
  | y :: r, i, out => by
    simp only [List.cons_append, liveF, List.length_cons]
    rw [liveF_snoc k x r, show i + 1 + r.length = i + (r.length + 1) from by omega]
theorem liveL_snoc (M : List (Lin κ)) (k : κ) (x : Lin κ) : liveL (M ++ [x]) k = stepL k M.length (liveL M k) x := by
  unfold liveL
  rw [liveF_snoc, Nat.zero_add]
theorem liveL_nil (k : κ) : liveL [] k = none := rfl
theorem snoc_ind {α : Type} {p : List α → Prop} (h0 : p []) (h1 : ∀ l x, p l → p (l ++ [x])) (l : List α) : p l := by
  have : ∀ n (l : List α), l.length = n → p l := by
    intro n
    induction n with
    | zero => intro l hl; rw [List.eq_nil_of_length_eq_zero hl]; exact h0
    | succ n ih =>
      intro l hl
      have hne : l ≠ [] := by rintro rfl; simp at hl
      rw [← List.dropLast_concat_getLast hne]
      exact h1 _ _ (ih _ (by simp [hl]))
  exact this _ l rfl
theorem liveL_some {M : List (Lin κ)} {k : κ} : ∀ {i : Nat}, liveL M k = some i → ∃ x, M[i]? = some x ∧ x.y = k ∧ x.o = 0 := by
  refine snoc_ind (p := fun M => ∀ {i : Nat}, liveL M k = some i → ∃ x, M[i]? = some x ∧ x.y = k ∧ x.o = 0) ?_ ?_ M
  · intro i h
    cases h
  · intro l x ih i h
    rw [liveL_snoc] at h
    unfold stepL at h
    split at h
    · rename_i hx
      cases h
      exact ⟨x, by simp, hx.2, hx.1⟩
    · split at h
      · cases h
      · obtain ⟨y, hy, h1⟩ := ih h
        exact ⟨y, by rw [List.getElem?_append_left (List.getElem?_eq_some_iff.1 hy).1]; exact hy, h1⟩
theorem liveL_post {M : List (Lin κ)} {x : Lin κ} (hx : x.o = 0) (k : κ) : liveL (M ++ [x]) k = if k = x.y then some M.length else liveL M k := by
  rw [liveL_snoc]
  unfold stepL
  by_cases h : x.y = k
  · rw [if_pos ⟨hx, h⟩, if_pos h.symm]
  · rw [if_neg (fun hh : x.o = 0 ∧ x.y = k => h hh.2), if_neg (fun hh : 0 < x.o ∧ _ => by omega), if_neg (fun hh : k = x.y => h hh.symm)]
theorem liveL_rev {M : List (Lin κ)} {x : Lin κ} {i : Nat} (hx : x.o = i + 1) (hl : liveL M x.y = some i) (k : κ) : liveL (M ++ [x]) k = if k = x.y then none else liveL M k := by
  rw [liveL_snoc]
  unfold stepL
  rw [if_neg (fun hh => by omega)]
  by_cases h : k = x.y
  · subst h
    rw [if_pos rfl, if_pos ⟨by omega, by rw [hl, hx]; rfl⟩]
  · rw [if_neg h, if_neg]
    rintro ⟨_, h2⟩
    rw [hx] at h2
    obtain ⟨y, hy, hyk, _⟩ := liveL_some h2
    obtain ⟨z, hz, hzk, _⟩ := liveL_some hl
    simp only [Nat.add_sub_cancel] at hy
    rw [hy] at hz
    cases hz
    exact h (hyk.symm.trans hzk)
/-! the sums -/
def legS (c : Nat) : List (Nat × Int) → Int
  | [] => 0
  | g :: r => (if g.1 = c then g.2 else 0) + legS c r
theorem legS_append (c : Nat) : ∀ l m, legS c (l ++ m) = legS c l + legS c m
  | [], m => by simp [legS]
  | g :: r, m => by simp only [List.cons_append, legS, legS_append c r m]; omega
theorem legS_no {c : Nat} : ∀ {l : List (Nat × Int)}, (∀ g ∈ l, g.1 ≠ c) → legS c l = 0
  | [], _ => rfl
  | g :: r, h => by
    simp only [legS, if_neg (h g List.mem_cons_self), legS_no (fun g' hg => h g' (List.mem_cons_of_mem _ hg))]
    rfl
def Rise (l : List (Nat × Int)) : Prop := l.Pairwise (fun a b => a.1 < b.1)
theorem legS_rise {l : List (Nat × Int)} (h : Rise l) {g : Nat × Int} (hg : g ∈ l) : legS g.1 l = g.2 := by
  induction l with
  | nil => cases hg
  | cons a r ih =>
    obtain ⟨h1, h2⟩ := List.pairwise_cons.1 h
    rcases List.mem_cons.1 hg with rfl | hg
    · simp only [legS, if_pos]
      rw [legS_no (fun g' hg' => by have := h1 g' hg'; omega)]
      omega
    · have := h1 g hg
      simp only [legS, if_neg (show ¬ a.1 = g.1 by omega), ih h2 hg]
      omega
def sumB (p : κ → Bool) (c : Nat) : List (Lin κ) → Int
  | [] => 0
  | x :: r => (if p x.y then legS c x.l else 0) + sumB p c r
omit [DecidableEq κ] in
theorem sumB_append (p : κ → Bool) (c : Nat) : ∀ l m, sumB p c (l ++ m) = sumB p c l + sumB p c m
  | [], m => by simp [sumB]
  | g :: r, m => by simp only [List.cons_append, sumB, sumB_append p c r m]; omega
omit [DecidableEq κ] in
theorem sumB_snoc (p : κ → Bool) (c : Nat) (l : List (Lin κ)) (x : Lin κ) : sumB p c (l ++ [x]) = sumB p c l + (if p x.y then legS c x.l else 0) := by
  rw [sumB_append]
  simp [sumB]
end Go.Proofs.YtdnnkdldolhbpaaGreatDoor
namespace Go.Proofs.YtdnnkdldolhbpaaGreatDoor
open Go.ChangeShapes Go.WideShapes Go.ChangeAt Go.RowKit Go.Maps Go.WideMaps

theorem Ky.v_inj (x y : Ky) (h : x.v = y.v) : x = y := by
  obtain ⟨a, d, k, s⟩ := x
  obtain ⟨a', d', k', s'⟩ := y
  simp only [Ky.v, Value.agg.injEq] at h
  have h' := congrArg Array.toList h
  simp at h'
  obtain ⟨h1, h2, h3, h4⟩ := h'
  have e1 : a = a' := by omega
  have e3 : k = k' := by omega
  have e4 : s = s' := by omega
  subst e1 h2 e3 e4
  rfl
theorem cellsKey : Tryz.prog.cellsOf 33 = 4 := by kernel_rfl
theorem kyDeep : Keyed Tryz.prog 33 := Keyed.of_law (deep_law_laid laidOut (m := 2) (by omega) (of_decide_eq_true (by kernel_rfl)) (by kernel_rfl) (by rw [Tryz.underlying33]))
theorem kyType : Tryz.prog.keyType 33 = true := by kernel_rfl
set_option maxRecDepth 20000 in
theorem ky_of (y : Ky) (h : y.In) : ∃ l, keyOf Tryz.prog 33 y.v = some l := by
  have hf : y.v.formed Tryz.prog 33 = true := by
    simp [Value.formed, Ky.v, Tryz.underlying33]
    kernel_rfl
  obtain ⟨h1, h2, h3, h4⟩ := h
  have w1 : (Lit.int .u32 (y.a : Int)).wf = true := by
    simp [Lit.wf, IntKind.min, IntKind.max, IntKind.signed, IntKind.bits]
    omega
  have w2 : (Lit.int .i32 y.d).wf = true := by
    simp [Lit.wf, IntKind.min, IntKind.max, IntKind.signed, IntKind.bits]
    omega
  have w3 : (Lit.int .u8 (y.k : Int)).wf = true := by
    simp [Lit.wf, IntKind.min, IntKind.max, IntKind.signed, IntKind.bits]
    omega
  have w4 : (Lit.int .u32 (y.s : Int)).wf = true := by
    simp [Lit.wf, IntKind.min, IntKind.max, IntKind.signed, IntKind.bits]
    omega
  have hs : ∃ n, Tryz.prog.types.size + 1 = n + 2 := ⟨Tryz.prog.types.size - 1, by have : 1 ≤ Tryz.prog.types.size := of_decide_eq_true (by kernel_rfl); omega⟩
  obtain ⟨n, hn⟩ := hs
  have hk : (Tryz.prog.keyLits (n + 2) 33 y.v.cells.toList).isSome = true := by
    simp [Program.keyLits, Ky.v, Value.cells, Tryz.underlying33, Tryz.underlying30, Tryz.underlying31, Tryz.underlying5, cellsKey, cellsU32, cellsDay, cellsU8, w1, w2, w3, w4]
  unfold keyOf
  rw [Tryz.underlying33, hn]
  simp only [kyType, hf, Bool.and_self, if_true]
  cases e : Tryz.prog.keyLits (n + 2) 33 y.v.cells.toList with
  | none => rw [e] at hk; cases hk
  | some ls => exact ⟨_, rfl⟩
theorem keyKy : KeyE Tryz.prog 33 Ky.In Ky.v := ⟨kyDeep, ky_of, Ky.v_inj⟩
def u32In (a : Nat) : Prop := a < 4294967296
def u32E (a : Nat) : Value := .int .u32 (a : Int)
theorem keyU32 : KeyE Tryz.prog 30 u32In u32E := ⟨int_keyed Tryz.underlying30, fun a h => ⟨_, keyOf_int_mk Tryz.underlying30 (by
  simp [Lit.wf, IntKind.min, IntKind.max, IntKind.signed, IntKind.bits]
  unfold u32In at h
  omega)⟩, fun x y h => by
  simp [u32E] at h
  omega⟩
/-- A line's row: its key, where its legs lie, of what it is the reversal. -/
structure LinV where
  y : Ky
  A : Option Addr
  n : Nat
  c : Nat
  o : Nat
def linC (d : LinV) : List Value := [.int .u32 (d.y.a : Int), .int .i32 d.y.d, .int .u8 (d.y.k : Int), .int .u32 (d.y.s : Int), .slice d.A d.n d.c, .int .i64 (d.o : Int)]
def linT : Lies LinV := ⟨linC, 6, fun _ => rfl, fun d u hu => by
  simp [linC] at hu
  rcases hu with rfl | rfl | rfl | rfl | rfl | rfl <;> rfl⟩
theorem rowLin : RowOf linT Tryz.prog 81 42 48 := RowOf.of (z := .agg #[.int .u32 0, .int .i32 0, .int .u8 0, .int .u32 0, .slice none 0 0, .int .i64 0]) Tryz.underlying81 (by kernel_rfl) rfl (by decide)
abbrev Li := Lin Ky
/-- Ten sums. -/
def vec (f : Nat → Int) : Array Value := #[.int .i64 (f 0), .int .i64 (f 1), .int .i64 (f 2), .int .i64 (f 3), .int .i64 (f 4), .int .i64 (f 5), .int .i64 (f 6), .int .i64 (f 7), .int .i64 (f 8), .int .i64 (f 9)]
def loanP (a : Nat) (y : Ky) : Bool := y.a == a
def allP (_ : Ky) : Bool := true
def bal (M : List Li) (a c : Nat) : Int := sumB (loanP a) c M
def ctl (M : List Li) (c : Nat) : Int := sumB allP c M
def hasLn (M : List Li) (a : Nat) : Bool := M.any (fun x => x.y.a == a)
def ledC (lv lm bm : Value) (M : List Li) : Array Value := #[lv, lm, bm, .int .i64 (ctl M 0), .int .i64 (ctl M 1), .int .i64 (ctl M 2), .int .i64 (ctl M 3), .int .i64 (ctl M 4), .int .i64 (ctl M 5), .int .i64 (ctl M 6), .int .i64 (ctl M 7), .int .i64 (ctl M 8), .int .i64 (ctl M 9)]
/-- The legs of the lines. -/
structure LegsAt (w : World) (D : Nat → Prop) (M : List Li) (V : List LinV) : Prop where
  len : V.length = M.length
  y : ∀ (i : Nat) v x, V[i]? = some v → M[i]? = some x → v.y = x.y ∧ v.o = x.o ∧ v.n = x.l.length
  r : ∀ (i : Nat) v x, V[i]? = some v → M[i]? = some x → Rs legT w w.heap.size v.A x.l ∧ ∀ p, v.A = some p → D p.block
  t : ∀ (i : Nat) (v : LinV) (p : Addr), V[i]? = some v → v.A = some p → ∃ cs, Blk w p.block 53 cs
/-- Lines that may be. -/
structure Fine (M : List Li) : Prop where
  inn : ∀ x ∈ M, x.y.In ∧ (∀ g ∈ x.l, LegIn g) ∧ Rise x.l ∧ (1 ≤ x.l.length ∧ x.l.length ≤ 8) ∧ ∀ g ∈ x.l, 1 ≤ g.1 ∧ g.1 ≤ 9
  fit : ∀ n c, fitB (ctl (M.take n) c) = true
  fita : ∀ n a c, fitB (bal (M.take n) a c) = true
  of : ∀ (i : Nat) x, M[i]? = some x → 0 < x.o → x.o - 1 < i ∧ ∃ z, M[x.o - 1]? = some z ∧ z.o = 0 ∧ z.y = x.y
  post : ∀ x ∈ M, x.o = 0 → entB x.y x.l = true
def natV (i : Nat) : Value := .int .i64 (i : Int)
/-- The map of live lines. -/
structure LiveAt (w : World) (D : Nat → Prop) (L : Ky → Option Nat) (lm : Option Nat) (inn : Nat → Option Nat) : Prop where
  nil : lm = none → ∀ k, L k = none
  out : ∀ b, lm = some b → D b ∧ MapF w u32In u32E b (fun a => (inn a).map (fun r => .map (some r))) ∧ ∀ a, inn a ≠ some b
  at_ : ∀ a r, inn a = some r → D r ∧ MapF w Ky.In Ky.v r (fun y => if y.a = a then (L y).map natV else none)
  no : ∀ y, inn y.a = none → L y = none
  one : ∀ a a' r, inn a = some r → inn a' = some r → a = a'
structure BalAt (w : World) (D : Nat → Prop) (M : List Li) (bm : Option Nat) : Prop where
  nil : bm = none → M = []
  out : ∀ b, bm = some b → D b ∧ MapF w u32In u32E b (fun a => if hasLn M a then some (.agg (vec (bal M a))) else none)
/-- Block q is a ledger of these lines; its blocks are in D. -/
def LedL (w : World) (q : Nat) (D : Nat → Prop) (M : List Li) (L : Ky → Option Nat) : Prop :=
  ∃ (lv : Value) (V : List LinV) (lm bm : Option Nat) (inn : Nat → Option Nat), Blk w q 87 (ledC lv (.map lm) (.map bm) M) ∧ OwnS linT 42 w 0 lv M.length V ∧
    LegsAt w D M V ∧ LiveAt w D L lm inn ∧ BalAt w D M bm ∧ Fine M ∧ D q ∧ (∀ b, lv.ownBlock = some b → D b) ∧ (∀ i, D i → i < w.heap.size) ∧ (bm = none ↔ lm = none) ∧ (∀ b, bm = some b → lm ≠ some b ∧ ∀ a, inn a ≠ some b)
abbrev Led (w : World) (q : Nat) (D : Nat → Prop) (M : List Li) : Prop := LedL w q D M (liveL M)
end Go.Proofs.YtdnnkdldolhbpaaGreatDoor
namespace Go.Proofs.YtdnnkdldolhbpaaGreatDoor
open Go.ChangeShapes Go.WideShapes Go.ChangeAt Go.RowKit Go.Maps

theorem cell_blk {w w' : World} {p : Addr} (h : w'.heap[p.block]? = w.heap[p.block]?) : w'.cell? p = w.cell? p := by
  unfold World.cell?
  rw [h]
theorem OwnS.same {α : Type} {T : Lies α} {e : TypeId} {w w' : World} {b n : Nat} {v : Value} {l : List α} (h : OwnS T e w b v n l) (hk : ∀ g, v.ownBlock = some g → w'.heap[g]? = w.heap[g]?) : OwnS T e w' b v n l := by
  unfold OwnS at h ⊢
  refine ⟨h.1, ?_⟩
  rcases h.2 with ⟨h1, h2⟩ | ⟨g, cap, cur, rfl, h2, hg, h3⟩
  · exact .inl ⟨h1, h2⟩
  · exact .inr ⟨g, cap, cur, rfl, h2, (hk g rfl).trans hg, h3⟩
theorem Rs.same {α : Type} {T : Lies α} {w w' : World} {B B' : Nat} {A : Option Addr} {l : List α} (h : Rs T w B A l) (hB : B ≤ B') (hk : ∀ p, A = some p → w'.heap[p.block]? = w.heap[p.block]?) : Rs T w' B' A l := fun hn => by
  obtain ⟨b, o, e, hb, hc⟩ := h hn
  exact ⟨b, o, e, by omega, fun j v hv i x hx => (cell_blk (p := ⟨b, _, none⟩) (show w'.heap[b]? = w.heap[b]? from hk _ e)).trans (hc j v hv i x hx)⟩
theorem LegsAt.at_ {w : World} {D : Nat → Prop} {M : List Li} {V : List LinV} (h : LegsAt w D M V) {i : Nat} {v : LinV} (hv : V[i]? = some v) : ∃ x, M[i]? = some x := by
  have := (List.getElem?_eq_some_iff.1 hv).1
  rw [h.len] at this
  exact ⟨_, List.getElem?_eq_getElem this⟩
theorem LegsAt.keep {w w' : World} {D D' : Nat → Prop} {M : List Li} {V : List LinV} (h : LegsAt w D M V) (hk : ∀ (i : Nat) (v : LinV) (p : Addr), V[i]? = some v → v.A = some p → w'.heap[p.block]? = w.heap[p.block]?) (hs : w.heap.size ≤ w'.heap.size) (hD : ∀ i, D i → D' i) : LegsAt w' D' M V :=
  ⟨h.len, h.y, fun i v x h1 h2 => ⟨(h.r i v x h1 h2).1.same hs (fun p hp => hk i v p h1 hp), fun p hp => hD _ ((h.r i v x h1 h2).2 p hp)⟩, fun i v p h1 h2 => by
    obtain ⟨cs, hc⟩ := h.t i v p h1 h2
    exact ⟨cs, (hk i v p h1 h2).trans hc⟩⟩
theorem LegsAt.same {w w' : World} {D : Nat → Prop} {M : List Li} {V : List LinV} (h : LegsAt w D M V) (hk : ∀ i, D i → w'.heap[i]? = w.heap[i]?) (hs : w.heap.size ≤ w'.heap.size) : LegsAt w' D M V :=
  h.keep (fun i v p h1 h2 => by
    obtain ⟨x, hx⟩ := h.at_ h1
    exact hk _ ((h.r i v x h1 hx).2 p h2)) hs (fun _ h => h)
theorem LiveAt.keep {w w' : World} {D D' : Nat → Prop} {L : Ky → Option Nat} {lm : Option Nat} {inn : Nat → Option Nat} (h : LiveAt w D L lm inn) (h1 : ∀ b, lm = some b → w'.heap[b]? = w.heap[b]?) (h2 : ∀ a r, inn a = some r → w'.heap[r]? = w.heap[r]?) (hD : ∀ i, D i → D' i) : LiveAt w' D' L lm inn :=
  ⟨h.nil, fun b hb => ⟨hD _ (h.out b hb).1, (h.out b hb).2.1.keep (h1 b hb), (h.out b hb).2.2⟩, fun a r hr => ⟨hD _ (h.at_ a r hr).1, (h.at_ a r hr).2.keep (h2 a r hr)⟩, h.no, h.one⟩
theorem LiveAt.same {w w' : World} {D : Nat → Prop} {L : Ky → Option Nat} {lm : Option Nat} {inn : Nat → Option Nat} (h : LiveAt w D L lm inn) (hk : ∀ i, D i → w'.heap[i]? = w.heap[i]?) : LiveAt w' D L lm inn :=
  ⟨h.nil, fun b hb => ⟨(h.out b hb).1, (h.out b hb).2.1.keep (hk _ (h.out b hb).1), (h.out b hb).2.2⟩, fun a r hr => ⟨(h.at_ a r hr).1, (h.at_ a r hr).2.keep (hk _ (h.at_ a r hr).1)⟩, h.no, h.one⟩
theorem BalAt.same {w w' : World} {D : Nat → Prop} {M : List Li} {bm : Option Nat} (h : BalAt w D M bm) (hk : ∀ i, D i → w'.heap[i]? = w.heap[i]?) : BalAt w' D M bm :=
  ⟨h.nil, fun b hb => ⟨(h.out b hb).1, (h.out b hb).2.keep (hk _ (h.out b hb).1)⟩⟩
theorem LedL.same {w w' : World} {q : Nat} {D : Nat → Prop} {M : List Li} {L : Ky → Option Nat} (h : LedL w q D M L) (hk : ∀ i, D i → w'.heap[i]? = w.heap[i]?) (hs : w.heap.size ≤ w'.heap.size) : LedL w' q D M L := by
  obtain ⟨lv, V, lm, bm, inn, h1, h2, h3, h4, h5, h6, h7, h8, h9, h10, h11⟩ := h
  exact ⟨lv, V, lm, bm, inn, (hk q h7).trans h1, h2.same (fun g hg => hk g (h8 g hg)), h3.same hk hs, h4.same hk, h5.same hk, h6, h7, h8, fun i hi => Nat.lt_of_lt_of_le (h9 i hi) hs, h10, h11⟩
theorem LedL.lt {w : World} {q : Nat} {D : Nat → Prop} {M : List Li} {L : Ky → Option Nat} (h : LedL w q D M L) : ∀ i, D i → i < w.heap.size := by
  obtain ⟨lv, V, lm, bm, inn, h1, h2, h3, h4, h5, h6, h7, h8, h9, h10, h11⟩ := h
  exact h9
theorem LedL.self {w : World} {q : Nat} {D : Nat → Prop} {M : List Li} {L : Ky → Option Nat} (h : LedL w q D M L) : D q := by
  obtain ⟨lv, V, lm, bm, inn, h1, h2, h3, h4, h5, h6, h7, h8, h9, h10, h11⟩ := h
  exact h7
theorem LedL.fine {w : World} {q : Nat} {D : Nat → Prop} {M : List Li} {L : Ky → Option Nat} (h : LedL w q D M L) : Fine M := by
  obtain ⟨lv, V, lm, bm, inn, h1, h2, h3, h4, h5, h6, h7, h8, h9, h10, h11⟩ := h
  exact h6
theorem LedL.below {w w' : World} {q : Nat} {D : Nat → Prop} {M : List Li} {L : Ky → Option Nat} (h : LedL w q D M L) (hb : Below w.heap.size w w') : LedL w' q D M L :=
  h.same (fun i hi => hb.block i (h.lt i hi)) hb.size
/-- Of what was there nothing but D's blocks has changed. -/
structure Chg (D : Nat → Prop) (w w' : World) : Prop where
  os : w'.os = w.os
  tape : w'.tape = w.tape
  output : w'.output = w.output
  size : w.heap.size ≤ w'.heap.size
  block : ∀ i, i < w.heap.size → ¬ D i → w'.heap[i]? = w.heap[i]?
theorem Chg.below {D : Nat → Prop} {w w' : World} (h : Chg D w w') {B : Nat} (hB : B ≤ w.heap.size) (hD : ∀ i, D i → B ≤ i) : Below B w w' :=
  ⟨h.os, h.tape, h.output, h.size, fun i hi => h.block i (by omega) (fun hd => by have := hD i hd; omega)⟩
theorem Chg.of_below {D : Nat → Prop} {w w' : World} (h : Below w.heap.size w w') : Chg D w w' := ⟨h.os, h.tape, h.output, h.size, fun i hi _ => h.block i hi⟩
theorem Chg.trans {D D' : Nat → Prop} {w w' w'' : World} (h : Chg D w w') (k : Chg D' w' w'') (hD : ∀ i, D' i → D i ∨ w.heap.size ≤ i) : Chg D w w'' :=
  ⟨k.os.trans h.os, k.tape.trans h.tape, k.output.trans h.output, Nat.le_trans h.size k.size, fun i hi hn => (k.block i (Nat.lt_of_lt_of_le hi h.size) (fun hd => by
    rcases hD i hd with h1 | h1
    · exact hn h1
    · omega)).trans (h.block i hi hn)⟩
theorem Chg.blk {D : Nat → Prop} {w w' : World} (h : Chg D w w') {g : Nat} {t : TypeId} {cs : Array Value} (hb : Blk w g t cs) (hg : ¬ D g) : Blk w' g t cs := (h.block g hb.lt hg).trans hb
theorem Chg.refl (D : Nat → Prop) (w : World) : Chg D w w := ⟨rfl, rfl, rfl, Nat.le_refl _, fun _ _ _ => rfl⟩
theorem Fine.nil_ : Fine [] := ⟨fun _ h => (by cases h), fun n c => (by simp [ctl, sumB, fitB]), fun n a c => (by simp [bal, sumB, fitB]), fun i x h => (by simp at h), fun _ h => (by cases h)⟩
theorem Led.new {w : World} {q : Nat} (h : Blk w q 87 (ledC (.slice none 0 0) (.map none) (.map none) [])) : Led w q (fun i => i = q) [] := by
  refine ⟨.slice none 0 0, [], none, none, fun _ => none, h, OwnS.nil_ _ _ _, ⟨rfl, fun i v x h1 => (by simp at h1), fun i v x h1 => (by simp at h1), fun i v p h1 => (by simp at h1)⟩, ⟨fun _ k => rfl, fun b hb => (by cases hb), fun a r hr => (by cases hr), fun _ _ => rfl, fun a a' r hr => (by cases hr)⟩, ⟨fun _ => rfl, fun b hb => (by cases hb)⟩, Fine.nil_, rfl, fun b hb => (by simp [Value.ownBlock] at hb), fun i hi => ?_, by simp, fun b hb => (by cases hb)⟩
  rw [hi]
  exact h.lt
end Go.Proofs.YtdnnkdldolhbpaaGreatDoor
namespace Go.Proofs.YtdnnkdldolhbpaaGreatDoor
open Go.ChangeShapes Go.WideShapes Go.ChangeAt Go.RowKit Go.Maps

theorem zeroM (w : World) : (zeroValue 93).run Tryz.prog w = .ok (.map none) w := by kernel_rfl
theorem zeroI (w : World) : (zeroValue 3).run Tryz.prog w = .ok (.int .i64 0) w := by kernel_rfl
theorem zeroS (w : World) : (zeroValue 85).run Tryz.prog w = .ok (.agg (vec (fun _ => 0))) w := by kernel_rfl
def placeV (o : Option Nat) : Value := match o with | some i => .tuple #[.int .i64 (i : Int), .bool true] | none => .tuple #[.int .i64 0, .bool false]
/-- What the two look-ups tell. -/
theorem Led.looks {w : World} {q : Nat} {D : Nat → Prop} {M : List Li} (h : Led w q D M) {y : Ky} (hy : y.In) : ∃ (lm : Option Nat) (r : Option Nat), w.cell? ⟨q, 1, none⟩ = some (.map lm) ∧
    (∀ w', Below w.heap.size w w' → (Instr.lookup 82 (.map lm) (.int .u32 (y.a : Int)) false).run Tryz.prog w' = .ok (.map r) w') ∧
    (∀ w', Below w.heap.size w w' → (Instr.lookup 93 (.map r) y.v true).run Tryz.prog w' = .ok (placeV (liveL M y)) w') := by
  obtain ⟨lv, V, lm, bm, inn, h1, h2, h3, h4, h5, h6, h7, h8, h9, h10, h11⟩ := h
  have c1 := h1.cell 1
  unfold ledC at c1
  simp at c1
  cases lm with
  | none =>
    have hn := h4.nil rfl y
    refine ⟨none, none, c1, fun w' _ => ?_, fun w' _ => ?_⟩
    · have := look_none (w := w') keyU32 Tryz.underlying82 (zeroM w') (x := y.a) hy.a false
      exact this
    · have := look_none (w := w') keyKy Tryz.underlying93 (zeroI w') hy true
      rw [hn]
      exact this
  | some b =>
    obtain ⟨hb1, hb2, hb3⟩ := h4.out b rfl
    cases hr : inn y.a with
    | none =>
      have hn := h4.no y hr
      refine ⟨some b, none, c1, fun w' hb => ?_, fun w' _ => ?_⟩
      · have := (hb2.below hb (h9 b hb1)).look keyU32 Tryz.underlying82 (zeroM w') (x := y.a) hy.a false
        rw [hr] at this
        exact this
      · have := look_none (w := w') keyKy Tryz.underlying93 (zeroI w') hy true
        rw [hn]
        exact this
    | some r =>
      obtain ⟨hr1, hr2⟩ := h4.at_ y.a r hr
      refine ⟨some b, some r, c1, fun w' hb => ?_, fun w' hb => ?_⟩
      · have := (hb2.below hb (h9 b hb1)).look keyU32 Tryz.underlying82 (zeroM w') (x := y.a) hy.a false
        rw [hr] at this
        exact this
      · have := (hr2.below hb (h9 r hr1)).look keyKy Tryz.underlying93 (zeroI w') hy true
        rw [if_pos (show y.a = y.a from rfl)] at this
        cases hl : liveL M y with
        | none =>
          rw [hl] at this
          exact this
        | some i =>
          rw [hl] at this
          exact this
set_option maxRecDepth 100000 in
set_option maxHeartbeats 2000000 in
theorem place_nil (y : Ky) (w : World) : Calls Tryz.prog 39 #[.pointer none, y.v] w (Ret (placeV none) w) := by
  unfold Ky.v
  go_enter Tryz.func39, Tryz.ntmps39
  go_wp2
  go_ret2
  exact ⟨rfl, b_alloc _ _⟩
set_option maxRecDepth 100000 in
set_option maxHeartbeats 4000000 in
theorem place_any (q : Nat) (D : Nat → Prop) (M : List Li) (y : Ky) (hy : y.In) (w : World) (h : Led w q D M) : Calls Tryz.prog 39 #[.pointer (some ⟨q, 0, none⟩), y.v] w (Ret (placeV (liveL M y)) w) := by
  obtain ⟨lm, r, c1, hl1, hl2⟩ := h.looks hy
  obtain ⟨o, ho⟩ : ∃ o, liveL M y = o := ⟨_, rfl⟩
  rw [ho] at hl2 ⊢
  have hB := b_alloc w (.cells #[.int .u32 (y.a : Int), .int .i32 y.d, .int .u8 (y.k : Int), .int .u32 (y.s : Int)] 33)
  have hQ := Blk.new w 33 #[.int .u32 (y.a : Int), .int .i32 y.d, .int .u8 (y.k : Int), .int .u32 (y.s : Int)]
  have d1 := (hB.cell (p := ⟨q, 1, none⟩) (h.lt q h.self)).trans c1
  obtain ⟨W, hW⟩ : ∃ W, w.alloc (.cells #[.int .u32 (y.a : Int), .int .i32 y.d, .int .u8 (y.k : Int), .int .u32 (y.s : Int)] 33) = W := ⟨_, rfl⟩
  have HW := Lib.hid hW
  rw [hW] at hB hQ d1
  have k1 : ∀ n, (Instr.lookup 82 (.map lm) (.int .u32 (y.a : Int)) false).run Tryz.prog (W.drewN n) = .ok (.map r) (W.drewN n) := fun n => hl1 _ (below_drewN hB n)
  have k2 : ∀ n, (Instr.lookup 93 (.map r) (.agg #[.int .u32 (y.a : Int), .int .i32 y.d, .int .u8 (y.k : Int), .int .u32 (y.s : Int)]) true).run Tryz.prog (W.drewN n) = .ok (placeV o) (W.drewN n) := fun n => hl2 _ (below_drewN hB n)
  have HB := Lib.hid hB
  clear hl1 hl2 hB c1 h hW ho
  have n0 := hQ.cell 0
  have n1 := hQ.cell 1
  have n2 := hQ.cell 2
  have n3 := hQ.cell 3
  clear hQ
  simp at n0 n1 n2 n3
  unfold Ky.v
  go_enter Tryz.func39, Tryz.ntmps39
  go_upto_region 3 with (fail)
  rw [HW.out]
  cases o with
  | none =>
    unfold placeV at k2
    simp only at k2
    go_quiet (fail)
    go_wp2
    go_ret2
    exact ⟨rfl, below_drewN HB.out _⟩
  | some i =>
    unfold placeV at k2
    simp only at k2
    go_quiet (fail)
    go_wp2
    go_ret2
    exact ⟨rfl, below_drewN HB.out _⟩
set_option maxRecDepth 100000 in
set_option maxHeartbeats 1000000 in
theorem Len_nil (w : World) : Calls Tryz.prog 11 #[.pointer none] w (Ret (.int .i64 0) w) := by
  go_enter Tryz.func11, Tryz.ntmps11
  go_wp2
  go_ret
  exact ⟨rfl, Below.refl _ _⟩
theorem LedL.lines {w : World} {q : Nat} {D : Nat → Prop} {M : List Li} {L : Ky → Option Nat} (h : LedL w q D M L) : ∃ A c, w.cell? ⟨q, 0, none⟩ = some (.slice A M.length c) ∧ M.length ≤ c := by
  obtain ⟨lv, V, lm, bm, inn, h1, h2, h3, h4, h5, h6, h7, h8, h9, h10, h11⟩ := h
  have c0 := h1.cell 0
  unfold ledC at c0
  simp at c0
  obtain ⟨_, A, c, rfl, hc, _⟩ := h2.form (by decide)
  exact ⟨A, c, c0, hc⟩
set_option maxRecDepth 100000 in
set_option maxHeartbeats 1000000 in
theorem Len_any (q : Nat) (D : Nat → Prop) (M : List Li) (w : World) (h : Led w q D M) : Calls Tryz.prog 11 #[.pointer (some ⟨q, 0, none⟩)] w (Ret (.int .i64 (M.length : Int)) w) := by
  obtain ⟨A, c, c0, _⟩ := h.lines
  go_enter Tryz.func11, Tryz.ntmps11
  go_wp2
  go_ret
  exact ⟨rfl, Below.refl _ _⟩
def NewPost (w : World) (e : Ending) (w' : World) : Prop := e = .returned (.pointer (some ⟨w.heap.size, 0, none⟩)) ∧ Led w' w.heap.size (fun i => i = w.heap.size) [] ∧ Below w.heap.size w w'
set_option maxRecDepth 100000 in
set_option maxHeartbeats 1000000 in
theorem New_any (w : World) : Calls Tryz.prog 8 #[] w (NewPost w) := by
  go_enter Tryz.func8, Tryz.ntmps8
  go_wp2
  go_ret
  exact ⟨rfl, Led.new (Blk.new w _ _), b_alloc _ _⟩
/-- sums.of. -/
def ofV (f : Nat → Int) (c : Nat) : Int := if c < 10 then f c else 0
set_option maxRecDepth 100000 in
set_option maxHeartbeats 2000000 in
theorem of_any (f : Nat → Int) (c : Nat) (hc : c < 256) (w : World) : Calls Tryz.prog 49 #[.agg (vec f), .int .u8 (c : Int)] w (Ret (.int .i64 (ofV f c)) w) := by
  unfold vec
  by_cases h : c < 10
  · have hv : ofV f c = f c := by unfold ofV; rw [if_pos h]
    rw [hv]
    have hQ := Blk.new w 85 #[.int .i64 (f 0), .int .i64 (f 1), .int .i64 (f 2), .int .i64 (f 3), .int .i64 (f 4), .int .i64 (f 5), .int .i64 (f 6), .int .i64 (f 7), .int .i64 (f 8), .int .i64 (f 9)]
    have hq := hQ.cell c
    have hq2 : (#[Value.int .i64 (f 0), .int .i64 (f 1), .int .i64 (f 2), .int .i64 (f 3), .int .i64 (f 4), .int .i64 (f 5), .int .i64 (f 6), .int .i64 (f 7), .int .i64 (f 8), .int .i64 (f 9)] : Array Value)[c]? = some (.int .i64 (f c)) := by
      match c, h with
      | 0, _ | 1, _ | 2, _ | 3, _ | 4, _ | 5, _ | 6, _ | 7, _ | 8, _ | 9, _ => rfl
    rw [hq2] at hq
    have hB := Lib.hid (b_alloc w (.cells #[.int .i64 (f 0), .int .i64 (f 1), .int .i64 (f 2), .int .i64 (f 3), .int .i64 (f 4), .int .i64 (f 5), .int .i64 (f 6), .int .i64 (f 7), .int .i64 (f 8), .int .i64 (f 9)] 85))
    clear hQ hq2 hv
    go_enter Tryz.func49, Tryz.ntmps49
    go_upto_region 1 with (fail)
    obtain ⟨W, hW⟩ : ∃ W, w.alloc (.cells #[.int .i64 (f 0), .int .i64 (f 1), .int .i64 (f 2), .int .i64 (f 3), .int .i64 (f 4), .int .i64 (f 5), .int .i64 (f 6), .int .i64 (f 7), .int .i64 (f 8), .int .i64 (f 9)] 85) = W := ⟨_, rfl⟩
    rw [hW] at hq hB ⊢
    clear hW
    go_wp2
    go_ret
    exact ⟨rfl, hB.out⟩
  · have hv : ofV f c = 0 := by unfold ofV; rw [if_neg h]
    rw [hv]
    clear hv
    go_enter Tryz.func49, Tryz.ntmps49
    go_wp2
    go_ret
    exact ⟨rfl, b_alloc _ _⟩
end Go.Proofs.YtdnnkdldolhbpaaGreatDoor
