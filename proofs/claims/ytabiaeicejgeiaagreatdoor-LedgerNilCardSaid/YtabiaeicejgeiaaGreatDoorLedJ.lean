/-
  What a ledger's maps become; lines that may be. No condition.
-/
import Derived.Test.YtabiaeicejgeiaaGreatDoorLedH
import Derived.Test.YtabiaeicejgeiaaGreatDoorTurC
namespace Go.Proofs.YtabiaeicejgeiaaGreatDoor
open Go.ChangeShapes Go.WideShapes Go.ChangeAt Go.RowKit Go.Maps

theorem okW_fit {f : Nat → Int} {l : List (Nat × Int)} (hF : fit9 f) (h : okW f l) : fit9 (plusL f l) := by
  have : ∀ k, k ≤ l.length → fit9 (plusL f (l.take k)) := by
    intro k
    induction k with
    | zero => intro _; rw [plusL_zero]; exact hF
    | succ k ih =>
      intro hk c
      rw [plusL_step f (show k < l.length by omega)]
      split
      · rename_i hc
        rw [← hc]
        exact h k (by omega)
      · exact ih (by omega) c
  have h2 := this l.length (Nat.le_refl _)
  rwa [List.take_length] at h2
theorem ris_rise {l : List (Nat × Int)} (h : risTo l l.length = true) : Rise l ∧ ∀ g ∈ l, 1 ≤ g.1 ∧ g.1 ≤ 9 := by
  have hk : ∀ k, k ≤ l.length → risTo l k = true := fun k hk => by
    cases e : risTo l k with
    | true => rfl
    | false => rw [risTo_end hk e] at h; cases h
  have hs : ∀ k, (hl : k < l.length) → (1 ≤ (l[k]).1 ∧ (l[k]).1 ≤ 9) ∧ (k ≠ 0 → (l.getD (k - 1) (0, 0)).1 < (l[k]).1) := fun k hl => by
    have h1 := hk (k + 1) hl
    rw [risTo_step (x := (l[k]).1) (by rw [getD_leg hl])] at h1
    simp only [Bool.and_eq_true, Bool.or_eq_true, decide_eq_true_eq, beq_iff_eq] at h1
    refine ⟨⟨h1.2.1.1, h1.2.1.2⟩, fun h0 => ?_⟩
    rcases h1.2.2 with h | h
    · exact absurd h h0
    · exact h
  refine ⟨?_, fun g hg => ?_⟩
  · unfold Rise
    rw [List.pairwise_iff_getElem]
    have : ∀ d i, (hd : i + d + 1 < l.length) → (l[i]'(by omega)).1 < (l[i + d + 1]).1 := by
      intro d
      induction d with
      | zero =>
        intro i hd
        have h1 := (hs (i + 1) hd).2 (by omega)
        simp only [Nat.add_sub_cancel] at h1
        rw [getD_leg (by omega)] at h1
        exact h1
      | succ d ih =>
        intro i hd
        have h1 := ih i (by omega)
        have h2 := (hs (i + d + 1 + 1) hd).2 (by omega)
        simp only [Nat.add_sub_cancel] at h2
        rw [getD_leg (by omega)] at h2
        exact Nat.lt_trans h1 h2
    intro i j hi hj hij
    have := this (j - i - 1) i (by omega)
    simpa [show i + (j - i - 1) + 1 = j by omega] using this
  · obtain ⟨k, hk1, rfl⟩ := List.getElem_of_mem hg
    exact (hs k hk1).1
theorem ent_len {y : Ky} {l : List (Nat × Int)} (h : entB y l = true) : 1 ≤ l.length ∧ l.length ≤ 8 := by
  unfold entB at h
  simp only [Bool.and_eq_true, decide_eq_true_eq] at h
  exact h.2.2.1
theorem ent_rise {y : Ky} {l : List (Nat × Int)} (h : entB y l = true) : Rise l ∧ ∀ g ∈ l, 1 ≤ g.1 ∧ g.1 ≤ 9 := by
  unfold entB at h
  simp only [Bool.and_eq_true, decide_eq_true_eq] at h
  exact ris_rise h.2.2.2.1
theorem Fine.snoc {M : List Li} (h : Fine M) {x : Li} (h1 : x.y.In ∧ (∀ g ∈ x.l, LegIn g) ∧ Rise x.l ∧ (1 ≤ x.l.length ∧ x.l.length ≤ 8) ∧ ∀ g ∈ x.l, 1 ≤ g.1 ∧ g.1 ≤ 9) (h2 : okW (bal M x.y.a) x.l) (h3 : okW (ctl M) x.l)
    (h4 : 0 < x.o → x.o - 1 < M.length ∧ ∃ z, M[x.o - 1]? = some z ∧ z.o = 0 ∧ z.y = x.y) (h5 : x.o = 0 → entB x.y x.l = true) : Fine (M ++ [x]) := by
  have fa : ∀ a, fit9 (bal M a) := fun a c => by
    have := h.fita M.length a c
    rwa [List.take_length] at this
  have fc : fit9 (ctl M) := fun c => by
    have := h.fit M.length c
    rwa [List.take_length] at this
  have tk : ∀ n, (M ++ [x]).take n = M.take n ∨ (M ++ [x]).take n = M ++ [x] := fun n => by
    rcases Nat.lt_or_ge M.length n with hn | hn
    · exact .inr (List.take_of_length_le (by simp; omega))
    · exact .inl (List.take_append_of_le_length hn)
  refine ⟨fun z hz => ?_, fun n c => ?_, fun n a c => ?_, fun i z hz ho => ?_, fun z hz ho => ?_⟩
  · rcases List.mem_append.1 hz with hz | hz
    · exact h.inn z hz
    · rw [List.mem_singleton.1 hz]
      exact h1
  · rcases tk n with e | e
    · rw [e]; exact h.fit n c
    · rw [e, ctl_snoc]; exact okW_fit fc h3 c
  · rcases tk n with e | e
    · rw [e]; exact h.fita n a c
    · rw [e, bal_snoc]
      split
      · rename_i ha
        rw [← ha]
        exact okW_fit (fa _) h2 c
      · exact fa a c
  · rcases Nat.lt_trichotomy i M.length with hi | hi | hi
    · rw [List.getElem?_append_left hi] at hz
      obtain ⟨h6, z', h7, h8⟩ := h.of i z hz ho
      exact ⟨h6, z', by rw [List.getElem?_append_left (by omega)]; exact h7, h8⟩
    · subst hi
      simp at hz
      subst hz
      obtain ⟨h6, z', h7, h8⟩ := h4 ho
      exact ⟨h6, z', by rw [List.getElem?_append_left h6]; exact h7, h8⟩
    · rw [List.getElem?_eq_none (by simp; omega)] at hz
      cases hz
  · rcases List.mem_append.1 hz with hz | hz
    · exact h.post z hz ho
    · rw [List.mem_singleton.1 hz] at ho ⊢
      exact h5 ho
/-- The parts of a ledger of which the maps are made. -/
structure LedP (w : World) (q : Nat) (D : Nat → Prop) (M : List Li) (L : Ky → Option Nat) (b : Nat) (inn : Nat → Option Nat) : Prop where
  rest : ∃ (lv : Value) (V : List LinV) (bm : Nat), Blk w q 87 (ledC lv (.map (some b)) (.map (some bm)) M) ∧ OwnS linT 42 w 0 lv M.length V ∧ LegsAt w D M V ∧ BalAt w D M (some bm) ∧ (∀ g, lv.ownBlock = some g → D g) ∧ bm ≠ b ∧ ∀ a, inn a ≠ some bm
  live : LiveAt w D L (some b) inn
  fine : Fine M
  dq : D q
  lt : ∀ i, D i → i < w.heap.size
theorem LedL.parts {w : World} {q : Nat} {D : Nat → Prop} {M : List Li} {L : Ky → Option Nat} (h : LedL w q D M L) (hM : M ≠ []) : ∃ b inn, LedP w q D M L b inn := by
  obtain ⟨lv, V, lm, bm, inn, h1, h2, h3, h4, h5, h6, h7, h8, h9, h10, h11⟩ := h
  cases bm with
  | none => exact absurd (h5.nil rfl) hM
  | some bm =>
    cases lm with
    | none => exact absurd (h10.2 rfl) (by simp)
    | some b => exact ⟨b, inn, ⟨lv, V, bm, h1, h2, h3, h5, h8, fun e => (h11 bm rfl).1 (by rw [e]), (h11 bm rfl).2⟩, h4, h6, h7, h9⟩
theorem LedP.shut {w : World} {q b : Nat} {D : Nat → Prop} {M : List Li} {L : Ky → Option Nat} {inn : Nat → Option Nat} (h : LedP w q D M L b inn) : LedL w q D M L := by
  obtain ⟨lv, V, bm, h1, h2, h3, h5, h8, h9, h10⟩ := h.rest
  exact ⟨lv, V, some b, some bm, inn, h1, h2, h3, h.live, h5, h.fine, h.dq, h8, h.lt, by simp, fun b' hb' => by
    cases hb'
    exact ⟨fun e => h9 (by injection e with e; exact e.symm), h10⟩⟩
/-- Of a ledger's blocks one map has turned. -/
theorem LedP.turn {w w' : World} {q b r : Nat} {D D' : Nat → Prop} {M : List Li} {L L' : Ky → Option Nat} {inn inn' : Nat → Option Nat} (h : LedP w q D M L b inn) (hr : (r = b ∨ ∃ a, inn a = some r)) (hk : ∀ i, D i → i ≠ r → w'.heap[i]? = w.heap[i]?) (hm : ∃ es c, w.heap[r]? = some (.map es c)) (hs : w.heap.size ≤ w'.heap.size) (hD : ∀ i, D i → D' i) (hlt : ∀ i, D' i → i < w'.heap.size)
    (hl : LiveAt w' D' L' (some b) inn') (hi : ∀ a bm, inn' a = some bm → inn a = some bm ∨ w.heap.size ≤ bm) : LedP w' q D' M L' b inn' := by
  obtain ⟨lv, V, bm, h1, h2, h3, h5, h8, h9, h10⟩ := h.rest
  obtain ⟨es, c, hm⟩ := hm
  have hc : ∀ (g : Nat) (t : TypeId) (cs : Array Value), Blk w g t cs → g ≠ r := fun g t cs hb e => by
    subst e
    unfold Blk at hb
    rw [hb] at hm
    cases hm
  have hbm : bm ≠ r := fun e => by
    rcases hr with hr | ⟨a, ha⟩
    · exact h9 (by rw [e, hr])
    · exact h10 a (by rw [e]; exact ha)
  refine ⟨⟨lv, V, bm, (hk q h.dq (hc q _ _ h1)).trans h1, h2.same (fun g hg => by
    obtain ⟨cs, hcs⟩ := own_blk14 h2 hg
    exact hk g (h8 g hg) (hc g _ _ hcs)), h3.keep (fun i v p hv hp => by
    obtain ⟨cs, hcs⟩ := h3.t i v p hv hp
    obtain ⟨x, hx⟩ := h3.at_ hv
    exact hk _ ((h3.r i v x hv hx).2 p hp) (hc _ _ _ hcs)) hs hD, ⟨fun h => (by cases h), fun g hg => ?_⟩, fun g hg => hD _ (h8 g hg), h9, fun a ha => ?_⟩, hl, h.fine, hD _ h.dq, hlt⟩
  · cases hg
    exact ⟨hD _ (h5.out bm rfl).1, (h5.out bm rfl).2.keep (hk bm (h5.out bm rfl).1 hbm)⟩
  · rcases hi a bm ha with h | h'
    · exact h10 a h
    · have := h.lt bm (h5.out bm rfl).1
      omega
def setL (L : Ky → Option Nat) (y : Ky) (o : Option Nat) : Ky → Option Nat := fun k => if k = y then o else L k
/-- An entry of an inner map is written, or goes. -/
theorem LedP.inner {w w' : World} {q b r : Nat} {D : Nat → Prop} {M : List Li} {L : Ky → Option Nat} {inn : Nat → Option Nat} (h : LedP w q D M L b inn) {y : Ky} (hr : inn y.a = some r) (o : Option Nat)
    (hm : MapF w' Ky.In Ky.v r (upd (fun k => if k.a = y.a then (L k).map natV else none) y (o.map natV))) (hk : ∀ i, i ≠ r → i < w.heap.size → w'.heap[i]? = w.heap[i]?) (hs : w.heap.size ≤ w'.heap.size) : LedP w' q D M (setL L y o) b inn := by
  have hl := h.live
  obtain ⟨es, c, hb, _⟩ := (hl.at_ _ r hr).2
  have hrb : r ≠ b := fun e => (hl.out b rfl).2.2 y.a (by rw [hr, e])
  refine h.turn (.inr ⟨_, hr⟩) (fun i hi hn => hk i hn (h.lt i hi)) ⟨es, c, hb⟩ hs (fun _ h => h) (fun i hi => Nat.lt_of_lt_of_le (h.lt i hi) hs) ⟨fun e => (by cases e), fun g hg => ?_, fun a r' hr' => ?_, fun k hk' => ?_, hl.one⟩ (fun a bm ha => .inl ha)
  · cases hg
    exact ⟨(hl.out b rfl).1, (hl.out b rfl).2.1.keep (hk b (fun e => hrb e.symm) (h.lt b (hl.out b rfl).1)), (hl.out b rfl).2.2⟩
  · refine ⟨(hl.at_ a r' hr').1, ?_⟩
    by_cases ha : a = y.a
    · subst ha
      rw [hr] at hr'
      cases hr'
      have : (fun k : Ky => if k.a = y.a then (setL L y o k).map natV else none) = upd (fun k => if k.a = y.a then (L k).map natV else none) y (o.map natV) := by
        funext k
        unfold upd setL
        by_cases hky : k = y
        · subst hky
          simp
        · simp [hky]
      rw [this]
      exact hm
    · have hne : r' ≠ r := fun e => ha (hl.one a y.a r' hr' (by rw [hr, e]))
      have : (fun k : Ky => if k.a = a then (setL L y o k).map natV else none) = fun k => if k.a = a then (L k).map natV else none := by
        funext k
        unfold setL
        by_cases hky : k = y
        · subst hky
          rw [if_neg (fun e => ha e.symm), if_neg (fun e => ha e.symm)]
        · rw [if_neg hky]
      rw [this]
      exact (hl.at_ a r' hr').2.keep (hk r' hne (h.lt r' (hl.at_ a r' hr').1))
  · unfold setL
    by_cases hky : k = y
    · subst hky
      rw [hr] at hk'
      cases hk'
    · rw [if_neg hky]
      exact hl.no k hk'
/-- A loan gets a map of its own. -/
theorem LedP.room {w w' : World} {q b r : Nat} {D : Nat → Prop} {M : List Li} {L : Ky → Option Nat} {inn : Nat → Option Nat} (h : LedP w q D M L b inn) {a : Nat} (hr : inn a = none) (hn : w.heap.size ≤ r) (hrl : r < w'.heap.size)
    (hm : MapF w' u32In u32E b (upd (fun a => (inn a).map (fun r => .map (some r))) a (some (.map (some r))))) (he : MapF w' Ky.In Ky.v r (fun _ => none)) (hk : ∀ i, i ≠ b → i < w.heap.size → w'.heap[i]? = w.heap[i]?) (hs : w.heap.size ≤ w'.heap.size) : LedP w' q (fun i => D i ∨ i = r) M L b (fun x => if x = a then some r else inn x) := by
  have hl := h.live
  obtain ⟨es, c, hb, _⟩ := (hl.out b rfl).2.1
  refine h.turn (.inl rfl) (fun i hi hn => hk i hn (h.lt i hi)) ⟨es, c, hb⟩ hs (fun _ h => .inl h) (fun i hi => ?_) ⟨fun e => (by cases e), fun g hg => ?_, fun x r' hr' => ?_, fun k hk' => ?_, fun x x' r' h1 h2 => ?_⟩ (fun x bm hx => ?_)
  · rcases hi with hi | rfl
    · exact Nat.lt_of_lt_of_le (h.lt i hi) hs
    · exact hrl
  · cases hg
    refine ⟨.inl (hl.out b rfl).1, ?_, fun x => ?_⟩
    · have : (fun x => ((if x = a then some r else inn x).map (fun r => (.map (some r) : Value)))) = upd (fun a => (inn a).map (fun r => .map (some r))) a (some (.map (some r))) := by
        funext x
        unfold upd
        by_cases hx : x = a
        · simp [hx]
        · simp [hx]
      rw [this]
      exact hm
    · have hbl := h.lt b (hl.out b rfl).1
      by_cases hx : x = a
      · simp only [hx, if_true]
        intro e
        injection e with e
        omega
      · simp only [hx, if_false]
        exact (hl.out b rfl).2.2 x
  · by_cases hx : x = a
    · subst hx
      simp only [if_true] at hr'
      cases hr'
      refine ⟨.inr rfl, ?_⟩
      have : (fun k : Ky => if k.a = x then (L k).map natV else none) = fun _ => none := by
        funext k
        by_cases hk2 : k.a = x
        · rw [if_pos hk2, hl.no k (by rw [hk2]; exact hr)]
          rfl
        · rw [if_neg hk2]
      rw [this]
      exact he
    · simp only [hx, if_false] at hr'
      have h3 := h.lt r' (hl.at_ x r' hr').1
      exact ⟨.inl (hl.at_ x r' hr').1, (hl.at_ x r' hr').2.keep (hk r' (fun e => (hl.out b rfl).2.2 x (by rw [hr', e])) h3)⟩
  · by_cases hx : k.a = a
    · simp [hx] at hk'
    · simp only [hx, if_false] at hk'
      exact hl.no k hk'
  · by_cases hx : x = a <;> by_cases hx' : x' = a
    · rw [hx, hx']
    · simp only [hx, if_true, hx', if_false] at h1 h2
      cases h1
      have := h.lt r (hl.at_ x' r h2).1
      omega
    · simp only [hx, if_false, hx', if_true] at h1 h2
      cases h2
      have := h.lt r (hl.at_ x r h1).1
      omega
    · simp only [hx, if_false, hx'] at h1 h2
      exact hl.one x x' r' h1 h2
  · by_cases hx' : x = a
    · simp only [hx', if_true] at hx
      cases hx
      exact .inr hn
    · simp only [hx', if_false] at hx
      exact .inl hx
end Go.Proofs.YtabiaeicejgeiaaGreatDoor
