/-
A ledger with a line more. No condition.
What a ledger's maps become; lines that may be. No condition.
Ledger.add: a line more, or its error. Conditions: the ledger is there; the line may be.
Ledger.Line, Live, Balance, Control. Conditions: the ledger is there.
-/
import Derived.Test.YtdnnkdldolhbpaaGreatDoorLedEX9
import Derived.Test.YtdnnkdldolhbpaaGreatDoorTurCX9
import Derived.Test.YtdnnkdldolhbpaaGreatDoorLedGX9
import Derived.Deep.CutBlock
import Derived.Deep.RegionLaw
namespace Go.Proofs.YtdnnkdldolhbpaaGreatDoor
open Go.ChangeShapes Go.WideShapes Go.ChangeAt Go.RowKit Go.Maps

def balF (M : List Li) : Nat → Option Value := fun a => if hasLn M a then some (.agg (vec (bal M a))) else none
theorem bal_no {M : List Li} {a : Nat} (h : hasLn M a = false) : bal M a = fun _ => 0 := by
  funext c
  unfold bal
  induction M with
  | nil => rfl
  | cons x r ih =>
    unfold hasLn at h ih
    rw [List.any_cons, Bool.or_eq_false_iff] at h
    simp only [sumB, loanP, h.1]
    rw [ih h.2]
    rfl
theorem bal_snoc (M : List Li) (x : Li) (a : Nat) : bal (M ++ [x]) a = if x.y.a = a then plusL (bal M a) x.l else bal M a := by
  funext c
  unfold bal
  rw [sumB_snoc]
  by_cases h : x.y.a = a
  · rw [if_pos h]
    simp [loanP, h, plusL]
  · rw [if_neg h]
    simp [loanP, h]
theorem ctl_snoc (M : List Li) (x : Li) : ctl (M ++ [x]) = plusL (ctl M) x.l := by
  funext c
  unfold ctl plusL
  rw [sumB_snoc]
  simp [allP]
theorem balF_snoc (M : List Li) (x : Li) : balF (M ++ [x]) = upd (balF M) x.y.a (some (.agg (vec (plusL (bal M x.y.a) x.l)))) := by
  funext a
  by_cases h : a = x.y.a
  · subst h
    rw [upd_same]
    unfold balF hasLn
    rw [List.any_append]
    simp [bal_snoc]
  · rw [upd_other _ h]
    unfold balF hasLn
    rw [List.any_append]
    have h2 : ¬ x.y.a = a := fun e => h e.symm
    simp [h2, bal_snoc]
theorem blk_ne {w : World} {g g' : Nat} {t t' : TypeId} {cs cs' : Array Value} (h : Blk w g t cs) (h' : Blk w g' t' cs') (ht : t ≠ t') : g ≠ g' := by
  rintro rfl
  unfold Blk at h h'
  rw [h] at h'
  injection h' with h'
  injection h' with _ h2
  exact ht h2
theorem blk_map {κ : Type} {In : κ → Prop} {enc : κ → Value} {f : κ → Option Value} {w : World} {g b : Nat} {t : TypeId} {cs : Array Value} (h : Blk w g t cs) (h' : MapF w In enc b f) : g ≠ b := by
  rintro rfl
  obtain ⟨es, c, hb, _⟩ := h'
  unfold Blk at h
  rw [h] at hb
  cases hb
theorem own_blk14 {α : Type} {T : Lies α} {e : TypeId} {w : World} {base n g : Nat} {v : Value} {l : List α} (h : OwnS T e w base v n l) (hg : v.ownBlock = some g) : ∃ cs, Blk w g e cs := by
  unfold OwnS at h
  rcases h.2 with ⟨rfl, _⟩ | ⟨g', cap, cur, rfl, _, hb, _⟩
  · simp [Value.ownBlock] at hg
  · simp [Value.ownBlock] at hg
    subst hg
    exact ⟨cur, hb⟩
theorem legNe : (53 : TypeId) ≠ 87 ∧ (53 : TypeId) ≠ 42 ∧ (87 : TypeId) ≠ 42 := by decide
theorem LedL.added {w w' : World} {q b : Nat} {D : Nat → Prop} {M : List Li} {L : Ky → Option Nat} {lv v2 : Value} {V : List LinV} {lm : Option Nat} {inn : Nat → Option Nat} {x : Li} {A : Option Addr} {c : Nat}
    (h1 : Blk w q 87 (ledC lv (.map lm) (.map (some b)) M)) (h2 : OwnS linT 42 w 0 lv M.length V) (h3 : LegsAt w D M V) (h4 : LiveAt w D L lm inn) (h5 : BalAt w D M (some b)) (h7 : D q) (h8 : ∀ b, lv.ownBlock = some b → D b) (h9 : ∀ i, D i → i < w.heap.size) (h10 : lm ≠ none) (h11 : lm ≠ some b ∧ ∀ a, inn a ≠ some b)
    (hF : Fine (M ++ [x])) (k1 : Blk w' q 87 (ledC v2 (.map lm) (.map (some b)) (M ++ [x]))) (k2 : OwnS linT 42 w' 0 v2 (M.length + 1) (V ++ [⟨x.y, A, x.l.length, c, x.o⟩]))
    (k3 : MapF w' u32In u32E b (upd (balF M) x.y.a (some (.agg (vec (plusL (bal M x.y.a) x.l)))))) (k4 : ∀ i, D i → i ≠ q → i ≠ b → lv.ownBlock ≠ some i → w'.heap[i]? = w.heap[i]?) (k5 : w.heap.size ≤ w'.heap.size) (k6 : ∀ g, v2.ownBlock = some g → lv.ownBlock = some g ∨ w.heap.size ≤ g)
    (k7 : OwnS legT 53 w' 0 (.slice A x.l.length c) x.l.length x.l) :
    LedL w' q (fun i => D i ∨ (Value.slice A x.l.length c).ownBlock = some i ∨ (w.heap.size ≤ i ∧ i < w'.heap.size)) (M ++ [x]) L := by
  obtain ⟨n1, n2, n3⟩ := legNe
  have hrow : ∀ (i : Nat) (cs : Array Value) (t : TypeId), Blk w i t cs → t ≠ 42 → lv.ownBlock ≠ some i := fun i cs t hb ht he => by
    obtain ⟨cs', hb'⟩ := own_blk14 h2 he
    exact blk_ne hb hb' ht rfl
  have hmap : ∀ {κ : Type} {In : κ → Prop} {enc : κ → Value} {f : κ → Option Value} (r : Nat), D r → r ≠ b → MapF w In enc r f → w'.heap[r]? = w.heap[r]? := fun r hr hrb hm => by
    refine k4 r hr (fun e => blk_map h1 hm e.symm) hrb (fun he => ?_)
    obtain ⟨cs', hb'⟩ := own_blk14 h2 he
    exact blk_map hb' hm rfl
  refine ⟨v2, V ++ [⟨x.y, A, x.l.length, c, x.o⟩], lm, some b, inn, k1, by rw [List.length_append]; exact k2, ?_, ?_, ⟨fun h => (by cases h), fun b' hb' => ?_⟩, hF, .inl h7, fun g hg => ?_, fun i hi => ?_, ⟨fun h => (by cases h), fun h => absurd h h10⟩, fun b' hb' => ?_⟩
  · have hk := h3.keep (w' := w') (D' := fun i => D i ∨ (Value.slice A x.l.length c).ownBlock = some i ∨ (w.heap.size ≤ i ∧ i < w'.heap.size)) (fun i v p hv hp => by
      obtain ⟨cs, hc⟩ := h3.t i v p hv hp
      obtain ⟨z, hz⟩ := h3.at_ hv
      exact k4 _ ((h3.r i v z hv hz).2 p hp) (blk_ne hc h1 n1) (blk_map hc (h5.out b rfl).2) (hrow _ cs _ hc n2)) k5 (fun i h => .inl h)
    have split : ∀ (i : Nat) v, (V ++ [⟨x.y, A, x.l.length, c, x.o⟩])[i]? = some v → V[i]? = some v ∨ (i = V.length ∧ v = ⟨x.y, A, x.l.length, c, x.o⟩) := fun i v hv => by
      rcases Nat.lt_trichotomy i V.length with h | h | h
      · rw [List.getElem?_append_left h] at hv
        exact .inl hv
      · subst h
        simp at hv
        exact .inr ⟨rfl, hv.symm⟩
      · rw [List.getElem?_eq_none (by simp; omega)] at hv
        cases hv
    have splitM : ∀ (i : Nat) z, i < M.length → (M ++ [x])[i]? = some z → M[i]? = some z := fun i z hi hz => by
      rw [List.getElem?_append_left hi] at hz
      exact hz
    refine ⟨by simp [h3.len], fun i v z hv hz => ?_, fun i v z hv hz => ?_, fun i v p hv hp => ?_⟩
    · rcases split i v hv with h | ⟨rfl, rfl⟩
      · have := (List.getElem?_eq_some_iff.1 h).1
        exact hk.y i v z h (splitM i z (by rw [← h3.len]; exact this) hz)
      · rw [h3.len] at hz
        simp at hz
        subst hz
        exact ⟨rfl, rfl, rfl⟩
    · rcases split i v hv with h | ⟨rfl, rfl⟩
      · have := (List.getElem?_eq_some_iff.1 h).1
        exact hk.r i v z h (splitM i z (by rw [← h3.len]; exact this) hz)
      · rw [h3.len] at hz
        simp at hz
        subst hz
        obtain ⟨_, A', c', he, _, _, hr⟩ := k7.form (by decide)
        injection he with he1 he2 he3
        subst he1
        refine ⟨hr, fun p hp => .inr (.inl ?_)⟩
        simp only at hp
        rw [hp]
        rfl
    · rcases split i v hv with h | ⟨rfl, rfl⟩
      · exact hk.t i v p h hp
      · simp only at hp
        subst hp
        exact own_blk14 k7 rfl
  · exact h4.keep (fun g hg => hmap g (h4.out g hg).1 (fun e => h11.1 (by rw [hg, e])) (h4.out g hg).2.1) (fun a r hr => hmap r (h4.at_ a r hr).1 (fun e => h11.2 a (by rw [hr, e])) (h4.at_ a r hr).2) (fun i h => .inl h)
  · cases hb'
    refine ⟨.inl (h5.out b rfl).1, ?_⟩
    have := balF_snoc M x
    unfold balF at this k3
    rw [this]
    exact k3
  · rcases k6 g hg with h | h
    · exact .inl (h8 g h)
    · obtain ⟨cs, hc⟩ := own_blk14 k2 hg
      exact .inr (.inr ⟨h, hc.lt⟩)
  · rcases hi with hi | hi | hi
    · exact Nat.lt_of_lt_of_le (h9 i hi) k5
    · obtain ⟨cs, hc⟩ := own_blk14 k7 hi
      exact hc.lt
    · exact hi.2
  · cases hb'
    exact h11
end Go.Proofs.YtdnnkdldolhbpaaGreatDoor
namespace Go.Proofs.YtdnnkdldolhbpaaGreatDoor
open Go.ChangeShapes Go.WideShapes Go.ChangeAt Go.RowKit Go.Maps

theorem okW_fit {f : Nat → Int} {l : List (Nat × Int)} (hF : fit9 f) (h : okW f l) : fit9 (plusL f l) := by
  have : ∀ k, k ≤ l.length → fit9 (plusL f (l.take k)) := by
    intro k
    induction k with
    | zero => intro _; rw [plusL_zero]; exact hF
    | succ k ih =>
      intro hk c
      rw [plusL_step f (show k < l.length by omega)]
      split
      · rename_i hc
        rw [← hc]
        exact h k (by omega)
      · exact ih (by omega) c
  have h2 := this l.length (Nat.le_refl _)
  rwa [List.take_length] at h2
theorem ris_rise {l : List (Nat × Int)} (h : risTo l l.length = true) : Rise l ∧ ∀ g ∈ l, 1 ≤ g.1 ∧ g.1 ≤ 9 := by
  have hk : ∀ k, k ≤ l.length → risTo l k = true := fun k hk => by
    cases e : risTo l k with
    | true => rfl
    | false => rw [risTo_end hk e] at h; cases h
  have hs : ∀ k, (hl : k < l.length) → (1 ≤ (l[k]).1 ∧ (l[k]).1 ≤ 9) ∧ (k ≠ 0 → (l.getD (k - 1) (0, 0)).1 < (l[k]).1) := fun k hl => by
    have h1 := hk (k + 1) hl
    rw [risTo_step (x := (l[k]).1) (by rw [getD_leg hl])] at h1
    simp only [Bool.and_eq_true, Bool.or_eq_true, decide_eq_true_eq, beq_iff_eq] at h1
    refine ⟨⟨h1.2.1.1, h1.2.1.2⟩, fun h0 => ?_⟩
    rcases h1.2.2 with h | h
    · exact absurd h h0
    · exact h
  refine ⟨?_, fun g hg => ?_⟩
  · unfold Rise
    rw [List.pairwise_iff_getElem]
    have : ∀ d i, (hd : i + d + 1 < l.length) → (l[i]'(by omega)).1 < (l[i + d + 1]).1 := by
      intro d
      induction d with
      | zero =>
        intro i hd
        have h1 := (hs (i + 1) hd).2 (by omega)
        simp only [Nat.add_sub_cancel] at h1
        rw [getD_leg (by omega)] at h1
        exact h1
      | succ d ih =>
        intro i hd
        have h1 := ih i (by omega)
        have h2 := (hs (i + d + 1 + 1) hd).2 (by omega)
        simp only [Nat.add_sub_cancel] at h2
        rw [getD_leg (by omega)] at h2
        exact Nat.lt_trans h1 h2
    intro i j hi hj hij
    have := this (j - i - 1) i (by omega)
    simpa [show i + (j - i - 1) + 1 = j by omega] using this
  · obtain ⟨k, hk1, rfl⟩ := List.getElem_of_mem hg
    exact (hs k hk1).1
theorem ent_len {y : Ky} {l : List (Nat × Int)} (h : entB y l = true) : 1 ≤ l.length ∧ l.length ≤ 8 := by
  unfold entB at h
  simp only [Bool.and_eq_true, decide_eq_true_eq] at h
  exact h.2.2.1
theorem ent_rise {y : Ky} {l : List (Nat × Int)} (h : entB y l = true) : Rise l ∧ ∀ g ∈ l, 1 ≤ g.1 ∧ g.1 ≤ 9 := by
  unfold entB at h
  simp only [Bool.and_eq_true, decide_eq_true_eq] at h
  exact ris_rise h.2.2.2.1
theorem Fine.snoc {M : List Li} (h : Fine M) {x : Li} (h1 : x.y.In ∧ (∀ g ∈ x.l, LegIn g) ∧ Rise x.l ∧ (1 ≤ x.l.length ∧ x.l.length ≤ 8) ∧ ∀ g ∈ x.l, 1 ≤ g.1 ∧ g.1 ≤ 9) (h2 : okW (bal M x.y.a) x.l) (h3 : okW (ctl M) x.l)
    (h4 : 0 < x.o → x.o - 1 < M.length ∧ ∃ z, M[x.o - 1]? = some z ∧ z.o = 0 ∧ z.y = x.y) (h5 : x.o = 0 → entB x.y x.l = true) : Fine (M ++ [x]) := by
  have fa : ∀ a, fit9 (bal M a) := fun a c => by
    have := h.fita M.length a c
    rwa [List.take_length] at this
  have fc : fit9 (ctl M) := fun c => by
    have := h.fit M.length c
    rwa [List.take_length] at this
  have tk : ∀ n, (M ++ [x]).take n = M.take n ∨ (M ++ [x]).take n = M ++ [x] := fun n => by
    rcases Nat.lt_or_ge M.length n with hn | hn
    · exact .inr (List.take_of_length_le (by simp; omega))
    · exact .inl (List.take_append_of_le_length hn)
  refine ⟨fun z hz => ?_, fun n c => ?_, fun n a c => ?_, fun i z hz ho => ?_, fun z hz ho => ?_⟩
  · rcases List.mem_append.1 hz with hz | hz
    · exact h.inn z hz
    · rw [List.mem_singleton.1 hz]
      exact h1
  · rcases tk n with e | e
    · rw [e]; exact h.fit n c
    · rw [e, ctl_snoc]; exact okW_fit fc h3 c
  · rcases tk n with e | e
    · rw [e]; exact h.fita n a c
    · rw [e, bal_snoc]
      split
      · rename_i ha
        rw [← ha]
        exact okW_fit (fa _) h2 c
      · exact fa a c
  · rcases Nat.lt_trichotomy i M.length with hi | hi | hi
    · rw [List.getElem?_append_left hi] at hz
      obtain ⟨h6, z', h7, h8⟩ := h.of i z hz ho
      exact ⟨h6, z', by rw [List.getElem?_append_left (by omega)]; exact h7, h8⟩
    · subst hi
      simp at hz
      subst hz
      obtain ⟨h6, z', h7, h8⟩ := h4 ho
      exact ⟨h6, z', by rw [List.getElem?_append_left h6]; exact h7, h8⟩
    · rw [List.getElem?_eq_none (by simp; omega)] at hz
      cases hz
  · rcases List.mem_append.1 hz with hz | hz
    · exact h.post z hz ho
    · rw [List.mem_singleton.1 hz] at ho ⊢
      exact h5 ho
/-- The parts of a ledger of which the maps are made. -/
structure LedP (w : World) (q : Nat) (D : Nat → Prop) (M : List Li) (L : Ky → Option Nat) (b : Nat) (inn : Nat → Option Nat) : Prop where
  rest : ∃ (lv : Value) (V : List LinV) (bm : Nat), Blk w q 87 (ledC lv (.map (some b)) (.map (some bm)) M) ∧ OwnS linT 42 w 0 lv M.length V ∧ LegsAt w D M V ∧ BalAt w D M (some bm) ∧ (∀ g, lv.ownBlock = some g → D g) ∧ bm ≠ b ∧ ∀ a, inn a ≠ some bm
  live : LiveAt w D L (some b) inn
  fine : Fine M
  dq : D q
  lt : ∀ i, D i → i < w.heap.size
theorem LedL.parts {w : World} {q : Nat} {D : Nat → Prop} {M : List Li} {L : Ky → Option Nat} (h : LedL w q D M L) (hM : M ≠ []) : ∃ b inn, LedP w q D M L b inn := by
  obtain ⟨lv, V, lm, bm, inn, h1, h2, h3, h4, h5, h6, h7, h8, h9, h10, h11⟩ := h
  cases bm with
  | none => exact absurd (h5.nil rfl) hM
  | some bm =>
    cases lm with
    | none => exact absurd (h10.2 rfl) (by simp)
    | some b => exact ⟨b, inn, ⟨lv, V, bm, h1, h2, h3, h5, h8, fun e => (h11 bm rfl).1 (by rw [e]), (h11 bm rfl).2⟩, h4, h6, h7, h9⟩
theorem LedP.shut {w : World} {q b : Nat} {D : Nat → Prop} {M : List Li} {L : Ky → Option Nat} {inn : Nat → Option Nat} (h : LedP w q D M L b inn) : LedL w q D M L := by
  obtain ⟨lv, V, bm, h1, h2, h3, h5, h8, h9, h10⟩ := h.rest
  exact ⟨lv, V, some b, some bm, inn, h1, h2, h3, h.live, h5, h.fine, h.dq, h8, h.lt, by simp, fun b' hb' => by
    cases hb'
    exact ⟨fun e => h9 (by injection e with e; exact e.symm), h10⟩⟩
/-- Of a ledger's blocks one map has turned. -/
theorem LedP.turn {w w' : World} {q b r : Nat} {D D' : Nat → Prop} {M : List Li} {L L' : Ky → Option Nat} {inn inn' : Nat → Option Nat} (h : LedP w q D M L b inn) (hr : (r = b ∨ ∃ a, inn a = some r)) (hk : ∀ i, D i → i ≠ r → w'.heap[i]? = w.heap[i]?) (hm : ∃ es c, w.heap[r]? = some (.map es c)) (hs : w.heap.size ≤ w'.heap.size) (hD : ∀ i, D i → D' i) (hlt : ∀ i, D' i → i < w'.heap.size)
    (hl : LiveAt w' D' L' (some b) inn') (hi : ∀ a bm, inn' a = some bm → inn a = some bm ∨ w.heap.size ≤ bm) : LedP w' q D' M L' b inn' := by
  obtain ⟨lv, V, bm, h1, h2, h3, h5, h8, h9, h10⟩ := h.rest
  obtain ⟨es, c, hm⟩ := hm
  have hc : ∀ (g : Nat) (t : TypeId) (cs : Array Value), Blk w g t cs → g ≠ r := fun g t cs hb e => by
    subst e
    unfold Blk at hb
    rw [hb] at hm
    cases hm
  have hbm : bm ≠ r := fun e => by
    rcases hr with hr | ⟨a, ha⟩
    · exact h9 (by rw [e, hr])
    · exact h10 a (by rw [e]; exact ha)
  refine ⟨⟨lv, V, bm, (hk q h.dq (hc q _ _ h1)).trans h1, h2.same (fun g hg => by
    obtain ⟨cs, hcs⟩ := own_blk14 h2 hg
    exact hk g (h8 g hg) (hc g _ _ hcs)), h3.keep (fun i v p hv hp => by
    obtain ⟨cs, hcs⟩ := h3.t i v p hv hp
    obtain ⟨x, hx⟩ := h3.at_ hv
    exact hk _ ((h3.r i v x hv hx).2 p hp) (hc _ _ _ hcs)) hs hD, ⟨fun h => (by cases h), fun g hg => ?_⟩, fun g hg => hD _ (h8 g hg), h9, fun a ha => ?_⟩, hl, h.fine, hD _ h.dq, hlt⟩
  · cases hg
    exact ⟨hD _ (h5.out bm rfl).1, (h5.out bm rfl).2.keep (hk bm (h5.out bm rfl).1 hbm)⟩
  · rcases hi a bm ha with h | h'
    · exact h10 a h
    · have := h.lt bm (h5.out bm rfl).1
      omega
def setL (L : Ky → Option Nat) (y : Ky) (o : Option Nat) : Ky → Option Nat := fun k => if k = y then o else L k
/-- An entry of an inner map is written, or goes. -/
theorem LedP.inner {w w' : World} {q b r : Nat} {D : Nat → Prop} {M : List Li} {L : Ky → Option Nat} {inn : Nat → Option Nat} (h : LedP w q D M L b inn) {y : Ky} (hr : inn y.a = some r) (o : Option Nat)
    (hm : MapF w' Ky.In Ky.v r (upd (fun k => if k.a = y.a then (L k).map natV else none) y (o.map natV))) (hk : ∀ i, i ≠ r → i < w.heap.size → w'.heap[i]? = w.heap[i]?) (hs : w.heap.size ≤ w'.heap.size) : LedP w' q D M (setL L y o) b inn := by
  have hl := h.live
  obtain ⟨es, c, hb, _⟩ := (hl.at_ _ r hr).2
  have hrb : r ≠ b := fun e => (hl.out b rfl).2.2 y.a (by rw [hr, e])
  refine h.turn (.inr ⟨_, hr⟩) (fun i hi hn => hk i hn (h.lt i hi)) ⟨es, c, hb⟩ hs (fun _ h => h) (fun i hi => Nat.lt_of_lt_of_le (h.lt i hi) hs) ⟨fun e => (by cases e), fun g hg => ?_, fun a r' hr' => ?_, fun k hk' => ?_, hl.one⟩ (fun a bm ha => .inl ha)
  · cases hg
    exact ⟨(hl.out b rfl).1, (hl.out b rfl).2.1.keep (hk b (fun e => hrb e.symm) (h.lt b (hl.out b rfl).1)), (hl.out b rfl).2.2⟩
  · refine ⟨(hl.at_ a r' hr').1, ?_⟩
    by_cases ha : a = y.a
    · subst ha
      rw [hr] at hr'
      cases hr'
      have : (fun k : Ky => if k.a = y.a then (setL L y o k).map natV else none) = upd (fun k => if k.a = y.a then (L k).map natV else none) y (o.map natV) := by
        funext k
        unfold upd setL
        by_cases hky : k = y
        · subst hky
          simp
        · simp [hky]
      rw [this]
      exact hm
    · have hne : r' ≠ r := fun e => ha (hl.one a y.a r' hr' (by rw [hr, e]))
      have : (fun k : Ky => if k.a = a then (setL L y o k).map natV else none) = fun k => if k.a = a then (L k).map natV else none := by
        funext k
        unfold setL
        by_cases hky : k = y
        · subst hky
          rw [if_neg (fun e => ha e.symm), if_neg (fun e => ha e.symm)]
        · rw [if_neg hky]
      rw [this]
      exact (hl.at_ a r' hr').2.keep (hk r' hne (h.lt r' (hl.at_ a r' hr').1))
  · unfold setL
    by_cases hky : k = y
    · subst hky
      rw [hr] at hk'
      cases hk'
    · rw [if_neg hky]
      exact hl.no k hk'
/-- A loan gets a map of its own. -/
theorem LedP.room {w w' : World} {q b r : Nat} {D : Nat → Prop} {M : List Li} {L : Ky → Option Nat} {inn : Nat → Option Nat} (h : LedP w q D M L b inn) {a : Nat} (hr : inn a = none) (hn : w.heap.size ≤ r) (hrl : r < w'.heap.size)
    (hm : MapF w' u32In u32E b (upd (fun a => (inn a).map (fun r => .map (some r))) a (some (.map (some r))))) (he : MapF w' Ky.In Ky.v r (fun _ => none)) (hk : ∀ i, i ≠ b → i < w.heap.size → w'.heap[i]? = w.heap[i]?) (hs : w.heap.size ≤ w'.heap.size) : LedP w' q (fun i => D i ∨ i = r) M L b (fun x => if x = a then some r else inn x) := by
  have hl := h.live
  obtain ⟨es, c, hb, _⟩ := (hl.out b rfl).2.1
  refine h.turn (.inl rfl) (fun i hi hn => hk i hn (h.lt i hi)) ⟨es, c, hb⟩ hs (fun _ h => .inl h) (fun i hi => ?_) ⟨fun e => (by cases e), fun g hg => ?_, fun x r' hr' => ?_, fun k hk' => ?_, fun x x' r' h1 h2 => ?_⟩ (fun x bm hx => ?_)
  · rcases hi with hi | rfl
    · exact Nat.lt_of_lt_of_le (h.lt i hi) hs
    · exact hrl
  · cases hg
    refine ⟨.inl (hl.out b rfl).1, ?_, fun x => ?_⟩
    · have : (fun x => ((if x = a then some r else inn x).map (fun r => (.map (some r) : Value)))) = upd (fun a => (inn a).map (fun r => .map (some r))) a (some (.map (some r))) := by
        funext x
        unfold upd
        by_cases hx : x = a
        · simp [hx]
        · simp [hx]
      rw [this]
      exact hm
    · have hbl := h.lt b (hl.out b rfl).1
      by_cases hx : x = a
      · simp only [hx, if_true]
        intro e
        injection e with e
        omega
      · simp only [hx, if_false]
        exact (hl.out b rfl).2.2 x
  · by_cases hx : x = a
    · subst hx
      simp only [if_true] at hr'
      cases hr'
      refine ⟨.inr rfl, ?_⟩
      have : (fun k : Ky => if k.a = x then (L k).map natV else none) = fun _ => none := by
        funext k
        by_cases hk2 : k.a = x
        · rw [if_pos hk2, hl.no k (by rw [hk2]; exact hr)]
          rfl
        · rw [if_neg hk2]
      rw [this]
      exact he
    · simp only [hx, if_false] at hr'
      have h3 := h.lt r' (hl.at_ x r' hr').1
      exact ⟨.inl (hl.at_ x r' hr').1, (hl.at_ x r' hr').2.keep (hk r' (fun e => (hl.out b rfl).2.2 x (by rw [hr', e])) h3)⟩
  · by_cases hx : k.a = a
    · simp [hx] at hk'
    · simp only [hx, if_false] at hk'
      exact hl.no k hk'
  · by_cases hx : x = a <;> by_cases hx' : x' = a
    · rw [hx, hx']
    · simp only [hx, if_true, hx', if_false] at h1 h2
      cases h1
      have := h.lt r (hl.at_ x' r h2).1
      omega
    · simp only [hx, if_false, hx', if_true] at h1 h2
      cases h2
      have := h.lt r (hl.at_ x r h1).1
      omega
    · simp only [hx, if_false, hx'] at h1 h2
      exact hl.one x x' r' h1 h2
  · by_cases hx' : x = a
    · simp only [hx', if_true] at hx
      cases hx
      exact .inr hn
    · simp only [hx', if_false] at hx
      exact .inl hx
end Go.Proofs.YtdnnkdldolhbpaaGreatDoor
namespace Go.Proofs.YtdnnkdldolhbpaaGreatDoor
open Go.ChangeShapes Go.WideShapes Go.ChangeAt Go.RowKit Go.Maps Go.ChangeMaps

/-- A ledger's parts, once its maps are made. -/
structure LedO (w : World) (q : Nat) (D : Nat → Prop) (M : List Li) (L : Ky → Option Nat) (lv : Value) (V : List LinV) (lm : Option Nat) (b : Nat) (inn : Nat → Option Nat) : Prop where
  h1 : Blk w q 87 (ledC lv (.map lm) (.map (some b)) M)
  h2 : OwnS linT 42 w 0 lv M.length V
  h3 : LegsAt w D M V
  h4 : LiveAt w D L lm inn
  h5 : BalAt w D M (some b)
  h7 : D q
  h8 : ∀ g, lv.ownBlock = some g → D g
  h9 : ∀ i, D i → i < w.heap.size
  h10 : lm ≠ none
  h11 : lm ≠ some b ∧ ∀ a, inn a ≠ some b
theorem LedO.same {w w' : World} {q : Nat} {D : Nat → Prop} {M : List Li} {L : Ky → Option Nat} {lv : Value} {V : List LinV} {lm : Option Nat} {b : Nat} {inn : Nat → Option Nat} (h : LedO w q D M L lv V lm b inn) (hk : ∀ i, D i → w'.heap[i]? = w.heap[i]?) (hs : w.heap.size ≤ w'.heap.size) : LedO w' q D M L lv V lm b inn :=
  ⟨(hk q h.h7).trans h.h1, h.h2.same (fun g hg => hk g (h.h8 g hg)), h.h3.same hk hs, h.h4.same hk, h.h5.same hk, h.h7, h.h8, fun i hi => Nat.lt_of_lt_of_le (h.h9 i hi) hs, h.h10, h.h11⟩
def okAdd (M : List Li) (a : Nat) (l : List (Nat × Int)) : Prop := okW (bal M a) l ∧ okW (ctl M) l
def AddPost (w : World) (q : Nat) (D : Nat → Prop) (M : List Li) (L : Ky → Option Nat) (x : Li) (v : Value) (e : Ending) (w' : World) : Prop :=
  (okAdd M x.y.a x.l → e = .returned .nilIface ∧ Chg D w w' ∧ ∃ D', LedL w' q D' (M ++ [x]) L ∧ ∀ i, D' i → D i ∨ v.ownBlock = some i ∨ w.heap.size ≤ i) ∧ (¬ okAdd M x.y.a x.l → e = .returned (eno14 12) ∧ Below w.heap.size w w')
theorem Fine.fit9a {M : List Li} (h : Fine M) (a : Nat) : fit9 (bal M a) := fun c => by
  have := h.fita M.length a c
  rwa [List.take_length] at this
theorem Fine.fit9c {M : List Li} (h : Fine M) : fit9 (ctl M) := fun c => by
  have := h.fit M.length c
  rwa [List.take_length] at this
/-- with's answer, one way. -/
theorem with_ret (f : Nat → Int) (hF : fit9 f) (A : Option Addr) (n c : Nat) (l : List (Nat × Int)) (hn : l.length = n) (hm : n ≤ 100000) (hI : ∀ u ∈ l, LegIn u) (h9 : ∀ u ∈ l, 1 ≤ u.1 ∧ u.1 ≤ 9) :
    ∃ r v, ((okW f l ∧ r = plusL f l ∧ v = .nilIface) ∨ (¬ okW f l ∧ v = eno14 12)) ∧ ∀ W, Rs legT W W.heap.size A l → Calls Tryz.prog 73 #[.agg (vec f), .slice A n c] W (Ret (.tuple #[.agg (vec r), v]) W) := by
  by_cases h : okW f l
  · exact ⟨_, _, .inl ⟨h, rfl, rfl⟩, fun W hR => (with_any f hF A n c W.heap.size l W hR hn hm (Nat.le_refl _) hI h9).mono (fun e w' hp => ⟨hp.1 h, hp.2.2⟩)⟩
  · exact ⟨_, _, .inr ⟨h, rfl⟩, fun W hR => (with_any f hF A n c W.heap.size l W hR hn hm (Nat.le_refl _) hI h9).mono (fun e w' hp => ⟨hp.2.1 h, hp.2.2⟩)⟩
theorem LedL.balLook {w : World} {D : Nat → Prop} {M : List Li} {bm : Option Nat} (h5 : BalAt w D M bm) (h9 : ∀ i, D i → i < w.heap.size) {a : Nat} (ha : a < 4294967296) (w' : World) (hb : Below w.heap.size w w') :
    (Instr.lookup 83 (.map bm) (.int .u32 (a : Int)) false).run Tryz.prog w' = .ok (.agg (vec (bal M a))) w' := by
  cases bm with
  | none =>
    have := look_none (w := w') keyU32 Tryz.underlying83 (zeroS w') (x := a) ha false
    rw [h5.nil rfl, bal_no rfl]
    exact this
  | some b =>
    obtain ⟨hb1, hb2⟩ := h5.out b rfl
    have := (hb2.below hb (h9 b hb1)).look keyU32 Tryz.underlying83 (zeroS w') (x := a) ha false
    cases hh : hasLn M a with
    | true =>
      simp only [hh, if_true] at this
      exact this
    | false =>
      simp only [hh, Bool.false_eq_true, if_false] at this
      rw [bal_no hh]
      exact this
theorem sumNe : (87 : TypeId) ≠ 85 := by decide
theorem eqlM (o : Option Nat) (W : World) : (binOp .eql 83 (.map o) (.map none)).run Tryz.prog W = .ok (.bool o.isNone) W := by
  cases o <;> kernel_rfl
theorem sumsLoad {w : World} {q : Nat} {lv lm bm : Value} {M : List Li} (h : Blk w q 87 (ledC lv lm bm M)) : (Instr.loadAt 85 (.pointer (some ⟨q, 3, none⟩))).run Tryz.prog w = .ok (.agg (vec (ctl M))) w := by
  have := run_loadAt_mid (P := Tryz.prog) w q 3 85 (vec (ctl M)).toList _ (fun j v hv => by
    have hc := h.cell (3 + j)
    rw [hc]
    unfold ledC
    match j, hv with
    | 0, hv | 1, hv | 2, hv | 3, hv | 4, hv | 5, hv | 6, hv | 7, hv | 8, hv | 9, hv => simpa [vec] using hv
    | j + 10, hv => simp [vec] at hv) Tryz.underlying85 rfl (by kernel_rfl)
  simpa using this
theorem sumLoad {w : World} {g : Nat} {f : Nat → Int} (h : Blk w g 85 (vec f)) : (Instr.loadAt 85 (.pointer (some ⟨g, 0, none⟩))).run Tryz.prog w = .ok (.agg (vec f)) w := by
  have := run_loadAt_mid (P := Tryz.prog) w g 0 85 (vec f).toList _ (fun j v hv => by
    have hc := h.cell (0 + j)
    rw [hc, Nat.zero_add]
    simpa using hv) Tryz.underlying85 rfl (by kernel_rfl)
  simpa using this
set_option maxRecDepth 100000 in
set_option maxHeartbeats 8000000 in
theorem add_any (q : Nat) (D : Nat → Prop) (M : List Li) (L : Ky → Option Nat) (y : Ky) (A : Option Addr) (n c o : Nat) (l : List (Nat × Int)) (w : World) (h : LedL w q D M L) (hO : OwnS legT 53 w 0 (.slice A n c) n l) (hn : l.length = n) (hm : n ≤ 8) (hy : y.In) (hI : ∀ u ∈ l, LegIn u) (h9 : ∀ u ∈ l, 1 ≤ u.1 ∧ u.1 ≤ 9)
    (hF : okAdd M y.a l → Fine (M ++ [⟨y, l, o⟩])) (hM : M.length ≤ 1000000) :
    Calls Tryz.prog 42 #[.pointer (some ⟨q, 0, none⟩), linW y (.slice A n c) o] w (AddPost w q D M L ⟨y, l, o⟩ (.slice A n c)) := by
  have hfine := h.fine
  obtain ⟨r1, v1, hc1, hw1⟩ := with_ret (bal M y.a) (hfine.fit9a _) A n c l hn (by omega) hI h9
  obtain ⟨r2, v2, hc2, hw2⟩ := with_ret (ctl M) hfine.fit9c A n c l hn (by omega) hI h9
  have HL := Lib.hid h
  obtain ⟨lv, V, lm, bm, inn, p1, p2, p3, p4, p5, p6, p7, p8, p9, p10, p11⟩ := h
  obtain ⟨X, hX⟩ : ∃ X : Array Value, X = #[.int .u32 (y.a : Int), .int .i32 y.d, .int .u8 (y.k : Int), .int .u32 (y.s : Int), .slice A n c, .int .i64 (o : Int)] := ⟨_, rfl⟩
  have HB1 := Lib.hid (b_alloc w (.cells X 42))
  have HX1 := Lib.hid (Blk.new w 42 X)
  obtain ⟨W, hW⟩ : ∃ W, w.alloc (.cells X 42) = W := ⟨_, rfl⟩
  rw [hW] at HB1 HX1
  have hqW : q < w.heap.size := p9 q p7
  have hR0 : ∀ W', Below w.heap.size w W' → Rs legT W' W'.heap.size A l := fun W' hb => by
    obtain ⟨_, A', c', he, _, _, hr⟩ := hO.form (by decide)
    injection he with he1 he2 he3
    subst he1
    exact (hr.below hb).more hb.size
  have LB : ∀ W', Below W.heap.size W W' → (Instr.loadAt 83 (.pointer (some ⟨q, 2, none⟩))).run Tryz.prog W' = .ok (.map bm) W' := fun W' hb => by
    have hb' := HB1.out.trans (hb.mono HB1.out.size)
    have c2 := (p1.below hb' hqW).cell 2
    unfold ledC at c2
    simp at c2
    go_simp
  have LK : ∀ W', Below W.heap.size W W' → (Instr.lookup 83 (.map bm) (.int .u32 (y.a : Int)) false).run Tryz.prog W' = .ok (.agg (vec (bal M y.a))) W' := fun W' hb => LedL.balLook p5 p9 hy.a W' (HB1.out.trans (hb.mono HB1.out.size))
  have LS : ∀ W', Below W.heap.size W W' → (Instr.loadAt 34 (.pointer (some ⟨w.heap.size, 4, none⟩))).run Tryz.prog W' = .ok (.slice A n c) W' := fun W' hb => by
    have c4 := (HX1.out.below hb HX1.out.lt).cell 4
    rw [hX] at c4
    simp at c4
    go_simp
  have CW1 := fun W' (hb : Below W.heap.size W W') => hw1 W' (hR0 W' (HB1.out.trans (hb.mono HB1.out.size)))
  have LC : ∀ W', Below w.heap.size w W' → (Instr.loadAt 85 (.pointer (some ⟨q, 3, none⟩))).run Tryz.prog W' = .ok (.agg (vec (ctl M))) W' := fun W' hb => sumsLoad (p1.below hb hqW)
  have HW := Lib.hid hW
  have HXX := Lib.hid hX
  clear hW
  subst hX
  have K1 := Lib.hid LB
  have K2 := Lib.hid LK
  have K3 := Lib.hid LS
  have K4 := Lib.hid CW1
  have K5 := Lib.hid LC
  have K6 := Lib.hid hR0
  have K7 := Lib.hid hw2
  have KO := Lib.hid hO
  have KF := Lib.hid hF
  have HC1 := Lib.hid hc1
  have HC2 := Lib.hid hc2
  have P1 := Lib.hid p1
  have P2 := Lib.hid p2
  have P3 := Lib.hid p3
  have P4 := Lib.hid p4
  have P5 := Lib.hid p5
  have P8 := Lib.hid p8
  have P9 := Lib.hid p9
  have P10 := Lib.hid p10
  have P11 := Lib.hid p11
  have HN := Lib.hid hn
  clear LB LK LS CW1 LC hR0 hw1 hw2 hO hF hc1 hc2 p1 p2 p3 p4 p5 p6 p8 p9 p10 p11 hn hI h9 hfine HXX
  unfold linW
  go_enter Tryz.func42, Tryz.ntmps42
  go_upto_region 2 with (fail)
  rw [HW.out]
  go_wp2_with fail
  refine add_reg2 (w := w) (q := q) (n := n) (c := c) (A := A) (y := y) (bm := bm) (f0 := bal M y.a) (r1 := r1) (v1 := v1) rfl rfl rfl rfl K1.out K2.out K3.out K4.out (fun u1 g6 W1 hg6 hbk hb1 he6 he7 => ?_)
  simp only [putF, Act.put, List.setIfInBounds_toArray, List.set_cons_zero, List.set_cons_succ]
  rw [he6, he7]
  have HB2 := Lib.hid (HB1.out.trans (hb1.mono HB1.out.size))
  have HW1 := Lib.hid hb1
  have HG6 := Lib.hid hbk
  have HG6s := Lib.hid hg6
  clear he6 he7 hb1 hbk hg6 K1 K2 K4
  rcases HC1.out with ⟨hok1, rfl, rfl⟩ | ⟨hno1, rfl⟩
  case inr =>
    have HNO := Lib.hid hno1
    clear hno1
    unfold eno14
    go_wp2_with fail
    go_ret
    exact ⟨fun h => absurd h.1 HNO.out, fun _ => ⟨rfl, HB2.out⟩⟩
  case inl =>
    have HOK1 := Lib.hid hok1
    clear hok1 HC1
    go_wp2_with fail
    refine add_reg5 (w := w) (q := q) (n := n) (c := c) (A := A) (f1 := ctl M) (r2 := r2) (v2 := v2) rfl rfl rfl (fun W' hb => K5.out W' (HB2.out.trans (hb.mono HB2.out.size))) (fun W' hb => K3.out W' (HW1.out.trans (hb.mono HW1.out.size))) (fun W' hb => K7.out W' (K6.out W' (HB2.out.trans (hb.mono HB2.out.size)))) (fun u2 g8 W2 hg8 hbk2 hb2 he8 he7 => ?_)
    simp only [putF, Act.put, List.setIfInBounds_toArray, List.set_cons_zero, List.set_cons_succ]
    rw [he8, he7]
    have HB3 := Lib.hid (HB2.out.trans (hb2.mono HB2.out.size))
    have HG68 := Lib.hid (HG6.out.below hb2 HG6.out.lt)
    have HG8 := Lib.hid hbk2
    have HX3 := Lib.hid ((HX1.out.below HW1.out HX1.out.lt).below hb2 (Nat.lt_of_lt_of_le HX1.out.lt HW1.out.size))
    have HS3 := Lib.hid (show w.heap.size + 1 ≤ W2.heap.size from Nat.le_trans HX1.out.lt (Nat.le_trans HW1.out.size hb2.size))
    clear he8 he7 hb2 hbk2 hg8 K3 K5 K7 HG6 HW1 HX1 HB2 HB1
    rcases HC2.out with ⟨hok2, rfl, rfl⟩ | ⟨hno2, rfl⟩
    case inr =>
      have HNO := Lib.hid hno2
      clear hno2
      unfold eno14
      go_wp2_with fail
      go_ret
      exact ⟨fun h => absurd h.2 HNO.out, fun _ => ⟨rfl, HB3.out⟩⟩
    case inl =>
      have HOK2 := Lib.hid hok2
      clear hok2 HC2
      have HL3 := Lib.hid (HL.out.below HB3.out)
      clear P1 P2 P3 P4 P5 P8 P9 P10 P11 HL
      have KO3 := Lib.hid (KO.out.below HB3.out)
      obtain ⟨lv3, V3, lm3, bm3, inn3, p1, p2, p3, p4, p5, -, -, p8, p9, p10, p11⟩ := HL3.out
      have c2 := p1.cell 2
      unfold ledC at c2
      simp at c2
      have heq := eqlM bm3 W2
      go_upto_if 47 with (fail)
      go_cut [] from 43 to 55 (fun wx => ∃ (D1 : Nat → Prop) (lv1 : Value) (V1 : List LinV) (lm1 : Option Nat) (b1 : Nat) (inn1 : Nat → Option Nat), Hid (LedO wx q D1 M L lv1 V1 lm1 b1 inn1) ∧ Hid (Blk wx w.heap.size 42 #[.int .u32 (y.a : Int), .int .i32 y.d, .int .u8 (y.k : Int), .int .u32 (y.s : Int), .slice A n c, .int .i64 (o : Int)]) ∧ Hid (Blk wx g6 85 (vec (plusL (bal M y.a) l))) ∧ Hid (Blk wx g8 85 (vec (plusL (ctl M) l))) ∧ Hid (Chg D w wx) ∧ Hid (∀ i, D1 i → D i ∨ w.heap.size + 1 ≤ i) ∧ Hid (OwnS legT 53 wx 0 (.slice A n c) n l))
      case first =>
        cases bm3 with
        | none =>
          obtain rfl : M = [] := p5.nil rfl
          obtain rfl : lm3 = none := p10.1 rfl
          have f2 := p1.frozen 2
          have c1 := p1.cell 1
          have f1 := p1.frozen 1
          unfold ledC at c1
          simp at c1
          have hmm := @run_makeMap Tryz.prog
          have P1 := Lib.hid p1
          have P2 := Lib.hid p2
          have P3 := Lib.hid p3
          have P4 := Lib.hid p4
          have P8 := Lib.hid p8
          have P9 := Lib.hid p9
          have hql := p1.lt
          clear p1 p2 p3 p4 p5 p8 p9 p10 p11
          go_wp2_with fail
          go_meet
          case rel =>
            obtain ⟨n1, n2, n3⟩ := legNe
            obtain ⟨Ws, hWs⟩ : ∃ Ws, ((W2.setCell ⟨q, 1, none⟩ (.map (some W2.heap.size))).setCell ⟨q, 2, none⟩ (.map (some (W2.heap.size + 1)))) = Ws := ⟨_, rfl⟩
            have hset : ∀ (i : Nat), i ≠ q → Ws.heap[i]? = W2.heap[i]? := fun i hi => by
              rw [← hWs, Below.heap_setCell _ _ _ _ (by exact hi), Below.heap_setCell _ _ _ _ (by exact hi)]
            have hsz1 : Ws.heap.size = W2.heap.size := by rw [← hWs]; simp [World.size_setCell]
            have hbs : Below 0 W2 Ws := by
              rw [← hWs]
              exact ((Below.refl 0 W2).setCell (Nat.zero_le _) _).setCell (Nat.zero_le _) _
            have hq1 : Blk Ws q 87 (ledC lv3 (.map (some W2.heap.size)) (.map (some (W2.heap.size + 1))) []) := by
              have := (P1.out.set_ 1 (.map (some W2.heap.size))).set_ 2 (.map (some (W2.heap.size + 1)))
              rw [hWs] at this
              simpa [ledC] using this
            rw [hWs]
            obtain ⟨Wm, hWm⟩ : ∃ Wm, (Ws.alloc (.map #[] 0)).alloc (.map #[] 0) = Wm := ⟨_, rfl⟩
            have hm0 : MapF Wm u32In u32E W2.heap.size (fun _ => none) := by
              rw [← hWm, ← hsz1]
              exact (MapF.new Ws u32In u32E).below (b_alloc _ _) (by simp)
            have hm1 : MapF Wm u32In u32E (W2.heap.size + 1) (fun _ => none) := by
              rw [← hWm]
              have := MapF.new (Ws.alloc (.map #[] 0)) u32In u32E
              rw [show (Ws.alloc (.map #[] 0)).heap.size = W2.heap.size + 1 by simp [hsz1]] at this
              exact this
            have hbm : Below Ws.heap.size Ws Wm := by
              rw [← hWm]
              exact (b_alloc _ _).alloc (by simp) _
            have hszm : Wm.heap.size = W2.heap.size + 2 := by
              rw [← hWm]
              simp [hsz1]
            rw [hWm]
            have hq2 := hq1.below hbm hq1.lt
            have hkeep : ∀ i, i < W2.heap.size → i ≠ q → Wm.heap[i]? = W2.heap[i]? := fun i hi hn => by
              rw [hbm.block i (by rw [hsz1]; exact hi)]
              exact hset i hn
            refine ⟨fun i => D i ∨ i = W2.heap.size ∨ i = W2.heap.size + 1, lv3, V3, some W2.heap.size, W2.heap.size + 1, fun _ => none, Lib.hid ⟨?_, ?_, ?_, ?_, ?_, .inl p7, fun g hg => .inl (P8.out g hg), fun i hi => ?_, by simp, ⟨by simp, fun _ => by simp⟩⟩, Lib.hid ?_, Lib.hid ?_, Lib.hid ?_, Lib.hid ?_, Lib.hid ?_, Lib.hid ?_⟩
            · exact hq2
            · exact P2.out.same (fun g hg => hkeep g (P9.out g (P8.out g hg)) (fun e => by
                subst e
                obtain ⟨cs, hc⟩ := own_blk14 P2.out hg
                exact blk_ne P1.out hc n3 rfl))
            · have h3 := P3.out
              have hv : V3 = [] := List.eq_nil_of_length_eq_zero (by rw [h3.len]; rfl)
              subst hv
              exact ⟨rfl, fun i v x h => (by simp at h), fun i v x h => (by simp at h), fun i v p h => (by simp at h)⟩
            · refine ⟨fun h => (by simp at h), fun g hg => ?_, fun a r hr => (by simp at hr), fun k _ => P4.out.nil rfl k, fun a a' r hr => (by simp at hr)⟩
              cases hg
              exact ⟨.inr (.inl rfl), hm0, fun _ => by simp⟩
            · refine ⟨fun h => (by simp at h), fun g hg => ?_⟩
              cases hg
              exact ⟨.inr (.inr rfl), hm1⟩
            · rw [hszm]
              rcases hi with hi | rfl | rfl
              · have := P9.out i hi
                omega
              · omega
              · omega
            · exact (hkeep _ HX3.out.lt (fun e => by
                have := HX3.out
                rw [e] at this
                exact blk_ne P1.out this n3 rfl)).trans HX3.out
            · exact (hkeep _ HG68.out.lt (fun e => by
                have := HG68.out
                rw [e] at this
                exact blk_ne P1.out this sumNe rfl)).trans HG68.out
            · exact (hkeep _ HG8.out.lt (fun e => by
                have := HG8.out
                rw [e] at this
                exact blk_ne P1.out this sumNe rfl)).trans HG8.out
            · have hc := Chg.of_below (D := D) HB3.out
              refine ⟨?_, ?_, ?_, ?_, fun i hi hn => ?_⟩
              · exact (hbm.os.trans hbs.os).trans hc.os
              · exact (hbm.tape.trans hbs.tape).trans hc.tape
              · exact (hbm.output.trans hbs.output).trans hc.output
              · rw [hszm]
                have := hc.size
                omega
              · rw [hkeep i (Nat.lt_of_lt_of_le hi hc.size) (fun e => hn (by rw [e]; exact p7))]
                exact hc.block i hi hn
            · intro i hi
              have := HS3.out
              rcases hi with hi | hi | hi
              · exact .inl hi
              · exact .inr (by omega)
              · exact .inr (by omega)
            · exact KO3.out.same (fun g hg => by
                obtain ⟨cs, hc⟩ := own_blk14 KO3.out hg
                exact hkeep g hc.lt (fun e => by
                  subst e
                  exact blk_ne hc P1.out n1 rfl))
        | some b3 =>
          have P11 := p11 b3 rfl
          have hlm : lm3 ≠ none := fun e => by have := p10.2 e; cases this
          have HO3 := Lib.hid (show LedO W2 q D M L lv3 V3 lm3 b3 inn3 from ⟨p1, p2, p3, p4, p5, p7, p8, p9, hlm, P11⟩)
          clear p1 p2 p3 p4 p5 p8 p9 p10 p11 hlm P11
          go_wp2_with fail
          go_meet
          case rel =>
            exact ⟨D, lv3, V3, lm3, b3, inn3, HO3, HX3, HG68, HG8, Lib.hid (Chg.of_below HB3.out), Lib.hid (fun i h => .inl h), KO3⟩
      case rest =>
        obtain ⟨D1, lv1, V1, lm1, b1, inn1, HLO, HX, H6, H8, HCG, HD1, HOL⟩ := hcut
        clear HX3 HG68 HG8 HB3 KO3 HL3 KO HS3 HG6s K6 c2
        obtain ⟨X0, X1, X2, born, hX0, HE⟩ := (HLO.out.h5.out b1 rfl).2.entry keyU32 Tryz.underlying83 zeroS (x := y.a) hy.a (.agg (vec (plusL (bal M y.a) l)))
        have hqb := blk_map HLO.out.h1 (HLO.out.h5.out b1 rfl).2
        have h6b := blk_map H6.out (HLO.out.h5.out b1 rfl).2
        have h8b := blk_map H8.out (HLO.out.h5.out b1 rfl).2
        have hxb := blk_map HX.out (HLO.out.h5.out b1 rfl).2
        have AQ : ∀ W', AtR b1 (turn3 X0 X1 X2) wc W' → Blk W' q 87 (ledC lv1 (.map lm1) (.map (some b1)) M) := fun W' ha => (ha.block q HLO.out.h1.lt hqb).trans HLO.out.h1
        have LB : ∀ W', AtR b1 (turn3 X0 X1 X2) wc W' → (Instr.loadAt 83 (.pointer (some ⟨q, 2, none⟩))).run Tryz.prog W' = .ok (.map (some b1)) W' := fun W' ha => by
          have c2 := (AQ W' ha).cell 2
          unfold ledC at c2
          simp at c2
          go_simp
        have L6 : ∀ W', AtR b1 (turn3 X0 X1 X2) wc W' → (Instr.loadAt 85 (.pointer (some ⟨g6, 0, none⟩))).run Tryz.prog W' = .ok (.agg (vec (plusL (bal M y.a) l))) W' := fun W' ha => sumLoad ((ha.block g6 H6.out.lt h6b).trans H6.out)
        have L8 : ∀ W', AtR b1 (turn3 X0 X1 X2) wc W' → (Instr.loadAt 85 (.pointer (some ⟨g8, 0, none⟩))).run Tryz.prog W' = .ok (.agg (vec (plusL (ctl M) l))) W' := fun W' ha => sumLoad ((ha.block g8 H8.out.lt h8b).trans H8.out)
        have TH : ∀ W', AtR b1 (turn3 X0 X1 X2) wc W' → W'.there q 3 10 := fun W' ha j hj => by
          refine ⟨?_, (AQ W' ha).frozen _⟩
          rw [(AQ W' ha).cell]
          simp [ledC]
          omega
        have KA := Lib.hid AQ
        have K1 := Lib.hid LB
        have K2 := Lib.hid L6
        have K3 := Lib.hid L8
        have K4 := Lib.hid TH
        have KE := Lib.hid HE
        have KX := Lib.hid hX0
        clear AQ LB L6 L8 TH HE hX0
        go_wp2_with fail
        refine add_reg10 (q := q) (b := b1) (g6 := g6) (g8 := g8) (y := y) (r1 := plusL (bal M y.a) l) (r2 := plusL (ctl M) l) rfl rfl rfl rfl rfl KE.out KX.out K1.out K2.out K3.out K4.out (fun u3 W3 ha hX2 => ?_)
        simp only [putF, Act.put, List.setIfInBounds_toArray, List.set_cons_zero, List.set_cons_succ]
        have ho := onlyAt_setCells q (vec (plusL (ctl M) l)).toList 3 W3
        have hq4 := blk_setCells (vec (plusL (ctl M) l)).toList 3 W3 _ (KA.out W3 ha)
        rw [show putL (ledC lv1 (.map lm1) (.map (some b1)) M) 3 (vec (plusL (ctl M) l)).toList = ledC lv1 (.map lm1) (.map (some b1)) (M ++ [⟨y, l, o⟩]) by
          have e := ctl_snoc M ⟨y, l, o⟩
          simp [putL, ledC, vec, e]] at hq4
        have hm4 := KE.out.done (W3.setCells q 3 (vec (plusL (ctl M) l)).toList) ((ho.block b1 (fun e => hqb e.symm)).trans hX2)
        have hsame : ∀ i : Nat, i < wc.heap.size → i ≠ q → i ≠ b1 → (W3.setCells q 3 (vec (plusL (ctl M) l)).toList).heap[i]? = wc.heap[i]? := fun i h1 h2 h3 => (ho.block i h2).trans (ha.block i h1 h3)
        have hsz : wc.heap.size ≤ (W3.setCells q 3 (vec (plusL (ctl M) l)).toList).heap.size := by rw [ho.size]; exact ha.size
        have hos : Below 0 wc (W3.setCells q 3 (vec (plusL (ctl M) l)).toList) := ⟨ho.os.trans ha.os, ho.tape.trans ha.tape, ho.output.trans ha.output, hsz, fun i hi => absurd hi (Nat.not_lt_zero i)⟩
        obtain ⟨W4, hW4⟩ : ∃ W4, W3.setCells q 3 (vec (plusL (ctl M) l)).toList = W4 := ⟨_, rfl⟩
        rw [hW4] at hq4 hm4 hsame hsz hos ⊢
        obtain ⟨n1, n2, n3⟩ := legNe
        have hx4 : Blk W4 w.heap.size 42 #[.int .u32 (y.a : Int), .int .i32 y.d, .int .u8 (y.k : Int), .int .u32 (y.s : Int), .slice A n c, .int .i64 (o : Int)] := (hsame _ HX.out.lt (fun e => by
          have := HX.out
          rw [e] at this
          exact blk_ne HLO.out.h1 this n3 rfl) hxb).trans HX.out
        have hV4 : OwnS linT 42 W4 0 lv1 M.length V1 := HLO.out.h2.same (fun g hg => by
          obtain ⟨cs, hc⟩ := own_blk14 HLO.out.h2 hg
          exact hsame g hc.lt (fun e => by rw [e] at hc; exact blk_ne HLO.out.h1 hc n3 rfl) (fun e => by rw [e] at hc; exact blk_map hc (HLO.out.h5.out b1 rfl).2 rfl))
        have hL4 : OwnS legT 53 W4 0 (.slice A n c) n l := HOL.out.same (fun g hg => by
          obtain ⟨cs, hc⟩ := own_blk14 HOL.out hg
          exact hsame g hc.lt (fun e => by rw [e] at hc; exact blk_ne hc HLO.out.h1 n1 rfl) (fun e => by rw [e] at hc; exact blk_map hc (HLO.out.h5.out b1 rfl).2 rfl))
        clear hW4 ho ha hX2 KA K1 K2 K3 K4 KE KX H6 H8 HX h6b h8b hxb
        obtain ⟨_, A1, c1, rfl, hc1, _, _⟩ := hV4.form (by decide)
        have c0 := hq4.cell 0
        have f0 := hq4.frozen 0
        have b0 := hx4.cell 0
        have b1' := hx4.cell 1
        have b2 := hx4.cell 2
        have b3 := hx4.cell 3
        have b4 := hx4.cell 4
        have b5 := hx4.cell 5
        unfold ledC at c0
        simp at c0 b0 b1' b2 b3 b4 b5
        have l0 := hq4.lt
        have l1 := hx4.lt
        have s1 : (W4.alloc (.cells #[.int .u32 (y.a : Int), .int .i32 y.d, .int .u8 (y.k : Int), .int .u32 (y.s : Int), .slice A n c, .int .i64 (o : Int)] 42)).heap.size = W4.heap.size + 1 := by simp
        have HO2 := Lib.hid (hV4.alloc (.cells #[.int .u32 (y.a : Int), .int .i32 y.d, .int .u8 (y.k : Int), .int .u32 (y.s : Int), .slice A n c, .int .i64 (o : Int)] 42))
        have HR := Lib.hid (Rs.block (T := linT) (u := (⟨y, A, n, c, o⟩ : LinV)) (Blk.new W4 42 #[.int .u32 (y.a : Int), .int .i32 y.d, .int .u8 (y.k : Int), .int .u32 (y.s : Int), .slice A n c, .int .i64 (o : Int)]))
        rw [s1] at HR
        have HQ4 := Lib.hid hq4
        have HM4 := Lib.hid hm4
        have HSM := Lib.hid hsame
        have HSZ := Lib.hid hsz
        have HOS := Lib.hid hos
        have HL4 := Lib.hid hL4
        have HV4 := Lib.hid hV4
        have HQB := Lib.hid hqb
        have hqr : (Value.slice A1 M.length c1).ownBlock ≠ some q := fun e => by
          obtain ⟨cs, hc⟩ := own_blk14 HV4.out e
          exact blk_ne HQ4.out hc n3 rfl
        have HQR := Lib.hid hqr
        clear hq4 hm4 hsame hsz hos hL4 hV4 hx4 hqb hqr
        go_wp2_with fail
        go_region_law ((refine step_appendS rfl rowLin (.tmp 72) (.tmp 74) rfl 0 (.slice A1 M.length c1) M.length V1 (by rfl) (World.ownsRow.drew HO2.out) _ (some ⟨W4.heap.size, 0, none⟩) 1 1 [⟨y, A, n, c, o⟩] (by rfl) HR.out rfl (by unfold maxLen; omega) (by omega) (Nat.zero_le _) ?_; intro v2 w2 hown hg hat _; have hk1 := (HQ4.out.alloc (.cells #[.int .u32 (y.a : Int), .int .i32 y.d, .int .u8 (y.k : Int), .int .u32 (y.s : Int), .slice A n c, .int .i64 (o : Int)] 42)).drew.grown hg (fun e => HQR.out e.symm); have d1 := hk1.cell 0; have e1 := hk1.frozen 0; simp [ledC] at d1; obtain ⟨_, A2, c2, rfl, _, _, _⟩ := hown.form (by decide); have HO9 := Lib.hid hown; have HG9 := Lib.hid hg; have HT9 := Lib.hid hat; have HK9 := Lib.hid hk1; clear hown hg hat hk1))
        all_goals
          go_wp2_with fail
          go_ret
          have hn := HN.out
          subst hn
          have hG := HG9.out
          obtain ⟨n1, n2, n3⟩ := legNe
          have hstep : ∀ i : Nat, i < W4.heap.size → i ≠ q → (Value.slice A1 M.length c1).ownBlock ≠ some i → (w2.setCell ⟨q, 0, none⟩ (.slice A2 (M.length + 1) c2)).heap[i]? = W4.heap[i]? := fun i h1 h2 h3 => by
            rw [Below.heap_setCell _ _ _ _ (by exact h2), hG.block i (by simp; omega) (fun e => h3 e.symm)]
            exact (b_alloc W4 _).block i h1
          have hsz6 : (w2.setCell ⟨q, 0, none⟩ (.slice A2 (M.length + 1) c2)).heap.size = w2.heap.size := by simp [World.size_setCell]
          have hgs := hG.size
          simp at hgs
          have hb6 := (Below.refl 0 w2).setCell (Nat.zero_le _) (p := ⟨q, 0, none⟩) (.slice A2 (M.length + 1) c2)
          have hrow2 : ∀ g, (Value.slice A2 (M.length + 1) c2).ownBlock = some g → (Value.slice A1 M.length c1).ownBlock = some g ∨ wc.heap.size ≤ g := fun g hg => by
            rcases HT9.out with h | h
            · exact .inl (by rw [← h]; exact hg)
            · rw [h] at hg
              injection hg with hg
              have := HSZ.out
              simp at hg
              exact .inr (by omega)
          have hk4 : ∀ i, i < wc.heap.size → i ≠ q → i ≠ b1 → (Value.slice A1 M.length c1).ownBlock ≠ some i → (w2.setCell ⟨q, 0, none⟩ (.slice A2 (M.length + 1) c2)).heap[i]? = wc.heap[i]? := fun i h1 h2 h3 h4 => by
            rw [hstep i (Nat.lt_of_lt_of_le h1 HSZ.out) h2 h4]
            exact HSM.out i h1 h2 h3
          have hadd := LedL.added (w' := w2.setCell ⟨q, 0, none⟩ (.slice A2 (M.length + 1) c2)) (x := (⟨y, l, o⟩ : Li)) (A := A) (c := c) (v2 := .slice A2 (M.length + 1) c2) HLO.out.h1 HLO.out.h2 HLO.out.h3 HLO.out.h4 HLO.out.h5 HLO.out.h7 HLO.out.h8 HLO.out.h9 HLO.out.h10 HLO.out.h11 (KF.out ⟨HOK1.out, HOK2.out⟩)
            (by
              have := HK9.out.set_ 0 (.slice A2 (M.length + 1) c2)
              simpa [ledC] using this)
            (HO9.out.same (fun g hg => by
              rw [Below.heap_setCell]
              intro e
              obtain ⟨cs, hc⟩ := own_blk14 HO9.out hg
              have e' : g = q := e
              subst e'
              exact blk_ne HK9.out hc n3 rfl))
            (HM4.out.keep (hstep b1 HM4.out.lt (fun e => HQB.out e.symm) (fun e => by
              obtain ⟨cs, hc⟩ := own_blk14 HV4.out e
              exact blk_map hc HM4.out rfl)))
            (fun i hi h2 h3 h4 => hk4 i (HLO.out.h9 i hi) h2 h3 h4)
            (by rw [hsz6]; have := HSZ.out; omega)
            hrow2
            (HL4.out.same (fun g hg => by
              obtain ⟨cs, hc⟩ := own_blk14 HL4.out hg
              exact hstep g hc.lt (fun e => by subst e; exact blk_ne hc HQ4.out n1 rfl) (fun e => by
                obtain ⟨cs', hc'⟩ := own_blk14 HV4.out e
                exact blk_ne hc hc' n2 rfl)))
          have hcg := HCG.out
          refine ⟨fun _ => ⟨rfl, ⟨?_, ?_, ?_, ?_, fun i hi hn => ?_⟩, _, hadd, fun i hi => ?_⟩, fun h => absurd ⟨HOK1.out, HOK2.out⟩ h⟩
          · exact ((hb6.os.trans hG.os).trans HOS.out.os).trans hcg.os
          · exact ((hb6.tape.trans hG.tape).trans HOS.out.tape).trans hcg.tape
          · exact ((hb6.output.trans hG.output).trans HOS.out.output).trans hcg.output
          · rw [hsz6]
            have := HSZ.out
            have := hcg.size
            omega
          · have hsz := hcg.size
            have hd : ∀ k, D1 k → i = k → False := fun k hk e => by
              rcases HD1.out k hk with h | h
              · exact hn (by rw [e]; exact h)
              · omega
            rw [hk4 i (by omega) (fun e => hn (by rw [e]; exact p7)) (fun e => hd b1 (HLO.out.h5.out b1 rfl).1 e) (fun e => hd i (HLO.out.h8 i e) rfl)]
            exact hcg.block i hi hn
          · have hsz := hcg.size
            rcases hi with hi | hi | hi
            · rcases HD1.out i hi with h | h
              · exact .inl h
              · exact .inr (.inr (by omega))
            · exact .inr (.inl hi)
            · exact .inr (.inr (by omega))
end Go.Proofs.YtdnnkdldolhbpaaGreatDoor
namespace Go.Proofs.YtdnnkdldolhbpaaGreatDoor
open Go.ChangeShapes Go.WideShapes Go.ChangeAt Go.RowKit Go.Maps

/-- Line i, cell by cell. -/
theorem LedL.line {w : World} {q : Nat} {D : Nat → Prop} {M : List Li} {L : Ky → Option Nat} (h : LedL w q D M L) {i : Nat} {x : Li} (hx : M[i]? = some x) : ∃ g o c A n k, w.cell? ⟨q, 0, none⟩ = some (.slice (some ⟨g, o, none⟩) M.length c) ∧ M.length ≤ c ∧ n = x.l.length ∧ Rs legT w w.heap.size A x.l ∧
    w.cell? ⟨g, o + i * 6, none⟩ = some (.int .u32 (x.y.a : Int)) ∧ w.cell? ⟨g, o + i * 6 + 1, none⟩ = some (.int .i32 x.y.d) ∧ w.cell? ⟨g, o + i * 6 + 2, none⟩ = some (.int .u8 (x.y.k : Int)) ∧ w.cell? ⟨g, o + i * 6 + 3, none⟩ = some (.int .u32 (x.y.s : Int)) ∧ w.cell? ⟨g, o + i * 6 + 4, none⟩ = some (.slice A n k) ∧ w.cell? ⟨g, o + i * 6 + 5, none⟩ = some (.int .i64 (x.o : Int)) := by
  obtain ⟨lv, V, lm, bm, inn, h1, h2, h3, h4, h5, h6, h7, h8, h9, h10, h11⟩ := h
  have c0 := h1.cell 0
  unfold ledC at c0
  simp at c0
  obtain ⟨_, A0, c, rfl, hc, _, hr⟩ := h2.form (by decide)
  have hi : i < V.length := by
    rw [h3.len]
    exact (List.getElem?_eq_some_iff.1 hx).1
  have hv : V[i]? = some V[i] := List.getElem?_eq_getElem hi
  obtain ⟨g, o, rfl, _, hcs⟩ := hr.at_ hi
  obtain ⟨y1, y2, y3⟩ := h3.y i _ x hv hx
  have hR := (h3.r i _ x hv hx).1
  refine ⟨g, o, c, (V[i]).A, (V[i]).n, (V[i]).c, c0, hc, y3, hR, ?_, ?_, ?_, ?_, ?_, ?_⟩
  · have := hcs 0 _ rfl
    rw [y1] at this
    exact this
  · have := hcs 1 _ rfl
    rw [y1] at this
    exact this
  · have := hcs 2 _ rfl
    rw [y1] at this
    exact this
  · have := hcs 3 _ rfl
    rw [y1] at this
    exact this
  · exact hcs 4 _ rfl
  · have := hcs 5 _ rfl
    rw [y2] at this
    exact this
def zeroLn : Value := .agg #[.int .u32 0, .int .i32 0, .int .u8 0, .int .u32 0, .slice none 0 0, .int .i64 0]
/-- A line that is told: its legs are nobody else's. -/
def LinePost (o : Option Li) (w : World) (e : Ending) (w' : World) : Prop :=
  match o with
  | none => e = .returned (.tuple #[zeroLn, .bool false]) ∧ Below w.heap.size w w'
  | some x => ∃ A c, e = .returned (.tuple #[linW x.y (.slice A x.l.length c) x.o, .bool true]) ∧ OwnS legT 53 w' w.heap.size (.slice A x.l.length c) x.l.length x.l ∧ Below w.heap.size w w'
theorem fin_line {Post : Ending → World → Prop} {f : Func} {W : World} {T : Array Value} {g i j : Nat} {c0 c1 c2 c3 c4 c5 v : Value} (hQ : Blk W g 42 #[c0, c1, c2, c3, c4, c5])
    (hf : f.results = #[.cell i 42, .tmp j]) (h2 : T[i]? = some (.pointer (some ⟨g, 0, none⟩))) (h3 : T[j]? = some v) (hP : Post (.returned (.tuple #[.agg #[c0, c1, c2, c3, c4, c5], v])) W) :
    bodyPost Tryz.prog f Post Exit.ret { tmps := T, defers := [] } W := by
  have c0 := hQ.cell 0
  have c1 := hQ.cell 1
  have c2 := hQ.cell 2
  have c3 := hQ.cell 3
  have c4 := hQ.cell 4
  have c5 := hQ.cell 5
  simp at c0 c1 c2 c3 c4 c5
  refine bodyPost_ret (v := .tuple #[.agg #[_, _, _, _, _, _], v]) ?_ rfl hP
  simp [results, hf, go_sem, h2, h3, c0, c1, c2, c3, c4, c5, Result.andThen]
set_option maxRecDepth 100000 in
set_option maxHeartbeats 2000000 in
theorem Line_nil (i : Int) (hi : -9223372036854775808 ≤ i ∧ i ≤ 9223372036854775807) (w : World) : Calls Tryz.prog 12 #[.pointer none, .int .i64 i] w (LinePost none w) := by
  obtain ⟨Z, hZ⟩ : ∃ Z : Array Value, Z = #[.int .u32 0, .int .i32 0, .int .u8 0, .int .u32 0, .slice none 0 0, .int .i64 0] := ⟨_, rfl⟩
  have HZ := Lib.hid (Blk.new w 42 Z)
  have HB := Lib.hid (b_alloc w (.cells Z 42))
  obtain ⟨W, hW⟩ : ∃ W, w.alloc (.cells Z 42) = W := ⟨_, rfl⟩
  rw [hW] at HZ HB
  have HL := Lib.hid (Len_nil W)
  subst hZ
  have HW := Lib.hid hW
  clear hW
  have m0 := HZ.out.cell 0
  have m1 := HZ.out.cell 1
  have m2 := HZ.out.cell 2
  have m3 := HZ.out.cell 3
  have m4 := HZ.out.cell 4
  have m5 := HZ.out.cell 5
  simp at m0 m1 m2 m3 m4 m5
  have z0 := HZ.out.frozen 0
  have z1 := HZ.out.frozen 1
  have z2 := HZ.out.frozen 2
  have z3 := HZ.out.frozen 3
  have z4 := HZ.out.frozen 4
  have z5 := HZ.out.frozen 5
  by_cases h0 : i < 0
  · go_enter Tryz.func12, Tryz.ntmps12
    go_upto_region 1 with (fail)
    rw [HW.out]
    go_wp2_with fail
    have hz := set6c HZ.out (.int .u32 0) (.int .i32 0) (.int .u8 0) (.int .u32 0) (.slice none 0 0) (.int .i64 0)
    exact fin_line hz Tryz.results12 (by rfl) (by rfl) ⟨rfl, below_set6 HB.out (Nat.le_refl _) _ _ _ _ _ _⟩
  · have h1 : (0 : Int) ≤ i := by omega
    go_enter Tryz.func12, Tryz.ntmps12
    go_upto_region 1 with (fail)
    rw [HW.out]
    go_wp2_with fail
    refine HL.out.mono ?_
    rintro e w2 ⟨rfl, hb⟩
    have HZ2 := Lib.hid (HZ.out.below hb HZ.out.lt)
    have HB2 := Lib.hid (HB.out.trans (hb.mono HB.out.size))
    clear hb m0 m1 m2 m3 m4 m5 z0 z1 z2 z3 z4 z5 HZ HB
    have m0 := HZ2.out.cell 0
    have m1 := HZ2.out.cell 1
    have m2 := HZ2.out.cell 2
    have m3 := HZ2.out.cell 3
    have m4 := HZ2.out.cell 4
    have m5 := HZ2.out.cell 5
    simp at m0 m1 m2 m3 m4 m5
    have z0 := HZ2.out.frozen 0
    have z1 := HZ2.out.frozen 1
    have z2 := HZ2.out.frozen 2
    have z3 := HZ2.out.frozen 3
    have z4 := HZ2.out.frozen 4
    have z5 := HZ2.out.frozen 5
    go_wp2_with fail
    have hz := set6c HZ2.out (.int .u32 0) (.int .i32 0) (.int .u8 0) (.int .u32 0) (.slice none 0 0) (.int .i64 0)
    exact fin_line hz Tryz.results12 (by rfl) (by rfl) ⟨rfl, below_set6 HB2.out (Nat.le_refl _) _ _ _ _ _ _⟩
end Go.Proofs.YtdnnkdldolhbpaaGreatDoor
