/-
  A ledger with a line more. No condition.
-/
import Derived.Test.YtabiaeicejgeiaaGreatDoorLedE
namespace Go.Proofs.YtabiaeicejgeiaaGreatDoor
open Go.ChangeShapes Go.WideShapes Go.ChangeAt Go.RowKit Go.Maps

def balF (M : List Li) : Nat → Option Value := fun a => if hasLn M a then some (.agg (vec (bal M a))) else none
theorem bal_no {M : List Li} {a : Nat} (h : hasLn M a = false) : bal M a = fun _ => 0 := by
  funext c
  unfold bal
  induction M with
  | nil => rfl
  | cons x r ih =>
    unfold hasLn at h ih
    rw [List.any_cons, Bool.or_eq_false_iff] at h
    simp only [sumB, loanP, h.1]
    rw [ih h.2]
    rfl
theorem bal_snoc (M : List Li) (x : Li) (a : Nat) : bal (M ++ [x]) a = if x.y.a = a then plusL (bal M a) x.l else bal M a := by
  funext c
  unfold bal
  rw [sumB_snoc]
  by_cases h : x.y.a = a
  · rw [if_pos h]
    simp [loanP, h, plusL]
  · rw [if_neg h]
    simp [loanP, h]
theorem ctl_snoc (M : List Li) (x : Li) : ctl (M ++ [x]) = plusL (ctl M) x.l := by
  funext c
  unfold ctl plusL
  rw [sumB_snoc]
  simp [allP]
theorem balF_snoc (M : List Li) (x : Li) : balF (M ++ [x]) = upd (balF M) x.y.a (some (.agg (vec (plusL (bal M x.y.a) x.l)))) := by
  funext a
  by_cases h : a = x.y.a
  · subst h
    rw [upd_same]
    unfold balF hasLn
    rw [List.any_append]
    simp [bal_snoc]
  · rw [upd_other _ h]
    unfold balF hasLn
    rw [List.any_append]
    have h2 : ¬ x.y.a = a := fun e => h e.symm
    simp [h2, bal_snoc]
theorem blk_ne {w : World} {g g' : Nat} {t t' : TypeId} {cs cs' : Array Value} (h : Blk w g t cs) (h' : Blk w g' t' cs') (ht : t ≠ t') : g ≠ g' := by
  rintro rfl
  unfold Blk at h h'
  rw [h] at h'
  injection h' with h'
  injection h' with _ h2
  exact ht h2
theorem blk_map {κ : Type} {In : κ → Prop} {enc : κ → Value} {f : κ → Option Value} {w : World} {g b : Nat} {t : TypeId} {cs : Array Value} (h : Blk w g t cs) (h' : MapF w In enc b f) : g ≠ b := by
  rintro rfl
  obtain ⟨es, c, hb, _⟩ := h'
  unfold Blk at h
  rw [h] at hb
  cases hb
theorem own_blk14 {α : Type} {T : Lies α} {e : TypeId} {w : World} {base n g : Nat} {v : Value} {l : List α} (h : OwnS T e w base v n l) (hg : v.ownBlock = some g) : ∃ cs, Blk w g e cs := by
  unfold OwnS at h
  rcases h.2 with ⟨rfl, _⟩ | ⟨g', cap, cur, rfl, _, hb, _⟩
  · simp [Value.ownBlock] at hg
  · simp [Value.ownBlock] at hg
    subst hg
    exact ⟨cur, hb⟩
theorem legNe : (53 : TypeId) ≠ 87 ∧ (53 : TypeId) ≠ 42 ∧ (87 : TypeId) ≠ 42 := by decide
theorem LedL.added {w w' : World} {q b : Nat} {D : Nat → Prop} {M : List Li} {L : Ky → Option Nat} {lv v2 : Value} {V : List LinV} {lm : Option Nat} {inn : Nat → Option Nat} {x : Li} {A : Option Addr} {c : Nat}
    (h1 : Blk w q 87 (ledC lv (.map lm) (.map (some b)) M)) (h2 : OwnS linT 42 w 0 lv M.length V) (h3 : LegsAt w D M V) (h4 : LiveAt w D L lm inn) (h5 : BalAt w D M (some b)) (h7 : D q) (h8 : ∀ b, lv.ownBlock = some b → D b) (h9 : ∀ i, D i → i < w.heap.size) (h10 : lm ≠ none) (h11 : lm ≠ some b ∧ ∀ a, inn a ≠ some b)
    (hF : Fine (M ++ [x])) (k1 : Blk w' q 87 (ledC v2 (.map lm) (.map (some b)) (M ++ [x]))) (k2 : OwnS linT 42 w' 0 v2 (M.length + 1) (V ++ [⟨x.y, A, x.l.length, c, x.o⟩]))
    (k3 : MapF w' u32In u32E b (upd (balF M) x.y.a (some (.agg (vec (plusL (bal M x.y.a) x.l)))))) (k4 : ∀ i, D i → i ≠ q → i ≠ b → lv.ownBlock ≠ some i → w'.heap[i]? = w.heap[i]?) (k5 : w.heap.size ≤ w'.heap.size) (k6 : ∀ g, v2.ownBlock = some g → lv.ownBlock = some g ∨ w.heap.size ≤ g)
    (k7 : OwnS legT 53 w' 0 (.slice A x.l.length c) x.l.length x.l) :
    LedL w' q (fun i => D i ∨ (Value.slice A x.l.length c).ownBlock = some i ∨ (w.heap.size ≤ i ∧ i < w'.heap.size)) (M ++ [x]) L := by
  obtain ⟨n1, n2, n3⟩ := legNe
  have hrow : ∀ (i : Nat) (cs : Array Value) (t : TypeId), Blk w i t cs → t ≠ 42 → lv.ownBlock ≠ some i := fun i cs t hb ht he => by
    obtain ⟨cs', hb'⟩ := own_blk14 h2 he
    exact blk_ne hb hb' ht rfl
  have hmap : ∀ {κ : Type} {In : κ → Prop} {enc : κ → Value} {f : κ → Option Value} (r : Nat), D r → r ≠ b → MapF w In enc r f → w'.heap[r]? = w.heap[r]? := fun r hr hrb hm => by
    refine k4 r hr (fun e => blk_map h1 hm e.symm) hrb (fun he => ?_)
    obtain ⟨cs', hb'⟩ := own_blk14 h2 he
    exact blk_map hb' hm rfl
  refine ⟨v2, V ++ [⟨x.y, A, x.l.length, c, x.o⟩], lm, some b, inn, k1, by rw [List.length_append]; exact k2, ?_, ?_, ⟨fun h => (by cases h), fun b' hb' => ?_⟩, hF, .inl h7, fun g hg => ?_, fun i hi => ?_, ⟨fun h => (by cases h), fun h => absurd h h10⟩, fun b' hb' => ?_⟩
  · have hk := h3.keep (w' := w') (D' := fun i => D i ∨ (Value.slice A x.l.length c).ownBlock = some i ∨ (w.heap.size ≤ i ∧ i < w'.heap.size)) (fun i v p hv hp => by
      obtain ⟨cs, hc⟩ := h3.t i v p hv hp
      obtain ⟨z, hz⟩ := h3.at_ hv
      exact k4 _ ((h3.r i v z hv hz).2 p hp) (blk_ne hc h1 n1) (blk_map hc (h5.out b rfl).2) (hrow _ cs _ hc n2)) k5 (fun i h => .inl h)
    have split : ∀ (i : Nat) v, (V ++ [⟨x.y, A, x.l.length, c, x.o⟩])[i]? = some v → V[i]? = some v ∨ (i = V.length ∧ v = ⟨x.y, A, x.l.length, c, x.o⟩) := fun i v hv => by
      rcases Nat.lt_trichotomy i V.length with h | h | h
      · rw [List.getElem?_append_left h] at hv
        exact .inl hv
      · subst h
        simp at hv
        exact .inr ⟨rfl, hv.symm⟩
      · rw [List.getElem?_eq_none (by simp; omega)] at hv
        cases hv
    have splitM : ∀ (i : Nat) z, i < M.length → (M ++ [x])[i]? = some z → M[i]? = some z := fun i z hi hz => by
      rw [List.getElem?_append_left hi] at hz
      exact hz
    refine ⟨by simp [h3.len], fun i v z hv hz => ?_, fun i v z hv hz => ?_, fun i v p hv hp => ?_⟩
    · rcases split i v hv with h | ⟨rfl, rfl⟩
      · have := (List.getElem?_eq_some_iff.1 h).1
        exact hk.y i v z h (splitM i z (by rw [← h3.len]; exact this) hz)
      · rw [h3.len] at hz
        simp at hz
        subst hz
        exact ⟨rfl, rfl, rfl⟩
    · rcases split i v hv with h | ⟨rfl, rfl⟩
      · have := (List.getElem?_eq_some_iff.1 h).1
        exact hk.r i v z h (splitM i z (by rw [← h3.len]; exact this) hz)
      · rw [h3.len] at hz
        simp at hz
        subst hz
        obtain ⟨_, A', c', he, _, _, hr⟩ := k7.form (by decide)
        injection he with he1 he2 he3
        subst he1
        refine ⟨hr, fun p hp => .inr (.inl ?_)⟩
        simp only at hp
        rw [hp]
        rfl
    · rcases split i v hv with h | ⟨rfl, rfl⟩
      · exact hk.t i v p h hp
      · simp only at hp
        subst hp
        exact own_blk14 k7 rfl
  · exact h4.keep (fun g hg => hmap g (h4.out g hg).1 (fun e => h11.1 (by rw [hg, e])) (h4.out g hg).2.1) (fun a r hr => hmap r (h4.at_ a r hr).1 (fun e => h11.2 a (by rw [hr, e])) (h4.at_ a r hr).2) (fun i h => .inl h)
  · cases hb'
    refine ⟨.inl (h5.out b rfl).1, ?_⟩
    have := balF_snoc M x
    unfold balF at this k3
    rw [this]
    exact k3
  · rcases k6 g hg with h | h
    · exact .inl (h8 g h)
    · obtain ⟨cs, hc⟩ := own_blk14 k2 hg
      exact .inr (.inr ⟨h, hc.lt⟩)
  · rcases hi with hi | hi | hi
    · exact Nat.lt_of_lt_of_le (h9 i hi) k5
    · obtain ⟨cs, hc⟩ := own_blk14 k7 hi
      exact hc.lt
    · exact hi.2
  · cases hb'
    exact h11
end Go.Proofs.YtabiaeicejgeiaaGreatDoor
