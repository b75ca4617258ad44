/-
  Legs, by account: plain mathematics. No condition.
-/
namespace Go.Proofs.YtabiaeicejgeiaaGreatDoor

def fitB (x : Int) : Bool := decide (-9223372036854775808 ≤ x) && decide (x ≤ 9223372036854775807)
theorem fitB_iff {x : Int} : fitB x = true ↔ -9223372036854775808 ≤ x ∧ x ≤ 9223372036854775807 := by simp [fitB]
def addO (s : Option Int) (x : Int) : Option Int := match s with
  | none => none
  | some s => if fitB (s + x) then some (s + x) else none
/-- What the legs of account a come to, one by one. -/
def stepA (a : Nat) (s : Option Int) (g : Nat × Int) : Option Int := if g.1 = a then addO s g.2 else s
def accs (L : List (Nat × Int)) (a : Nat) : Option Int := L.foldl (stepA a) (some 0)
def hasA (L : List (Nat × Int)) (a : Nat) : Bool := L.any (fun g => g.1 == a)
def okL (L : List (Nat × Int)) : Prop := ∀ a, accs L a ≠ none
def sumA (L : List (Nat × Int)) (a : Nat) : Int := (accs L a).getD 0
theorem accs_snoc (L : List (Nat × Int)) (g : Nat × Int) (a : Nat) : accs (L ++ [g]) a = stepA a (accs L a) g := by simp [accs, List.foldl_append]
theorem hasA_snoc (L : List (Nat × Int)) (g : Nat × Int) (a : Nat) : hasA (L ++ [g]) a = (hasA L a || g.1 == a) := by simp [hasA]
theorem step_none (a : Nat) : ∀ M : List (Nat × Int), M.foldl (stepA a) none = none := by
  intro M
  induction M with
  | nil => rfl
  | cons g M ih =>
    rw [List.foldl_cons, show stepA a none g = none by unfold stepA addO; split <;> rfl]
    exact ih
theorem accs_more {L : List (Nat × Int)} {a : Nat} (h : accs L a = none) (M : List (Nat × Int)) : accs (L ++ M) a = none := by
  unfold accs at h ⊢
  rw [List.foldl_append, h, step_none]
theorem okL_take {L : List (Nat × Int)} (h : okL L) (k : Nat) : okL (L.take k) := fun a e => h a (by
  have := accs_more e (L.drop k)
  rwa [List.take_append_drop] at this)
theorem take_snoc {α : Type} (l : List α) {k : Nat} (h : k < l.length) : l.take (k + 1) = l.take k ++ [l[k]] := by
  rw [List.take_succ_eq_append_getElem h]
theorem accs_fit {L : List (Nat × Int)} {a : Nat} {s : Int} (h : accs L a = some s) : -9223372036854775808 ≤ s ∧ s ≤ 9223372036854775807 := by
  have hg : ∀ (M : List (Nat × Int)) (s0 : Int), (-9223372036854775808 ≤ s0 ∧ s0 ≤ 9223372036854775807) → M.foldl (stepA a) (some s0) = some s → -9223372036854775808 ≤ s ∧ s ≤ 9223372036854775807 := by
    intro M
    induction M with
    | nil => intro s0 h0 e; simp only [List.foldl_nil, Option.some.injEq] at e; exact e ▸ h0
    | cons g M ih =>
      intro s0 h0 e
      rw [List.foldl_cons] at e
      unfold stepA addO at e
      split at e
      · simp only at e
        split at e
        · exact ih _ (fitB_iff.1 ‹_›) e
        · have := step_none a M; unfold stepA addO at this; rw [this] at e; cases e
      · exact ih _ h0 e
  exact hg L 0 (by omega) h
theorem sumA_fit (L : List (Nat × Int)) (a : Nat) : -9223372036854775808 ≤ sumA L a ∧ sumA L a ≤ 9223372036854775807 := by
  unfold sumA
  cases h : accs L a with
  | none => simp
  | some s => simpa using accs_fit h
theorem accs_no {L : List (Nat × Int)} {a : Nat} (h : hasA L a = false) : accs L a = some 0 := by
  unfold accs
  have : ∀ (M : List (Nat × Int)) s, hasA M a = false → M.foldl (stepA a) s = s := by
    intro M
    induction M with
    | nil => intro s _; rfl
    | cons g M ih =>
      intro s hm
      simp only [hasA, List.any_cons, Bool.or_eq_false_iff, beq_eq_false_iff_ne] at hm
      rw [List.foldl_cons]
      unfold stepA
      rw [if_neg hm.1]
      have := ih s (by simpa [hasA] using hm.2)
      unfold stepA at this
      exact this
  exact this L _ h
theorem sumA_no {L : List (Nat × Int)} {a : Nat} (h : hasA L a = false) : sumA L a = 0 := by unfold sumA; rw [accs_no h]; rfl
theorem accs_sum {L : List (Nat × Int)} (h : okL L) (a : Nat) : accs L a = some (sumA L a) := by
  unfold sumA
  cases e : accs L a with
  | none => exact absurd e (h a)
  | some s => rfl
theorem sumA_snoc {L : List (Nat × Int)} {g : Nat × Int} (h : okL L) (hf : fitB (sumA L g.1 + g.2) = true) (a : Nat) : accs (L ++ [g]) a = some (if g.1 = a then sumA L a + g.2 else sumA L a) := by
  rw [accs_snoc]
  unfold stepA
  by_cases e : g.1 = a
  · subst e
    rw [if_pos rfl, if_pos rfl, accs_sum h]
    unfold addO
    simp only
    rw [if_pos hf]
  · rw [if_neg e, if_neg e, accs_sum h]
theorem okL_snoc {L : List (Nat × Int)} {g : Nat × Int} (h : okL L) (hf : fitB (sumA L g.1 + g.2) = true) : okL (L ++ [g]) := fun a e => by rw [sumA_snoc h hf a] at e; cases e
theorem sum_snoc {L : List (Nat × Int)} {g : Nat × Int} (h : okL L) (hf : fitB (sumA L g.1 + g.2) = true) (a : Nat) : sumA (L ++ [g]) a = if g.1 = a then sumA L a + g.2 else sumA L a := by
  unfold sumA; rw [sumA_snoc h hf a]; rfl
theorem over_snoc {L : List (Nat × Int)} {g : Nat × Int} (h : okL L) (hf : fitB (sumA L g.1 + g.2) = false) : accs (L ++ [g]) g.1 = none := by
  rw [accs_snoc]
  unfold stepA addO
  rw [if_pos rfl, accs_sum h]
  simp only
  rw [if_neg (by simp [hf])]
/-- The accounts that there are, rising; and the rows of them. -/
def keysA (L : List (Nat × Int)) : List Nat := (List.range 256).filter (hasA L)
def keysTo (L : List (Nat × Int)) (n : Nat) : List Nat := (List.range n).filter (hasA L)
def rowA (L : List (Nat × Int)) (a : Nat) : Nat × Int := (a, sumA L a)
theorem keysTo_succ (L : List (Nat × Int)) (n : Nat) : keysTo L (n + 1) = if hasA L n then keysTo L n ++ [n] else keysTo L n := by
  unfold keysTo
  rw [List.range_succ, List.filter_append]
  by_cases h : hasA L n = true
  · rw [if_pos h]; simp [h]
  · rw [if_neg h]; simp at h; simp [h]
theorem keysTo_len (L : List (Nat × Int)) (n : Nat) : (keysTo L n).length ≤ n := by
  have := List.length_filter_le (hasA L) (List.range n)
  simpa [keysTo] using this
theorem keysA_mem {L : List (Nat × Int)} {a : Nat} : a ∈ keysA L ↔ a < 256 ∧ hasA L a = true := by simp [keysA]
theorem keysA_lt (L : List (Nat × Int)) : (keysA L).Pairwise (· < ·) := List.Pairwise.filter _ List.pairwise_lt_range
/-- No more accounts than legs. -/
theorem nodup_len : ∀ (l m : List Nat), l.Nodup → (∀ a ∈ l, a ∈ m) → l.length ≤ m.length := by
  intro l
  induction l with
  | nil => intro m _ _; exact Nat.zero_le _
  | cons a l ih =>
    intro m hn hm
    rw [List.nodup_cons] at hn
    have ha := hm a (List.mem_cons_self ..)
    have h1 := ih (m.erase a) hn.2 (fun x hx => (List.mem_erase_of_ne (fun e : x = a => hn.1 (by rw [← e]; exact hx))).2 (hm x (List.mem_cons_of_mem _ hx)))
    rw [List.length_erase_of_mem ha] at h1
    have : 0 < m.length := List.length_pos_of_mem ha
    simp only [List.length_cons]
    omega
theorem keys_few {L : List (Nat × Int)} {R : List Nat} (hn : R.Nodup) (hm : ∀ a ∈ R, hasA L a = true) : R.length ≤ L.length := by
  have := nodup_len R (L.map (·.1)) hn (fun a ha => by
    have := hm a ha
    simp only [hasA, List.any_eq_true, beq_iff_eq] at this
    obtain ⟨g, hg, rfl⟩ := this
    exact List.mem_map_of_mem hg)
  simpa using this
/-- Whatever order they were met in: sorted they are one list. -/
theorem sorted_keys {L : List (Nat × Int)} {R : List Nat} (hn : R.Nodup) (hm : ∀ a, a ∈ R ↔ hasA L a = true) (hL : ∀ g ∈ L, g.1 < 256) (le : Nat → Nat → Bool) (hle : ∀ a b, le a b = decide (a ≤ b)) : R.mergeSort le = keysA L := by
  have hp := List.mergeSort_perm R le
  have hs : (R.mergeSort le).Pairwise (fun a b => a ≤ b) := by
    have := List.pairwise_mergeSort (le := le) (fun a b c h1 h2 => by rw [hle] at *; simp at *; omega) (fun a b => by rw [hle, hle]; simp; omega) R
    exact this.imp (fun h => by rw [hle] at h; simpa using h)
  have hk : (keysA L).Pairwise (fun a b => a ≤ b) := (keysA_lt L).imp (fun h => Nat.le_of_lt h)
  have hkn : (keysA L).Nodup := (keysA_lt L).imp (fun h => Nat.ne_of_lt h)
  have hpp : R.Perm (keysA L) := (List.perm_ext_iff_of_nodup hn hkn).2 (fun a => by
    rw [hm, keysA_mem]
    constructor
    · intro h
      refine ⟨?_, h⟩
      simp only [hasA, List.any_eq_true, beq_iff_eq] at h
      obtain ⟨g, hg, rfl⟩ := h
      exact hL g hg
    · exact fun h => h.2)
  exact (hp.trans hpp).eq_of_pairwise (fun a b _ _ h1 h2 => Nat.le_antisymm h1 h2) hs hk
end Go.Proofs.YtabiaeicejgeiaaGreatDoor
