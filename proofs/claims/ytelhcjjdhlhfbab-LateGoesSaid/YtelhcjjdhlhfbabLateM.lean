/-
  Due days and sums: plain mathematics. No condition.
-/
namespace Go.Proofs.Ytelhcjjdhlhfbab

/-- The first of which not all is paid. -/
def oldD (p : Int) : List (Int × Int) → Option Nat
  | [] => none
  | d :: l => if p < d.2 then some 0 else (oldD p l).map (· + 1)
theorem oldD_none {p : Int} : ∀ {l : List (Int × Int)}, oldD p l = none → ∀ d ∈ l, d.2 ≤ p := by
  intro l
  induction l with
  | nil => intro _ d hd; cases hd
  | cons a l ih =>
    intro h d hd
    unfold oldD at h
    split at h
    · cases h
    · rcases List.mem_cons.1 hd with rfl | hd
      · omega
      · exact ih (by simpa using h) d hd
theorem oldD_some {p : Int} : ∀ {l : List (Int × Int)} {k : Nat}, oldD p l = some k → ∃ h : k < l.length, p < (l[k]).2 ∧ ∀ j, (hj : j < k) → (l[j]'(by omega)).2 ≤ p := by
  intro l
  induction l with
  | nil => intro k h; cases h
  | cons a l ih =>
    intro k h
    unfold oldD at h
    split at h
    · injection h with h
      subst h
      exact ⟨by simp, by assumption, fun j hj => by omega⟩
    · obtain ⟨j, hj, rfl⟩ := Option.map_eq_some_iff.1 h
      obtain ⟨h1, h2, h3⟩ := ih hj
      refine ⟨by simp; omega, by simpa using h2, fun i hi => ?_⟩
      cases i with
      | zero => simp; omega
      | succ i => simpa using h3 i (by omega)
theorem oldD_of {p : Int} {l : List (Int × Int)} {k : Nat} (h : k < l.length) (h1 : p < (l[k]).2) (h2 : ∀ j, (hj : j < k) → (l[j]'(by omega)).2 ≤ p) : oldD p l = some k := by
  cases e : oldD p l with
  | none =>
    have := oldD_none e _ (List.getElem_mem h)
    omega
  | some i =>
    obtain ⟨a, b, c⟩ := oldD_some e
    rcases Nat.lt_trichotomy i k with hh | hh | hh
    · have := h2 i hh; omega
    · rw [hh]
    · have := c k hh; omega
theorem oldD_no {p : Int} {l : List (Int × Int)} (h : ∀ d ∈ l, d.2 ≤ p) : oldD p l = none := by
  cases e : oldD p l with
  | none => rfl
  | some i =>
    obtain ⟨a, b, c⟩ := oldD_some e
    have := h _ (List.getElem_mem a)
    omega
/-- For how many days. -/
def sinD (l : List (Int × Int)) (p t : Int) : Int := match oldD p l with
  | none => 0
  | some k => if (l.getD k (0, 0)).1 < t then t - (l.getD k (0, 0)).1 else 0
theorem sinD_none {l : List (Int × Int)} {p t : Int} (h : oldD p l = none) : sinD l p t = 0 := by unfold sinD; rw [h]
theorem sinD_some {l : List (Int × Int)} {p t : Int} {k : Nat} (h : oldD p l = some k) : sinD l p t = if (l.getD k (0, 0)).1 < t then t - (l.getD k (0, 0)).1 else 0 := by unfold sinD; rw [h]
/-- How much is behind, of those whose difference is within 64 bits. -/
def behD (l : List (Int × Int)) (p t : Int) : Int := l.foldl (fun m d => if d.1 < t ∧ -9223372036854775808 ≤ d.2 - p ∧ d.2 - p ≤ 9223372036854775807 ∧ m < d.2 - p then d.2 - p else m) 0
theorem behD_snoc (l : List (Int × Int)) (d : Int × Int) (p t : Int) : behD (l ++ [d]) p t = if d.1 < t ∧ -9223372036854775808 ≤ d.2 - p ∧ d.2 - p ≤ 9223372036854775807 ∧ behD l p t < d.2 - p then d.2 - p else behD l p t := by
  unfold behD
  rw [List.foldl_append]
  rfl
theorem behD_ge (l : List (Int × Int)) (p t : Int) : 0 ≤ behD l p t ∧ behD l p t ≤ 9223372036854775807 := by
  unfold behD
  have h : ∀ (l : List (Int × Int)) m, 0 ≤ m ∧ m ≤ 9223372036854775807 → 0 ≤ l.foldl (fun m d => if d.1 < t ∧ -9223372036854775808 ≤ d.2 - p ∧ d.2 - p ≤ 9223372036854775807 ∧ m < d.2 - p then d.2 - p else m) m ∧ l.foldl (fun m d => if d.1 < t ∧ -9223372036854775808 ≤ d.2 - p ∧ d.2 - p ≤ 9223372036854775807 ∧ m < d.2 - p then d.2 - p else m) m ≤ 9223372036854775807 := by
    intro l
    induction l with
    | nil => intro m h; exact h
    | cons d l ih =>
      intro m h
      rw [List.foldl_cons]
      apply ih
      split <;> omega
  exact h l 0 (by omega)
theorem snocI {α : Type} {m : List α → Prop} (h0 : m []) (h1 : ∀ l a, m l → m (l ++ [a])) (l : List α) : m l := by
  have h : ∀ r : List α, m r.reverse := by
    intro r
    induction r with
    | nil => exact h0
    | cons a r ih => rw [List.reverse_cons]; exact h1 _ _ ih
  have := h l.reverse
  rwa [List.reverse_reverse] at this
/-- What is behind is what it has to be. -/
theorem behD_is (l : List (Int × Int)) (p t : Int) (hd : ∀ d ∈ l, -9223372036854775808 ≤ d.2 - p ∧ d.2 - p ≤ 9223372036854775807) :
    (behD l p t = 0 ∨ ∃ d ∈ l, d.1 < t ∧ behD l p t = d.2 - p) ∧ ∀ d ∈ l, d.1 < t → d.2 - p ≤ behD l p t := by
  revert hd
  apply snocI (m := fun l => (∀ d ∈ l, -9223372036854775808 ≤ d.2 - p ∧ d.2 - p ≤ 9223372036854775807) → (behD l p t = 0 ∨ ∃ d ∈ l, d.1 < t ∧ behD l p t = d.2 - p) ∧ ∀ d ∈ l, d.1 < t → d.2 - p ≤ behD l p t) ?_ (fun l d ih => ?_) l
  · exact fun _ => ⟨.inl rfl, fun d hd => nomatch hd⟩
  · intro hd
    obtain ⟨h1, h2⟩ := ih (fun x hx => hd x (List.mem_append_left _ hx))
    have h3 := hd d (by simp)
    rw [behD_snoc]
    split
    · rename_i hc
      refine ⟨.inr ⟨d, by simp, hc.1, rfl⟩, fun x hx hlt => ?_⟩
      rcases List.mem_append.1 hx with hx | hx
      · have := h2 x hx hlt; omega
      · rw [List.mem_singleton.1 hx]; omega
    · rename_i hc
      refine ⟨?_, fun x hx hlt => ?_⟩
      · rcases h1 with h1 | ⟨x, hx, g⟩
        · exact .inl h1
        · exact .inr ⟨x, List.mem_append_left _ hx, g⟩
      · rcases List.mem_append.1 hx with hx | hx
        · exact h2 x hx hlt
        · rw [List.mem_singleton.1 hx] at hlt ⊢
          omega
end Go.Proofs.Ytelhcjjdhlhfbab
