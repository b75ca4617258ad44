/-
  A journal of lines: which line of a key is live, what the sums are.
-/
import Derived.Lib.Hide
namespace Go.Proofs.YtabiaeicejgeiaaGreatDoor
structure Lin (κ : Type) where
  y : κ
  l : List (Nat × Int)
  o : Nat
variable {κ : Type} [DecidableEq κ]
def stepL (k : κ) (i : Nat) (out : Option Nat) (x : Lin κ) : Option Nat :=
  if x.o = 0 ∧ x.y = k then some i else if 0 < x.o ∧ out = some (x.o - 1) then none else out
def liveF (k : κ) : Nat → Option Nat → List (Lin κ) → Option Nat
  | _, out, [] => out
  | i, out, x :: r => liveF k (i + 1) (stepL k i out x) r
def liveL (M : List (Lin κ)) (k : κ) : Option Nat := liveF k 0 none M
theorem liveF_snoc (k : κ) (x : Lin κ) : ∀ (M : List (Lin κ)) (i : Nat) (out : Option Nat), liveF k i out (M ++ [x]) = stepL k (i + M.length) (liveF k i out M) x
  | [], i, out => by simp [liveF]
  | y :: r, i, out => by
    simp only [List.cons_append, liveF, List.length_cons]
    rw [liveF_snoc k x r, show i + 1 + r.length = i + (r.length + 1) from by omega]
theorem liveL_snoc (M : List (Lin κ)) (k : κ) (x : Lin κ) : liveL (M ++ [x]) k = stepL k M.length (liveL M k) x := by
  unfold liveL
  rw [liveF_snoc, Nat.zero_add]
theorem liveL_nil (k : κ) : liveL [] k = none := rfl
theorem snoc_ind {α : Type} {p : List α → Prop} (h0 : p []) (h1 : ∀ l x, p l → p (l ++ [x])) (l : List α) : p l := by
  have : ∀ n (l : List α), l.length = n → p l := by
    intro n
    induction n with
    | zero => intro l hl; rw [List.eq_nil_of_length_eq_zero hl]; exact h0
    | succ n ih =>
      intro l hl
      have hne : l ≠ [] := by rintro rfl; simp at hl
      rw [← List.dropLast_concat_getLast hne]
      exact h1 _ _ (ih _ (by simp [hl]))
  exact this _ l rfl
theorem liveL_some {M : List (Lin κ)} {k : κ} : ∀ {i : Nat}, liveL M k = some i → ∃ x, M[i]? = some x ∧ x.y = k ∧ x.o = 0 := by
  refine snoc_ind (p := fun M => ∀ {i : Nat}, liveL M k = some i → ∃ x, M[i]? = some x ∧ x.y = k ∧ x.o = 0) ?_ ?_ M
  · intro i h
    cases h
  · intro l x ih i h
    rw [liveL_snoc] at h
    unfold stepL at h
    split at h
    · rename_i hx
      cases h
      exact ⟨x, by simp, hx.2, hx.1⟩
    · split at h
      · cases h
      · obtain ⟨y, hy, h1⟩ := ih h
        exact ⟨y, by rw [List.getElem?_append_left (List.getElem?_eq_some_iff.1 hy).1]; exact hy, h1⟩
theorem liveL_post {M : List (Lin κ)} {x : Lin κ} (hx : x.o = 0) (k : κ) : liveL (M ++ [x]) k = if k = x.y then some M.length else liveL M k := by
  rw [liveL_snoc]
  unfold stepL
  by_cases h : x.y = k
  · rw [if_pos ⟨hx, h⟩, if_pos h.symm]
  · rw [if_neg (fun hh : x.o = 0 ∧ x.y = k => h hh.2), if_neg (fun hh : 0 < x.o ∧ _ => by omega), if_neg (fun hh : k = x.y => h hh.symm)]
theorem liveL_rev {M : List (Lin κ)} {x : Lin κ} {i : Nat} (hx : x.o = i + 1) (hl : liveL M x.y = some i) (k : κ) : liveL (M ++ [x]) k = if k = x.y then none else liveL M k := by
  rw [liveL_snoc]
  unfold stepL
  rw [if_neg (fun hh => by omega)]
  by_cases h : k = x.y
  · subst h
    rw [if_pos rfl, if_pos ⟨by omega, by rw [hl, hx]; rfl⟩]
  · rw [if_neg h, if_neg]
    rintro ⟨_, h2⟩
    rw [hx] at h2
    obtain ⟨y, hy, hyk, _⟩ := liveL_some h2
    obtain ⟨z, hz, hzk, _⟩ := liveL_some hl
    simp only [Nat.add_sub_cancel] at hy
    rw [hy] at hz
    cases hz
    exact h (hyk.symm.trans hzk)
/-! the sums -/
def legS (c : Nat) : List (Nat × Int) → Int
  | [] => 0
  | g :: r => (if g.1 = c then g.2 else 0) + legS c r
theorem legS_append (c : Nat) : ∀ l m, legS c (l ++ m) = legS c l + legS c m
  | [], m => by simp [legS]
  | g :: r, m => by simp only [List.cons_append, legS, legS_append c r m]; omega
theorem legS_no {c : Nat} : ∀ {l : List (Nat × Int)}, (∀ g ∈ l, g.1 ≠ c) → legS c l = 0
  | [], _ => rfl
  | g :: r, h => by
    simp only [legS, if_neg (h g List.mem_cons_self), legS_no (fun g' hg => h g' (List.mem_cons_of_mem _ hg))]
    rfl
def Rise (l : List (Nat × Int)) : Prop := l.Pairwise (fun a b => a.1 < b.1)
theorem legS_rise {l : List (Nat × Int)} (h : Rise l) {g : Nat × Int} (hg : g ∈ l) : legS g.1 l = g.2 := by
  induction l with
  | nil => cases hg
  | cons a r ih =>
    obtain ⟨h1, h2⟩ := List.pairwise_cons.1 h
    rcases List.mem_cons.1 hg with rfl | hg
    · simp only [legS, if_pos]
      rw [legS_no (fun g' hg' => by have := h1 g' hg'; omega)]
      omega
    · have := h1 g hg
      simp only [legS, if_neg (show ¬ a.1 = g.1 by omega), ih h2 hg]
      omega
def sumB (p : κ → Bool) (c : Nat) : List (Lin κ) → Int
  | [] => 0
  | x :: r => (if p x.y then legS c x.l else 0) + sumB p c r
omit [DecidableEq κ] in
theorem sumB_append (p : κ → Bool) (c : Nat) : ∀ l m, sumB p c (l ++ m) = sumB p c l + sumB p c m
  | [], m => by simp [sumB]
  | g :: r, m => by simp only [List.cons_append, sumB, sumB_append p c r m]; omega
omit [DecidableEq κ] in
theorem sumB_snoc (p : κ → Bool) (c : Nat) (l : List (Lin κ)) (x : Lin κ) : sumB p c (l ++ [x]) = sumB p c l + (if p x.y then legS c x.l else 0) := by
  rw [sumB_append]
  simp [sumB]
end Go.Proofs.YtabiaeicejgeiaaGreatDoor
