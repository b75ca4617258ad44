/-
  Entries of one text are the same; a Right entry's legs come to nothing: plain mathematics. No condition.
-/
import Derived.Test.YtpphcifabmmimaaLegE
namespace Go.Proofs.Ytpphcifabmmimaa

theorem layN_app {n1 n2 : Nat} {r1 r2 : List UInt8} (h1 : n1 < 18446744073709551616) (h2 : n2 < 18446744073709551616) (h : layN 0 n1 ++ r1 = layN 0 n2 ++ r2) : n1 = n2 ∧ r1 = r2 := by
  have e1 := numT_lay 0 n1 r1 (.inl rfl) h1
  have e2 := numT_lay 0 n2 r2 (.inl rfl) h2
  rw [h, e2] at e1
  simp only [Option.some.injEq, Prod.mk.injEq] at e1
  exact ⟨e1.2.1.symm, e1.2.2.symm⟩
theorem layI_app {i1 i2 : Int} {r1 r2 : List UInt8} (h1 : -9223372036854775808 ≤ i1 ∧ i1 ≤ 9223372036854775807) (h2 : -9223372036854775808 ≤ i2 ∧ i2 ≤ 9223372036854775807) (h : layI i1 ++ r1 = layI i2 ++ r2) : i1 = i2 ∧ r1 = r2 := by
  unfold layI at h
  by_cases p1 : 0 ≤ i1
  · rw [if_pos p1] at h
    have e1 := numT_lay 0 i1.toNat r1 (.inl rfl) (by omega)
    by_cases p2 : 0 ≤ i2
    · rw [if_pos p2] at h
      obtain ⟨e, e'⟩ := layN_app (by omega) (by omega) h
      exact ⟨by omega, e'⟩
    · rw [if_neg p2] at h
      have e2 := numT_lay 128 (-1 - i2).toNat r2 (.inr rfl) (by omega)
      rw [h, e2] at e1
      simp at e1
  · rw [if_neg p1] at h
    have e1 := numT_lay 128 (-1 - i1).toNat r1 (.inr rfl) (by omega)
    by_cases p2 : 0 ≤ i2
    · rw [if_pos p2] at h
      have e2 := numT_lay 0 i2.toNat r2 (.inl rfl) (by omega)
      rw [h, e2] at e1
      simp at e1
    · rw [if_neg p2] at h
      have e2 := numT_lay 128 (-1 - i2).toNat r2 (.inr rfl) (by omega)
      rw [h, e2] at e1
      simp only [Option.some.injEq, Prod.mk.injEq] at e1
      exact ⟨by have := e1.2.1; omega, e1.2.2.symm⟩
theorem layGs_inj : ∀ (l m : List (Nat × Int)), l.length = m.length → (∀ u ∈ l, LegIn u) → (∀ u ∈ m, LegIn u) → layGs l = layGs m → l = m
  | [], [], _, _, _, _ => rfl
  | [], _ :: _, h, _, _, _ => by simp at h
  | _ :: _, [], h, _, _, _ => by simp at h
  | u :: l, v :: m, h, h1, h2, he => by
    have e1 : layGs (u :: l) = layN 0 u.1 ++ (layI u.2 ++ layGs l) := by rw [← List.append_assoc]; rfl
    have e2 : layGs (v :: m) = layN 0 v.1 ++ (layI v.2 ++ layGs m) := by rw [← List.append_assoc]; rfl
    rw [e1, e2] at he
    have b1 := h1 u List.mem_cons_self
    have b2 := h2 v List.mem_cons_self
    obtain ⟨f1, he2⟩ := layN_app (by have := b1.1; omega) (by have := b2.1; omega) he
    obtain ⟨f2, he3⟩ := layI_app b1.2 b2.2 he2
    rw [layGs_inj l m (by simpa using h) (fun x hx => h1 x (List.mem_cons_of_mem _ hx)) (fun x hx => h2 x (List.mem_cons_of_mem _ hx)) he3, show u = v from Prod.ext f1 f2]
/-- Entries that may be are the same just if their texts are. -/
theorem layE_inj {y1 y2 : Ky} {l1 l2 : List (Nat × Int)} (k1 : y1.In) (k2 : y2.In) (r1 : entB y1 l1 = true) (r2 : entB y2 l2 = true) (i1 : ∀ u ∈ l1, LegIn u) (i2 : ∀ u ∈ l2, LegIn u) : layE y1 l1 = layE y2 l2 ↔ y1 = y2 ∧ l1 = l2 := by
  constructor
  · intro h
    obtain ⟨a1, d1, b1, s1⟩ := y1
    obtain ⟨a2, d2, b2, s2⟩ := y2
    obtain ⟨p1, p2, p3⟩ := entB_in r1
    obtain ⟨q1, q2, q3⟩ := entB_in r2
    have ha1 := k1.a
    have ha2 := k2.a
    have hk1 := k1.k
    have hk2 := k2.k
    have hs1 := k1.s
    have hs2 := k2.s
    dsimp only at p1 p2 q1 q2 ha1 ha2 hk1 hk2 hs1 hs2
    unfold layE layKy at h
    simp only [List.nil_append, List.append_assoc] at h
    obtain ⟨e1, h⟩ := layN_app (by omega) (by omega) h
    obtain ⟨e2, h⟩ := layN_app (by omega) (by omega) h
    obtain ⟨e3, h⟩ := layN_app (by omega) (by omega) h
    obtain ⟨e4, h⟩ := layN_app (by omega) (by omega) h
    obtain ⟨e5, h⟩ := layN_app (by omega) (by omega) h
    have e6 := layGs_inj l1 l2 e5 i1 i2 h
    have e7 : d1 = d2 := by omega
    subst e1 e3 e4 e6 e7
    exact ⟨rfl, rfl⟩
  · rintro ⟨rfl, rfl⟩
    rfl
theorem sumF_sum : ∀ (l : List Int) (s t : Int), l.foldl sumF (some s) = some t → t = s + l.sum
  | [], s, t, h => by
    simp only [List.foldl_nil, Option.some.injEq] at h
    simp [h]
  | z :: l, s, t, h => by
    rw [List.foldl_cons] at h
    have e : sumF (some s) z = some (s + z) ∨ sumF (some s) z = none := by
      unfold sumF
      simp only [addO]
      split
      · exact .inl rfl
      · exact .inr rfl
    rcases e with e | e
    · rw [e] at h
      have := sumF_sum l (s + z) t h
      rw [List.sum_cons]
      omega
    · rw [e, sumF_none] at h
      cases h
theorem ent_sum {y : Ky} {l : List (Nat × Int)} (h : entB y l = true) : (amts l).sum = 0 := by
  unfold entB at h
  simp only [Bool.and_eq_true, decide_eq_true_eq] at h
  have := sumF_sum _ 0 0 h.2.2.2.2
  omega
end Go.Proofs.Ytpphcifabmmimaa
