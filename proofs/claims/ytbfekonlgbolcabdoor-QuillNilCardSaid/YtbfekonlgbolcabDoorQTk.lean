/-
  What the Lens takes is what the reference takes; what was laid is taken whole. Plain mathematics; a text's most is below 1000.
-/
import Derived.Test.YtbfekonlgbolcabDoorRefW8
namespace Go.Proofs.YtbfekonlgbolcabDoor
open Go.RowKit

theorem takeM_eq (l : List UInt8) (v : Val) (h3 : v.k % 4 = 3 → v.m < 1000) :
    takeM l v = match takeR (some l) v with | none => none | some r => some (takeO (some l) v, r) := by
  obtain ⟨k, u, i, s, m⟩ := v
  simp only at h3
  have hc : numT l = none ∨ ∃ mark N r, numT l = some (mark, N, r) := by
    cases numT l with
    | none => exact .inl rfl
    | some x => exact .inr ⟨x.1, x.2.1, x.2.2, rfl⟩
  rcases hc with hN | ⟨mark, N, r, hN⟩
  · by_cases h0 : k % 4 = 0 <;> by_cases h1 : k % 4 = 1 <;> by_cases h2 : k % 4 = 2 <;> simp [takeM, takeR, uS, iS, tS, takeS, takeI, takeU, hN, h0, h1, h2]
  · by_cases h0 : k % 4 = 0
    · cases mark <;> by_cases hM : N ≤ m <;> simp [takeM, takeR, takeO, uV, uS, takeU, hN, h0, hM]
    · by_cases h1 : k % 4 = 1
      · by_cases hM : N < 9223372036854775808 <;> simp [takeM, takeR, takeO, iV, iS, takeI, hN, h1, hM]
      · by_cases h2 : k % 4 = 2
        · cases mark
          · rcases Nat.lt_or_ge 1 N with hM | hM
            · simp [takeM, takeR, uS, takeU, hN, h2, show ¬ N ≤ 1 by omega]
            · rcases (show N = 0 ∨ N = 1 by omega) with rfl | rfl <;> simp [takeM, takeR, takeO, uV, uS, takeU, hN, h2]
          · simp [takeM, takeR, uS, takeU, hN, h2]
        · have hm : m % 1000 = m := Nat.mod_eq_of_lt (h3 (by omega))
          cases mark <;> by_cases hM : N ≤ m <;> by_cases hr : N ≤ r.length <;> simp [takeM, takeR, takeO, tV, tS, takeS, takeU, hN, h0, h1, h2, hM, hr, hm]
/-- What was laid is taken, and the rest is left. -/
theorem lay_takeR (v : Val) (hv : v.Ok) (M : Nat) (h0 : v.k % 4 = 0 → v.u ≤ M) (h3 : v.k % 4 = 3 → v.s.size ≤ M ∧ M < 1000) (r : List UInt8) : takeR (some (layV v ++ r)) { v with m := M } = some r := by
  obtain ⟨k, u, i, s, m⟩ := v
  obtain ⟨hk, hu, hi, hs, hm⟩ := hv
  simp only at hk hu hi hs hm h0 h3
  unfold takeR layV
  simp only
  by_cases k0 : k % 4 = 0
  · rw [if_pos k0, if_pos k0]
    simp [uS, takeU, numT_lay 0 u r (.inl rfl) hu, h0 k0]
  · rw [if_neg k0, if_neg k0]
    by_cases k1 : k % 4 = 1
    · rw [if_pos k1, if_pos k1]
      unfold iS takeI layI
      by_cases hi0 : 0 ≤ i
      · rw [if_pos hi0]
        simp [numT_lay 0 i.toNat r (.inl rfl) (by omega), show i.toNat < 9223372036854775808 by omega]
      · rw [if_neg hi0]
        simp [numT_lay 128 (-1 - i).toNat r (.inr rfl) (by omega), show (-1 - i).toNat < 9223372036854775808 by omega]
    · rw [if_neg k1, if_neg k1]
      by_cases k2 : k % 4 = 2
      · rw [if_pos k2, if_pos k2]
        unfold layF
        by_cases hb : (u % 2 == 1) = true
        · rw [if_pos hb]
          simp [uS, takeU, numT_lay 0 1 r (.inl rfl) (by decide)]
        · rw [if_neg hb]
          simp [uS, takeU, numT_lay 0 0 r (.inl rfl) (by decide)]
      · rw [if_neg k2, if_neg k2]
        obtain ⟨hs2, hM⟩ := h3 (by omega)
        unfold layT
        rw [Nat.mod_eq_of_lt hM, List.append_assoc, show s.data.toList.length = s.size by simp]
        simp [tS, takeS, takeU, numT_lay 0 s.size (s.data.toList ++ r) (.inl rfl) (by omega), hs2]
end Go.Proofs.YtbfekonlgbolcabDoor
