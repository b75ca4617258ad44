/-
  What the library's cut, replace, parse make of a number's text. Plain mathematics.
-/
import Derived.Test.YtijkcolkedeibaaDoorRefDec
import Derived.Test.YtijkcolkedeibaaDoorCoinX
namespace Go.Proofs.YtijkcolkedeibaaDoor
open Go.RowKit Go.Lib

theorem dig_dec (n : Nat) : ∀ b ∈ Lib.decDigits n, 48 ≤ b.toNat ∧ b.toNat ≤ 57 := by
  induction n using Nat.strongRecOn with
  | _ n ih =>
    rw [Lib.decDigits]
    split
    · intro b hb
      rw [List.mem_singleton.1 hb, ofNat_lt _ (by omega)]; omega
    · intro b hb
      rcases List.mem_append.1 hb with hb | hb
      · exact ih (n / 10) (by omega) b hb
      · rw [List.mem_singleton.1 hb, ofNat_lt _ (by omega)]; omega
theorem dig_two (r : Nat) (h : r < 100) : ∀ b ∈ two r, 48 ≤ b.toNat ∧ b.toNat ≤ 57 := by
  intro b hb
  unfold two at hb
  rcases List.mem_cons.1 hb with rfl | hb
  · rw [ofNat_lt _ (by omega)]; omega
  · rw [List.mem_singleton.1 hb, ofNat_lt _ (by omega)]; omega
theorem index_dot (R : List UInt8) : ∀ D : List UInt8, (∀ b ∈ D, b ≠ 46) → Lib.index (D ++ 46 :: R) [46] = (D.length : Int) := by
  intro D hD
  rw [Lib.index_one]
  induction D with
  | nil => simp [Lib.indexByte]
  | cons b D ih =>
    have h1 := ih (fun c hc => hD c (List.mem_cons_of_mem _ hc))
    have h2 : (b == 46) = false := by rw [beq_eq_false_iff_ne]; exact hD b List.mem_cons_self
    rw [List.cons_append, Lib.indexByte, h2, h1]
    have h3 : ((D.length : Int) == -1) = false := by rw [beq_eq_false_iff_ne]; omega
    rw [h3]
    simp
theorem cut_dot (R D : List UInt8) (hD : ∀ b ∈ D, b ≠ 46) : Lib.cut (D ++ 46 :: R) [46] = (D, R, true) := by
  unfold Lib.cut
  rw [index_dot R D hD, if_pos (by omega)]
  simp
theorem replace_dot (R X : List UInt8) (hX : ∀ b ∈ X, b ≠ 46) : Lib.replace (X ++ 46 :: R) [46] [] 1 = X ++ R := by
  have hi := index_dot R X hX
  have hc : 1 ≤ Lib.count (X ++ 46 :: R) [46] := by
    unfold Lib.count
    rw [Lib.countFrom, hi]
    have h3 : ((X.length : Int) == -1) = false := by rw [beq_eq_false_iff_ne]; omega
    rw [h3]
    simp
    try omega
  unfold Lib.replace
  rw [if_neg (by decide)]
  have hn : Lib.replaceNum (X ++ 46 :: R) [46] 1 = 1 := by
    unfold Lib.replaceNum
    rw [if_neg (by omega)]
    rfl
  rw [hn, Lib.replaceK_hit _ _ _ _ X.length hi]
  simp [Lib.replaceK]
def valA (acc : Nat) (l : List UInt8) : Nat := l.foldl (fun a b => 10 * a + (b.toNat - 48)) acc
theorem valA_ge (l : List UInt8) : ∀ acc, acc ≤ valA acc l := by
  induction l with
  | nil => exact fun acc => Nat.le_refl _
  | cons b l ih => exact fun acc => Nat.le_trans (by omega) (ih (10 * acc + (b.toNat - 48)))
theorem parse_dig : ∀ (l : List UInt8) (acc : Nat), (∀ b ∈ l, 48 ≤ b.toNat ∧ b.toNat ≤ 57) → valA acc l ≤ 18446744073709551615 → Lib.parseUintM (2 ^ 64 - 1) acc l = .ok (valA acc l)
  | [], acc, _, _ => rfl
  | c :: l, acc, hd, hv => by
    have hc := hd c List.mem_cons_self
    have hv2 : valA acc (c :: l) = valA (10 * acc + (c.toNat - 48)) l := rfl
    have hg := valA_ge l (10 * acc + (c.toNat - 48))
    rw [hv2] at hv ⊢
    have e : acc * 10 + (c.toNat - 48) = 10 * acc + (c.toNat - 48) := by omega
    rw [Lib.parseUintM, if_pos hc, if_neg (by omega), if_neg (by omega), e]
    exact parse_dig l _ (fun b hb => hd b (List.mem_cons_of_mem _ hb)) hv
theorem valA_text (N : Nat) : valA 0 (Lib.decDigits (N / 100) ++ two (N % 100)) = N := by
  have h := (valD_dec (N / 100)).1
  unfold valD at h
  unfold valA two
  rw [List.foldl_append, h]
  simp only [List.foldl_cons, List.foldl_nil]
  rw [ofNat_lt _ (by omega), ofNat_lt _ (by omega)]
  omega
end Go.Proofs.YtijkcolkedeibaaDoor
