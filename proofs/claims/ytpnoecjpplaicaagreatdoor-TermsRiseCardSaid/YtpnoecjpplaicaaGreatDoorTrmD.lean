/-
A text of terms cut at its blanks is its eight words, and each number's word read is the number. Plain mathematics.
-/
import Derived.Test.YtpnoecjpplaicaaGreatDoorTrmC
import Derived.Test.YtpnoecjpplaicaaGreatDoorCRdN
import Derived.Lib.Split
namespace Go.Proofs.YtpnoecjpplaicaaGreatDoor
open Go.RowKit

theorem ib_blank (R : List UInt8) : ∀ D : List UInt8, (∀ b ∈ D, b ≠ 32) → Lib.index (D ++ 32 :: R) [32] = (D.length : Int) := by
  intro D hD
  rw [Lib.index_one]
  induction D with
  | nil => simp [Lib.indexByte]
  | cons b D ih =>
    have h1 := ih (fun c hc => hD c (List.mem_cons_of_mem _ hc))
    have h2 : (b == 32) = false := by rw [beq_eq_false_iff_ne]; exact hD b List.mem_cons_self
    rw [List.cons_append, Lib.indexByte, h2, h1]
    have h3 : ((D.length : Int) == -1) = false := by rw [beq_eq_false_iff_ne]; omega
    rw [h3]
    simp
theorem ib_none : ∀ D : List UInt8, (∀ b ∈ D, b ≠ 32) → Lib.index D [32] = -1 := by
  intro D hD
  rw [Lib.index_one]
  induction D with
  | nil => simp [Lib.indexByte]
  | cons b D ih =>
    have h1 := ih (fun c hc => hD c (List.mem_cons_of_mem _ hc))
    have h2 : (b == 32) = false := by rw [beq_eq_false_iff_ne]; exact hD b List.mem_cons_self
    rw [Lib.indexByte, h2, h1]
    simp
theorem join_two (x y : List UInt8) (r : List (List UInt8)) : Lib.join (x :: y :: r) [32] = x ++ 32 :: Lib.join (y :: r) [32] := by
  simp [Lib.join_cons, Lib.joinTail]
theorem split_join : ∀ (r : List (List UInt8)) (x : List UInt8) (k : Nat), (∀ y ∈ x :: r, ∀ b ∈ y, b ≠ 32) → r.length ≤ k → Lib.splitK [32] 0 k (Lib.join (x :: r) [32]) = x :: r
  | [], x, k, h, _ => by
    rw [Lib.join_one]
    cases k with
    | zero => rfl
    | succ k =>
      unfold Lib.splitK
      rw [ib_none x (h x List.mem_cons_self)]
      simp
  | y :: r, x, 0, _, hk => by simp at hk
  | y :: r, x, k + 1, h, hk => by
    have ih := split_join r y k (fun z hz => h z (List.mem_cons_of_mem _ hz)) (by simp at hk; omega)
    rw [join_two]
    unfold Lib.splitK
    rw [ib_blank _ x (h x List.mem_cons_self)]
    have h3 : ((x.length : Int) == -1) = false := by rw [beq_eq_false_iff_ne]; omega
    rw [h3]
    simp only [Bool.false_eq_true, if_false, Int.toNat_natCast, Nat.add_zero, List.length_cons, List.length_nil]
    rw [show (x ++ 32 :: Lib.join (y :: r) [32]).take x.length = x by simp, show (x ++ 32 :: Lib.join (y :: r) [32]).drop (x.length + (0 + 1)) = Lib.join (y :: r) [32] by simp [List.drop_append], ih]
theorem bytes_inj (a b : ByteArray) (h : a.data.toList = b.data.toList) : a = b := ByteArray.ext (Array.toList_inj.1 h)
theorem split_sps (x : ByteArray) (r : List ByteArray) (k : Nat) (h : ∀ y ∈ x :: r, ∀ b ∈ y.data.toList, b ≠ 32) (hk : r.length ≤ k) : Lib.splitB ⟨#[32]⟩ 0 k (sps (x :: r)) = x :: r := by
  have h1 := Lib.splitB_data ⟨#[32]⟩ 0 k (sps (x :: r))
  have h2 := split_join (r.map (·.data.toList)) x.data.toList k (fun y hy => by
    rw [← List.map_cons (f := fun z : ByteArray => z.data.toList)] at hy
    obtain ⟨z, hz, rfl⟩ := List.mem_map.1 hy
    exact h z hz) (by simpa using hk)
  have h3 : (sps (x :: r)).data.toList = Lib.join (x.data.toList :: r.map (·.data.toList)) [32] := by simp [sps]
  rw [h3] at h1
  have h4 : Lib.splitK (ByteArray.mk #[32]).data.toList 0 k (Lib.join (x.data.toList :: r.map (·.data.toList)) [32]) = (x :: r).map (·.data.toList) := h2
  rw [h4] at h1
  exact (List.map_inj_right bytes_inj).1 h1
/-! The eight words. -/
theorem noB {b : UInt8} (h : 45 ≤ b.toNat) : b ≠ 32 := fun e => by subst e; simp at h
theorem dec_ok (n : Nat) : ∀ b ∈ (dec n).data.toList, b ≠ 32 := fun b hb => noB (by
  have := dig_dec n b (by simpa [dec] using hb)
  omega)
theorem textC_ok (a : Int) : ∀ b ∈ (textC a).data.toList, b ≠ 32 := fun b hb => noB (by
  rw [text_lists] at hb
  rcases List.mem_append.1 hb with hb | hb
  · unfold sgnL at hb
    split at hb
    · rw [List.mem_singleton.1 hb]; decide
    · cases hb
  · rcases List.mem_append.1 hb with hb | hb
    · have := dig_dec _ b hb; omega
    · rcases List.mem_cons.1 hb with rfl | hb
      · decide
      · have := dig_two _ (by omega) b hb; omega)
theorem dgt_ge (n : Nat) : 45 ≤ (dgt n).toNat := by rw [dgt_nat]; omega
theorem day_ok (n : Int) : ∀ b ∈ (dayText n).data.toList, b ≠ 32 := fun b hb => noB (by
  unfold dayText textS textL pad4 pad2 at hb
  simp only [List.cons_append, List.nil_append, List.mem_cons, List.not_mem_nil, or_false] at hb
  rcases hb with rfl | rfl | rfl | rfl | rfl | rfl | rfl | rfl | rfl | rfl
  all_goals first | exact dgt_ge _ | decide)
theorem itS_dec (n : Nat) : itS (n : Int) = dec n := by unfold itS dec; rw [itoa_nat]
theorem name_ok {K : Nat} (h : K = 1 ∨ K = 2) : (∀ b ∈ (nameB K).data.toList, b ≠ 32) ∧ (nameB K).data.toList.length ≤ 30 ∧ kindB (nameB K) = K := by
  rcases h with rfl | rfl
  · refine ⟨?_, ?_, ?_⟩ <;> decide +kernel
  · refine ⟨?_, ?_, ?_⟩ <;> decide +kernel
theorem basis_ok {B : Nat} (h : B = 1 ∨ B = 2) : (∀ b ∈ (spanB (B : Int)).data.toList, b ≠ 32) ∧ (spanB (B : Int)).data.toList.length ≤ 30 ∧ basisB (spanB (B : Int)) = B := by
  rcases h with rfl | rfl
  · refine ⟨?_, ?_, ?_⟩ <;> decide +kernel
  · refine ⟨?_, ?_, ?_⟩ <;> decide +kernel
theorem dec_len (n : Nat) (h : n ≤ 4294967295) : (dec n).data.toList.length ≤ 30 := by
  have := text_len (100 * n) (by omega)
  rw [show 100 * n / 100 = n by omega] at this
  simp only [dec]
  omega
theorem textC_len (a : Int) (h : -9223372036854775808 ≤ a ∧ a ≤ 9223372036854775807) : (textC a).data.toList.length ≤ 30 := by
  rw [text_lists]
  have := text_len a.natAbs (by omega)
  unfold sgnL two
  split <;> simp <;> omega
theorem day_len (n : Int) : (dayText n).data.toList.length ≤ 30 := by
  show (10 : Nat) ≤ 30
  decide
theorem Trm.ok {t : Trm} (h : t.Right) : ∀ y ∈ t.l, (∀ b ∈ y.data.toList, b ≠ 32) ∧ y.data.toList.length ≤ 30 := by
  obtain ⟨K, P, R, B, M, S, F, G⟩ := t
  obtain ⟨hK, ⟨hR, hB⟩, hP, hM, hS, hF, hG⟩ := h
  dsimp only at hK hR hB hP hM hS hF hG
  have n1 := name_ok hK
  have n2 := basis_ok hB
  obtain ⟨m, rfl⟩ : ∃ m : Nat, M = m := ⟨M.toNat, by omega⟩
  obtain ⟨g, rfl⟩ : ∃ g : Nat, G = g := ⟨G.toNat, by omega⟩
  unfold Trm.l
  intro y hy
  simp only [List.mem_cons, List.not_mem_nil, or_false] at hy
  rcases hy with rfl | rfl | rfl | rfl | rfl | rfl | rfl | rfl
  · exact ⟨n1.1, n1.2.1⟩
  · exact ⟨textC_ok _, textC_len _ (by omega)⟩
  · exact ⟨dec_ok _, dec_len _ (by omega)⟩
  · exact ⟨n2.1, n2.2.1⟩
  · rw [itS_dec]; exact ⟨dec_ok _, dec_len _ (by omega)⟩
  · exact ⟨day_ok _, day_len _⟩
  · exact ⟨textC_ok _, textC_len _ (by omega)⟩
  · rw [itS_dec]; exact ⟨dec_ok _, dec_len _ (by omega)⟩
theorem Trm.len {t : Trm} (h : t.Right) : (Lib.join (t.l.map (·.data.toList)) [32]).length ≤ 300 := by
  have ho := t.ok h
  unfold Trm.l at ho ⊢
  simp only [List.mem_cons, List.not_mem_nil, or_false, forall_eq_or_imp, forall_eq] at ho
  obtain ⟨⟨-, a0⟩, ⟨-, a1⟩, ⟨-, a2⟩, ⟨-, a3⟩, ⟨-, a4⟩, ⟨-, a5⟩, ⟨-, a6⟩, ⟨-, a7⟩⟩ := ho
  simp only [List.map_cons, List.map_nil, Lib.join_cons, Lib.joinTail, List.flatten_cons, List.flatten_nil, List.length_append, List.length_cons, List.length_nil]
  omega
theorem Trm.size {t : Trm} (h : t.Right) : t.text.size ≤ 300 := by
  have := t.len h
  simpa [Trm.text, sps, ByteArray.size] using this
theorem Trm.split {t : Trm} (h : t.Right) (k : Nat) (hk : 7 ≤ k) : Lib.splitB ⟨#[32]⟩ 0 k t.text = t.l := by
  have ho := t.ok h
  exact split_sps _ _ k (fun y hy => (ho y hy).1) hk
theorem Trm.ge {t : Trm} : 7 ≤ t.text.size := by
  have : t.text.size = (Lib.join (t.l.map (·.data.toList)) [32]).length := by simp [Trm.text, sps, ByteArray.size]
  rw [this]
  unfold Trm.l
  simp only [List.map_cons, List.map_nil, Lib.join_cons, Lib.joinTail, List.flatten_cons, List.flatten_nil, List.length_append, List.length_cons, List.length_nil]
  omega
theorem decFrom_dig : ∀ (l : List UInt8) (acc : Nat), (∀ b ∈ l, 48 ≤ b.toNat ∧ b.toNat ≤ 57) → Lib.decFrom acc l = some (valA acc l)
  | [], acc, _ => rfl
  | c :: l, acc, hd => by
    have hc := hd c List.mem_cons_self
    have hv2 : valA acc (c :: l) = valA (10 * acc + (c.toNat - 48)) l := rfl
    have e : acc * 10 + (c.toNat - 48) = 10 * acc + (c.toNat - 48) := by omega
    rw [Lib.decFrom, Lib.digitVal, if_pos hc, hv2]
    simp only [e]
    exact decFrom_dig l _ (fun b hb => hd b (List.mem_cons_of_mem _ hb))
theorem val_dec (n : Nat) : valA 0 (Lib.decDigits n) = n := (valD_dec n).1
theorem atoi_dec (n : Nat) : Lib.atoi (dec n).data.toList = some (n : Int) := by
  have hd := decFrom_dig (Lib.decDigits n) 0 (dig_dec n)
  rw [val_dec] at hd
  show Lib.atoi (Lib.decDigits n) = _
  obtain ⟨d, t, e, h1, h2⟩ := dec_some n
  rw [e] at hd ⊢
  have c1 : (d == 45) = false := by rw [beq_eq_false_iff_ne]; rintro rfl; simp at h1
  have c2 : (d == 43) = false := by rw [beq_eq_false_iff_ne]; rintro rfl; simp at h1
  simp [Lib.atoi, c1, c2, Lib.decNat, hd]
theorem parse_dig32 : ∀ (l : List UInt8) (acc : Nat), (∀ b ∈ l, 48 ≤ b.toNat ∧ b.toNat ≤ 57) → valA acc l ≤ 4294967295 → Lib.parseUintM (2 ^ 32 - 1) acc l = .ok (valA acc l)
  | [], acc, _, _ => rfl
  | c :: l, acc, hd, hv => by
    have hc := hd c List.mem_cons_self
    have hv2 : valA acc (c :: l) = valA (10 * acc + (c.toNat - 48)) l := rfl
    have hg := valA_ge l (10 * acc + (c.toNat - 48))
    rw [hv2] at hv ⊢
    have e : acc * 10 + (c.toNat - 48) = 10 * acc + (c.toNat - 48) := by omega
    rw [Lib.parseUintM, if_pos hc, if_neg (by omega), if_neg (by omega), e]
    exact parse_dig32 l _ (fun b hb => hd b (List.mem_cons_of_mem _ hb)) hv
theorem parse_dec (n : Nat) (h : n ≤ 4294967295) : Lib.parseUintB 32 (dec n).data.toList = .ok n := by
  show Lib.parseUintB 32 (Lib.decDigits n) = _
  have hp := parse_dig32 (Lib.decDigits n) 0 (dig_dec n) (by rw [val_dec]; exact h)
  rw [val_dec] at hp
  unfold Lib.parseUintB
  obtain ⟨d, t, e, -, -⟩ := dec_some n
  rw [if_neg (by rw [e]; simp), hp]
end Go.Proofs.YtpnoecjpplaicaaGreatDoor
