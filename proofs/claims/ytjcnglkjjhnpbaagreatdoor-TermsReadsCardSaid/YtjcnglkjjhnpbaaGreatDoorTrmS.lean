/-
A day's text, read digit by digit. Plain mathematics, no condition.
Terms that are Right and alike in their words are the same. Plain mathematics.
TermsApart: the walk. Conditions: the laid variables' cells.
-/
import Derived.Test.YtjcnglkjjhnpbaaGreatDoorPad
import Derived.Test.YtjcnglkjjhnpbaaGreatDoorDateC
import Derived.Test.YtjcnglkjjhnpbaaGreatDoorTrmD
import Derived.Test.YtjcnglkjjhnpbaaGreatDoorByF
import Derived.Test.YtjcnglkjjhnpbaaGreatDoorEqT
import Derived.Test.YtjcnglkjjhnpbaaGreatDoorTrmH
import Derived.Test.YtjcnglkjjhnpbaaGreatDoorSame
namespace Go.Proofs.YtjcnglkjjhnpbaaGreatDoor

/-- What the first i bytes say: year, month, day. -/
def rdN (L : List UInt8) : Nat → Int × Int × Int
  | 0 => (0, 0, 0)
  | i + 1 => if i = 4 ∨ i = 7 then rdN L i
      else if i < 4 then (10 * (rdN L i).1 + (((L.getD i 0).toNat : Int) - 48), (rdN L i).2.1, (rdN L i).2.2)
      else if i < 7 then ((rdN L i).1, 10 * (rdN L i).2.1 + (((L.getD i 0).toNat : Int) - 48), (rdN L i).2.2)
      else ((rdN L i).1, (rdN L i).2.1, 10 * (rdN L i).2.2 + (((L.getD i 0).toNat : Int) - 48))
/-- Are the first i bytes, but for two, digits? -/
def okN (L : List UInt8) : Nat → Bool
  | 0 => true
  | i + 1 => okN L i && (decide (i = 4 ∨ i = 7) || decide (48 ≤ (L.getD i 0).toNat ∧ (L.getD i 0).toNat ≤ 57))
theorem okN_end {L : List UInt8} {k m : Nat} (hk : k ≤ m) (h : okN L k = false) : okN L m = false := by
  induction m with
  | zero => obtain rfl : k = 0 := by omega
            exact h
  | succ m ih =>
    rcases Nat.lt_or_ge k (m + 1) with h1 | h1
    · simp only [okN]; rw [ih (by omega)]; rfl
    · obtain rfl : k = m + 1 := by omega
      exact h
theorem rdN_bd {L : List UInt8} : ∀ i, i ≤ 10 → okN L i = true → (0 ≤ (rdN L i).1 ∧ (rdN L i).1 ≤ 10000000000) ∧ (0 ≤ (rdN L i).2.1 ∧ (rdN L i).2.1 ≤ 10000000000) ∧ (0 ≤ (rdN L i).2.2 ∧ (rdN L i).2.2 ≤ 10000000000) := by
  have key : ∀ i, i ≤ 10 → okN L i = true → (0 ≤ (rdN L i).1 ∧ (rdN L i).1 < 10 ^ i) ∧ (0 ≤ (rdN L i).2.1 ∧ (rdN L i).2.1 < 10 ^ i) ∧ (0 ≤ (rdN L i).2.2 ∧ (rdN L i).2.2 < 10 ^ i) := by
    intro i
    induction i with
    | zero => intro _ _; simp [rdN]
    | succ i ih =>
      intro h hok
      simp only [okN, Bool.and_eq_true, Bool.or_eq_true, decide_eq_true_eq] at hok
      obtain ⟨⟨a0, a1⟩, ⟨b0, b1⟩, ⟨c0, c1⟩⟩ := ih (by omega) hok.1
      have hp : (10 : Int) ^ (i + 1) = 10 * 10 ^ i := by rw [Int.pow_succ]; omega
      have hd := hok.2
      simp only [rdN]
      generalize (10 : Int) ^ i = p at *
      rw [hp]
      generalize (L.getD i 0).toNat = u at *
      split
      · refine ⟨⟨a0, by omega⟩, ⟨b0, by omega⟩, ⟨c0, by omega⟩⟩
      · split
        · refine ⟨⟨by simp only; omega, by simp only; omega⟩, ⟨b0, by simp only; omega⟩, ⟨c0, by simp only; omega⟩⟩
        · split
          · refine ⟨⟨a0, by simp only; omega⟩, ⟨by simp only; omega, by simp only; omega⟩, ⟨c0, by simp only; omega⟩⟩
          · refine ⟨⟨a0, by simp only; omega⟩, ⟨b0, by simp only; omega⟩, ⟨by simp only; omega, by simp only; omega⟩⟩
  intro i h hok
  obtain ⟨⟨a0, a1⟩, ⟨b0, b1⟩, ⟨c0, c1⟩⟩ := key i h hok
  have hp : (10 : Int) ^ i ≤ 10000000000 := by
    have h1 : (10 : Nat) ^ i ≤ 10 ^ 10 := Nat.pow_le_pow_right (by decide) h
    have h2 : ((10 ^ i : Nat) : Int) = (10 : Int) ^ i := by simp
    omega
  omega
/-- What a text of ten bytes says: its day, or -1. -/
def rdL (L : List UInt8) : Int := if L.length = 10 ∧ (L.getD 4 0).toNat = 45 ∧ (L.getD 7 0).toNat = 45 ∧ okN L 10 = true ∧ rightB (rdN L 10).1 (rdN L 10).2.1 (rdN L 10).2.2 = true then num (rdN L 10).1 (rdN L 10).2.1 (rdN L 10).2.2 else -1
theorem textL_len (y m d : Nat) : (textL y m d).length = 10 := rfl
theorem rdN_ten (b0 b1 b2 b3 b4 b5 b6 b7 b8 b9 : UInt8) : rdN [b0, b1, b2, b3, b4, b5, b6, b7, b8, b9] 10 = (10 * (10 * (10 * (10 * 0 + ((b0.toNat : Int) - 48)) + ((b1.toNat : Int) - 48)) + ((b2.toNat : Int) - 48)) + ((b3.toNat : Int) - 48), 10 * (10 * 0 + ((b5.toNat : Int) - 48)) + ((b6.toNat : Int) - 48), 10 * (10 * 0 + ((b8.toNat : Int) - 48)) + ((b9.toNat : Int) - 48)) := by
  simp [rdN]
theorem okN_ten (b0 b1 b2 b3 b4 b5 b6 b7 b8 b9 : UInt8) : okN [b0, b1, b2, b3, b4, b5, b6, b7, b8, b9] 10 = true ↔ (48 ≤ b0.toNat ∧ b0.toNat ≤ 57) ∧ (48 ≤ b1.toNat ∧ b1.toNat ≤ 57) ∧ (48 ≤ b2.toNat ∧ b2.toNat ≤ 57) ∧ (48 ≤ b3.toNat ∧ b3.toNat ≤ 57) ∧ (48 ≤ b5.toNat ∧ b5.toNat ≤ 57) ∧ (48 ≤ b6.toNat ∧ b6.toNat ≤ 57) ∧ (48 ≤ b8.toNat ∧ b8.toNat ≤ 57) ∧ (48 ≤ b9.toNat ∧ b9.toNat ≤ 57) := by
  simp [okN, and_assoc]
/-- A day's own text. -/
theorem rdL_text (y m d : Nat) (hy : y < 10000) (hm : m < 100) (hd : d < 100) (hr : rightB (y : Int) (m : Int) (d : Int) = true) : rdL (textL y m d) = num (y : Int) (m : Int) (d : Int) := by
  have e1 := dgt_nat (y / 1000)
  have e2 := dgt_nat (y / 100)
  have e3 := dgt_nat (y / 10)
  have e4 := dgt_nat y
  have e5 := dgt_nat (m / 10)
  have e6 := dgt_nat m
  have e7 := dgt_nat (d / 10)
  have e8 := dgt_nat d
  have hT : textL y m d = [dgt (y / 1000), dgt (y / 100), dgt (y / 10), dgt y, 45, dgt (m / 10), dgt m, 45, dgt (d / 10), dgt d] := rfl
  have hR : rdN (textL y m d) 10 = ((y : Int), (m : Int), (d : Int)) := by
    rw [hT, rdN_ten, e1, e2, e3, e4, e5, e6, e7, e8]
    refine Prod.ext ?_ (Prod.ext ?_ ?_) <;> simp only <;> omega
  have h1 : (rdN (textL y m d) 10).1 = (y : Int) := by rw [hR]
  have h2 : (rdN (textL y m d) 10).2.1 = (m : Int) := by rw [hR]
  have h3 : (rdN (textL y m d) 10).2.2 = (d : Int) := by rw [hR]
  have h4 : okN (textL y m d) 10 = true := by
    have f : ∀ n, 48 ≤ (dgt n).toNat ∧ (dgt n).toNat ≤ 57 := fun n => by rw [dgt_nat]; omega
    rw [hT, okN_ten]
    exact ⟨f _, f _, f _, f _, f _, f _, f _, f _⟩
  unfold rdL
  rw [h1, h2, h3, if_pos ⟨textL_len y m d, by rw [hT]; rfl, by rw [hT]; rfl, h4, hr⟩]
theorem ten_of (L : List UInt8) (h : L.length = 10) : ∃ b0 b1 b2 b3 b4 b5 b6 b7 b8 b9 : UInt8, L = [b0, b1, b2, b3, b4, b5, b6, b7, b8, b9] := by
  match L, h with
  | [b0, b1, b2, b3, b4, b5, b6, b7, b8, b9], _ => exact ⟨b0, b1, b2, b3, b4, b5, b6, b7, b8, b9, rfl⟩
/-- What is read is a day's own text. -/
theorem rdL_back (L : List UInt8) (h : rdL L ≠ -1) : ∃ y m d : Nat, L = textL y m d ∧ rightB (y : Int) (m : Int) (d : Int) = true ∧ rdL L = num (y : Int) (m : Int) (d : Int) := by
  unfold rdL at h ⊢
  by_cases hc : L.length = 10 ∧ (L.getD 4 0).toNat = 45 ∧ (L.getD 7 0).toNat = 45 ∧ okN L 10 = true ∧ rightB (rdN L 10).1 (rdN L 10).2.1 (rdN L 10).2.2 = true
  · rw [if_pos hc]
    clear h
    obtain ⟨hl, h4, h7, hok, hr⟩ := hc
    obtain ⟨b0, b1, b2, b3, b4, b5, b6, b7, b8, b9, rfl⟩ := ten_of L hl
    have q4 : b4.toNat = 45 := h4
    have q7 : b7.toNat = 45 := h7
    obtain ⟨d0, d1, d2, d3, d5, d6, d8, d9⟩ := (okN_ten b0 b1 b2 b3 b4 b5 b6 b7 b8 b9).1 hok
    have hR := rdN_ten b0 b1 b2 b3 b4 b5 b6 b7 b8 b9
    have h1 : (rdN [b0, b1, b2, b3, b4, b5, b6, b7, b8, b9] 10).1 = ((1000 * (b0.toNat - 48) + 100 * (b1.toNat - 48) + 10 * (b2.toNat - 48) + (b3.toNat - 48) : Nat) : Int) := by
      rw [hR]
      simp only
      omega
    have h2 : (rdN [b0, b1, b2, b3, b4, b5, b6, b7, b8, b9] 10).2.1 = ((10 * (b5.toNat - 48) + (b6.toNat - 48) : Nat) : Int) := by
      rw [hR]
      simp only
      omega
    have h3 : (rdN [b0, b1, b2, b3, b4, b5, b6, b7, b8, b9] 10).2.2 = ((10 * (b8.toNat - 48) + (b9.toNat - 48) : Nat) : Int) := by
      rw [hR]
      simp only
      omega
    rw [h1, h2, h3] at hr ⊢
    refine ⟨_, _, _, ?_, hr, rfl⟩
    have e : ∀ (b : UInt8) (n : Nat), 48 + n % 10 = b.toNat → b = dgt n := fun b n hn => UInt8.toNat_inj.1 (by rw [dgt_nat]; exact hn.symm)
    unfold textL pad4 pad2
    simp only [List.cons_append, List.nil_append]
    rw [← e b0 _ (by omega), ← e b1 _ (by omega), ← e b2 _ (by omega), ← e b3 _ (by omega), ← e b5 _ (by omega), ← e b6 _ (by omega), ← e b8 _ (by omega), ← e b9 _ (by omega)]
    rw [show b4 = 45 from UInt8.toNat_inj.1 q4, show b7 = 45 from UInt8.toNat_inj.1 q7]
  · rw [if_neg hc] at h
    exact absurd rfl h
end Go.Proofs.YtjcnglkjjhnpbaaGreatDoor
namespace Go.Proofs.YtjcnglkjjhnpbaaGreatDoor
open Go.RowKit

/-! Words. -/
theorem dec_inj {a b : Nat} (h : dec a = dec b) : a = b := by
  have h1 := atoi_dec a
  rw [h, atoi_dec b] at h1
  injection h1 with h1
  omega
theorem day_inj {a b : Int} (ha : 0 ≤ a ∧ a ≤ 3652058) (hb : 0 ≤ b ∧ b ≤ 3652058) (h : dayText a = dayText b) : a = b := by
  have key : ∀ n : Int, 0 ≤ n → n ≤ 3652058 → rdL (dayText n).data.toList = n := fun n h0 h1 => by
    obtain ⟨r1, r2⟩ := civ_right n h0 h1
    have hc := civ_in n h0 h1
    have e1 : ((cY n).toNat : Int) = cY n := by omega
    have e2 : ((cM n).toNat : Int) = cM n := by omega
    have e3 : ((cD n).toNat : Int) = cD n := by omega
    have h9 := rdL_text (cY n).toNat (cM n).toNat (cD n).toNat (by omega) (by omega) (by omega) (by rw [e1, e2, e3]; exact r1)
    rw [e1, e2, e3, r2] at h9
    exact h9
  rw [← key a ha.1 ha.2, ← key b hb.1 hb.2, h]
theorem text_inj {t u : Trm} (ht : t.Right) (hu : u.Right) (h : t.text = u.text) : t = u := by
  have h1 := t.split ht 8 (by omega)
  rw [h, u.split hu 8 (by omega)] at h1
  obtain ⟨K, P, R, B, M, S, F, G⟩ := t
  obtain ⟨hK, ⟨hR, hB⟩, hP, hM, hS, hF, hG⟩ := ht
  dsimp only at hK hR hB hP hM hS hF hG
  obtain ⟨M, rfl⟩ : ∃ n : Nat, M = n := ⟨M.toNat, by omega⟩
  obtain ⟨G, rfl⟩ : ∃ n : Nat, G = n := ⟨G.toNat, by omega⟩
  obtain ⟨K', P', R', B', M', S', F', G'⟩ := u
  obtain ⟨hK', ⟨hR', hB'⟩, hP', hM', hS', hF', hG'⟩ := hu
  dsimp only at hK' hR' hB' hP' hM' hS' hF' hG'
  obtain ⟨M', rfl⟩ : ∃ n : Nat, M' = n := ⟨M'.toNat, by omega⟩
  obtain ⟨G', rfl⟩ : ∃ n : Nat, G' = n := ⟨G'.toNat, by omega⟩
  unfold Trm.l at h1
  dsimp only at h1
  simp only [itS_dec, List.cons.injEq, and_true] at h1
  obtain ⟨e0, e1, e2, e3, e4, e5, e6, e7⟩ := h1
  have k0 : K' = K := by rw [← (name_ok hK).2.2, ← (name_ok hK').2.2, e0]
  have k3 : B' = B := by
    have z1 := (basis_ok hB).2.2
    rw [← e3, (basis_ok hB').2.2] at z1
    omega
  have k1 : P' = P := textC_inj e1
  have k2 : R' = R := dec_inj e2
  have k4 : M' = M := dec_inj e4
  have k5 : S' = S := day_inj (by omega) (by omega) e5
  have k6 : F' = F := textC_inj e6
  have k7 : G' = G := dec_inj e7
  rw [k0, k1, k2, k3, k4, k5, k6, k7]
end Go.Proofs.YtjcnglkjjhnpbaaGreatDoor
namespace Go.Proofs.YtjcnglkjjhnpbaaGreatDoor
open Go.ChangeShapes Go.WideShapes Go.ChangeAt Go.RowKit

theorem trm_ext {t u : Trm} : t = u ↔ (t.K : Int) = u.K ∧ t.P = u.P ∧ (t.R : Int) = u.R ∧ (t.B : Int) = u.B ∧ t.M = u.M ∧ t.S = u.S ∧ t.F = u.F ∧ t.G = u.G := by
  constructor
  · rintro rfl; exact ⟨rfl, rfl, rfl, rfl, rfl, rfl, rfl, rfl⟩
  · obtain ⟨K, P, R, B, M, S, F, G⟩ := t
    obtain ⟨K', P', R', B', M', S', F', G'⟩ := u
    rintro ⟨h0, h1, h2, h3, h4, h5, h6, h7⟩
    dsimp only at h0 h1 h2 h3 h4 h5 h6 h7
    obtain rfl : K = K' := by omega
    obtain rfl : R = R' := by omega
    obtain rfl : B = B' := by omega
    subst h1 h4 h5 h6 h7
    rfl
set_option maxRecDepth 100000 in
set_option maxHeartbeats 4000000 in
theorem TApart_no1 {t u : Trm} (hi : t.In) (hj : u.In) (ht : ¬ t.Right) (w : World) (_hw : Lens w) (_hp : Pows w)
    (cA : ∀ W, Below w.heap.size w W → Calls Tryz.prog 7 #[] W (Ret (.bool true) W)) :
    Calls Tryz.prog 6 #[t.v, u.v] w (Ret (.bool true) w) := by
  obtain ⟨ra, kR1, kQ1⟩ : ∃ ra, (∀ W, Calls Tryz.prog 12 #[t.v] W (Ret (.bool ra) W)) ∧ ∀ W, Calls Tryz.prog 8 #[t.r] W (Ret (.bool ra) W) := ⟨false, fun W => TRight_false ht W, fun W => QRight_false hi ht W⟩
  obtain ⟨rb, kR2, kQ2⟩ : ∃ rb, (∀ W, Calls Tryz.prog 12 #[u.v] W (Ret (.bool rb) W)) ∧ ∀ W, Calls Tryz.prog 8 #[u.r] W (Ret (.bool rb) W) := by
    by_cases h : u.Right
    · exact ⟨true, fun W => TRight_true h W, fun W => QRight_true hj h W⟩
    · exact ⟨false, fun W => TRight_false h W, fun W => QRight_false hj h W⟩
  have kO1 := fun W => own16_any hi W
  have kO2 := fun W => own16_any hj W
  have kQ0 := fun W => QRight_false hi ht W
  clear hi hj ht _hw _hp
  obtain ⟨K, P, R, B, M, S, F, G⟩ := t
  obtain ⟨K', P', R', B', M', S', F', G'⟩ := u
  unfold Trm.v Trm.r at *
  dsimp only at *
  have hw0 := b_alloc w (.cells #[.int .u8 (K : Int), .int .i64 P, .int .u32 (R : Int), .int .u8 (B : Int), .int .i64 M, .int .i32 S, .int .i64 F, .int .i64 G] 28)
  have hp0 := (Blk.new w 28 #[.int .u8 (K : Int), .int .i64 P, .int .u32 (R : Int), .int .u8 (B : Int), .int .i64 M, .int .i32 S, .int .i64 F, .int .i64 G]).alloc (.cells #[.int .u8 (K' : Int), .int .i64 P', .int .u32 (R' : Int), .int .u8 (B' : Int), .int .i64 M', .int .i32 S', .int .i64 F', .int .i64 G'] 28)
  have hq0 := Blk.new (w.alloc (.cells #[.int .u8 (K : Int), .int .i64 P, .int .u32 (R : Int), .int .u8 (B : Int), .int .i64 M, .int .i32 S, .int .i64 F, .int .i64 G] 28)) 28 #[.int .u8 (K' : Int), .int .i64 P', .int .u32 (R' : Int), .int .u8 (B' : Int), .int .i64 M', .int .i32 S', .int .i64 F', .int .i64 G']
  rw [show (w.alloc (.cells #[.int .u8 (K : Int), .int .i64 P, .int .u32 (R : Int), .int .u8 (B : Int), .int .i64 M, .int .i32 S, .int .i64 F, .int .i64 G] 28)).heap.size = w.heap.size + 1 by simp] at hq0
  have HP0 := Lib.hid hp0
  have HQ0 := Lib.hid hq0
  have HB0 := Lib.hid (hw0.alloc hw0.size (.cells #[.int .u8 (K' : Int), .int .i64 P', .int .u32 (R' : Int), .int .u8 (B' : Int), .int .i64 M', .int .i32 S', .int .i64 F', .int .i64 G'] 28))
  have cA1 := cA _ HB0.out
  clear hw0 hp0 hq0 cA
  go_enter Tryz.func6, Tryz.ntmps6
  go_wp2_with fail
  refine cA1.mono ?_
  rintro e w1 ⟨rfl, hb⟩
  have HP1 := Lib.hid (HP0.out.below hb HP0.out.lt)
  have HQ1 := Lib.hid (HQ0.out.below hb HQ0.out.lt)
  have HB1 := Lib.hid (HB0.out.trans (hb.mono HB0.out.size))
  clear hb cA1 HP0 HQ0 HB0
  obtain ⟨c0, c1, c2, c3, c4, c5, c6, c7⟩ := blk8 HP1.out
  go_wp2_with fail
  refine (kO1 _).mono ?_
  rintro e w2 ⟨rfl, hb⟩
  have HP2 := Lib.hid (HP1.out.below hb HP1.out.lt)
  have HQ2 := Lib.hid (HQ1.out.below hb HQ1.out.lt)
  have HB2 := Lib.hid (HB1.out.trans (hb.mono HB1.out.size))
  clear hb HP1 HQ1 HB1 c0 c1 c2 c3 c4 c5 c6 c7
  go_wp2_with fail
  refine (kQ0 _).mono ?_
  rintro e w3 ⟨rfl, hb⟩
  have HP3 := Lib.hid (HP2.out.below hb HP2.out.lt)
  have HQ3 := Lib.hid (HQ2.out.below hb HQ2.out.lt)
  have HB3 := Lib.hid (HB2.out.trans (hb.mono HB2.out.size))
  clear hb kQ0 HP2 HQ2 HB2
  obtain ⟨p, hpp⟩ : ∃ p, w.heap.size = p := ⟨_, rfl⟩
  obtain ⟨q, hqq⟩ : ∃ q, w.heap.size + 1 = q := ⟨_, rfl⟩
  rw [hqq] at HQ3
  rw [hpp] at HP3
  rw [hqq, hpp]
  clear hpp hqq
  have LP : ∀ W', Below w3.heap.size w3 W' → (Instr.loadAt 28 (.pointer (some ⟨p, 0, none⟩))).run Tryz.prog W' = .ok (.agg #[.int .u8 (K : Int), .int .i64 P, .int .u32 (R : Int), .int .u8 (B : Int), .int .i64 M, .int .i32 S, .int .i64 F, .int .i64 G]) W' := fun W' hb => trm_load (HP3.out.below hb HP3.out.lt)
  have LQ : ∀ W', Below w3.heap.size w3 W' → (Instr.loadAt 28 (.pointer (some ⟨q, 0, none⟩))).run Tryz.prog W' = .ok (.agg #[.int .u8 (K' : Int), .int .i64 P', .int .u32 (R' : Int), .int .u8 (B' : Int), .int .i64 M', .int .i32 S', .int .i64 F', .int .i64 G']) W' := fun W' hb => trm_load (HQ3.out.below hb HQ3.out.lt)
  have cR1 := fun W' (_ : Below w3.heap.size w3 W') => kR1 W'
  have cR2 := fun W' (_ : Below w3.heap.size w3 W') => kR2 W'
  have cO1 := fun W' (_ : Below w3.heap.size w3 W') => kO1 W'
  have cO2 := fun W' (_ : Below w3.heap.size w3 W') => kO2 W'
  have cQ1 := fun W' (_ : Below w3.heap.size w3 W') => kQ1 W'
  have cQ2 := fun W' (_ : Below w3.heap.size w3 W') => kQ2 W'
  clear kR1 kR2 kO1 kO2 kQ1 kQ2 HP3 HQ3
  go_upto_region 4 with (fail)
  refine wp_region_flow [some 17, some 18, some 19, some 20, some 21, some 22, some 23, some 24, some 25, some 26, some 27, some 28, some 29, some 30, some 4] (fun i => ([.is (.agg #[.int .u8 (K : Int), .int .i64 P, .int .u32 (R : Int), .int .u8 (B : Int), .int .i64 M, .int .i32 S, .int .i64 F, .int .i64 G]), .is (.bool ra), .is (.agg #[.int .u8 (K : Int), .int .i64 P, .int .u32 (R : Int), .int .u8 (B : Int), .int .i64 M, .int .i32 S, .int .i64 F, .int .i64 G]), .is (.agg #[.int .u8 (K : Int), .int .i64 P, .int .u32 (R : Int), .int .u8 (B : Int), .int .i64 M, .int .i64 S, .int .i64 F, .int .i64 G]), .is (.bool ra), .is (.bool true), .is (.bool true), .is (.agg #[.int .u8 (K' : Int), .int .i64 P', .int .u32 (R' : Int), .int .u8 (B' : Int), .int .i64 M', .int .i32 S', .int .i64 F', .int .i64 G']), .is (.bool rb), .is (.agg #[.int .u8 (K' : Int), .int .i64 P', .int .u32 (R' : Int), .int .u8 (B' : Int), .int .i64 M', .int .i32 S', .int .i64 F', .int .i64 G']), .is (.agg #[.int .u8 (K' : Int), .int .i64 P', .int .u32 (R' : Int), .int .u8 (B' : Int), .int .i64 M', .int .i64 S', .int .i64 F', .int .i64 G']), .is (.bool rb), .is (.bool true), .is (.bool true), .is (.bool true)] : List Flw).getD i .any) (by kernel_rfl) (by kernel_rfl) rfl ?_ ?_
  · skip
    refine ⟨step_free rfl (fun aF wF hs hb => ?_), ?_⟩
    · obtain ⟨x0, -⟩ := hs
      have e0 : aF.eval (.tmp 2) = .pointer (some ⟨p, 0, none⟩) := x0
      exact opC_load e0 (LP wF hb) ⟨rfl, below_same wF⟩
    refine ⟨step_free rfl (fun aF wF hs hb => ?_), ?_⟩
    · obtain ⟨x0, -⟩ := hs
      have e0 : aF.eval (.tmp 17) = .agg #[.int .u8 (K : Int), .int .i64 P, .int .u32 (R : Int), .int .u8 (B : Int), .int .i64 M, .int .i32 S, .int .i64 F, .int .i64 G] := x0
      exact opC_call (args := #[.agg #[.int .u8 (K : Int), .int .i64 P, .int .u32 (R : Int), .int .u8 (B : Int), .int .i64 M, .int .i32 S, .int .i64 F, .int .i64 G]]) (enters9 Tryz.func12 (by kernel_rfl) rfl) (by simp [e0]) (cR1 wF hb) (fun _ h => ⟨rfl, h⟩)
    refine ⟨step_free rfl (fun aF wF hs hb => ?_), ?_⟩
    · obtain ⟨x0, -⟩ := hs
      have e0 : aF.eval (.tmp 2) = .pointer (some ⟨p, 0, none⟩) := x0
      exact opC_load e0 (LP wF hb) ⟨rfl, below_same wF⟩
    refine ⟨step_free rfl (fun aF wF hs hb => ?_), ?_⟩
    · obtain ⟨x0, -⟩ := hs
      have e0 : aF.eval (.tmp 19) = .agg #[.int .u8 (K : Int), .int .i64 P, .int .u32 (R : Int), .int .u8 (B : Int), .int .i64 M, .int .i32 S, .int .i64 F, .int .i64 G] := x0
      exact opC_call (args := #[.agg #[.int .u8 (K : Int), .int .i64 P, .int .u32 (R : Int), .int .u8 (B : Int), .int .i64 M, .int .i32 S, .int .i64 F, .int .i64 G]]) (enters9 Tryz.func9 (by kernel_rfl) rfl) (by simp [e0]) (cO1 wF hb) (fun _ h => ⟨rfl, h⟩)
    refine ⟨step_free rfl (fun aF wF hs hb => ?_), ?_⟩
    · obtain ⟨x0, -⟩ := hs
      have e0 : aF.eval (.tmp 20) = .agg #[.int .u8 (K : Int), .int .i64 P, .int .u32 (R : Int), .int .u8 (B : Int), .int .i64 M, .int .i64 S, .int .i64 F, .int .i64 G] := x0
      exact opC_call (args := #[.agg #[.int .u8 (K : Int), .int .i64 P, .int .u32 (R : Int), .int .u8 (B : Int), .int .i64 M, .int .i64 S, .int .i64 F, .int .i64 G]]) (enters9 Tryz.func8 (by kernel_rfl) rfl) (by simp [e0]) (cQ1 wF hb) (fun _ h => ⟨rfl, h⟩)
    refine ⟨step_free rfl (fun aF wF hs hb => ?_), ?_⟩
    · obtain ⟨x0, x1, -⟩ := hs
      have e0 : aF.eval (.tmp 18) = .bool ra := x0
      have e1 : aF.eval (.tmp 21) = .bool ra := x1
      refine opC_value (v := .bool true) ?_ ⟨rfl, below_same wF⟩
      have t0 := ev_of e0
      have t1 := ev_of e1
      simp [execOp, go_sem, t0, t1]
    refine ⟨step_free rfl (fun aF wF hs hb => ?_), ?_⟩
    · obtain ⟨x0, -⟩ := hs
      have e0 : aF.eval (.tmp 22) = .bool true := x0
      exact opC_move e0 ⟨rfl, below_same wF⟩
    refine ⟨step_yes 6 23 rfl rfl (fun _ _ h => h) (fun aF wF hs hb => ?_), ?_⟩
    · obtain ⟨x0, -⟩ := hs
      have e0 : aF.eval (.tmp 3) = .pointer (some ⟨q, 0, none⟩) := x0
      exact opC_load e0 (LQ wF hb) ⟨rfl, below_same wF⟩
    refine ⟨step_yes 6 23 rfl rfl (fun _ _ h => h) (fun aF wF hs hb => ?_), ?_⟩
    · obtain ⟨x0, -⟩ := hs
      have e0 : aF.eval (.tmp 24) = .agg #[.int .u8 (K' : Int), .int .i64 P', .int .u32 (R' : Int), .int .u8 (B' : Int), .int .i64 M', .int .i32 S', .int .i64 F', .int .i64 G'] := x0
      exact opC_call (args := #[.agg #[.int .u8 (K' : Int), .int .i64 P', .int .u32 (R' : Int), .int .u8 (B' : Int), .int .i64 M', .int .i32 S', .int .i64 F', .int .i64 G']]) (enters9 Tryz.func12 (by kernel_rfl) rfl) (by simp [e0]) (cR2 wF hb) (fun _ h => ⟨rfl, h⟩)
    refine ⟨step_yes 6 23 rfl rfl (fun _ _ h => h) (fun aF wF hs hb => ?_), ?_⟩
    · obtain ⟨x0, -⟩ := hs
      have e0 : aF.eval (.tmp 3) = .pointer (some ⟨q, 0, none⟩) := x0
      exact opC_load e0 (LQ wF hb) ⟨rfl, below_same wF⟩
    refine ⟨step_yes 6 23 rfl rfl (fun _ _ h => h) (fun aF wF hs hb => ?_), ?_⟩
    · obtain ⟨x0, -⟩ := hs
      have e0 : aF.eval (.tmp 26) = .agg #[.int .u8 (K' : Int), .int .i64 P', .int .u32 (R' : Int), .int .u8 (B' : Int), .int .i64 M', .int .i32 S', .int .i64 F', .int .i64 G'] := x0
      exact opC_call (args := #[.agg #[.int .u8 (K' : Int), .int .i64 P', .int .u32 (R' : Int), .int .u8 (B' : Int), .int .i64 M', .int .i32 S', .int .i64 F', .int .i64 G']]) (enters9 Tryz.func9 (by kernel_rfl) rfl) (by simp [e0]) (cO2 wF hb) (fun _ h => ⟨rfl, h⟩)
    refine ⟨step_yes 6 23 rfl rfl (fun _ _ h => h) (fun aF wF hs hb => ?_), ?_⟩
    · obtain ⟨x0, -⟩ := hs
      have e0 : aF.eval (.tmp 27) = .agg #[.int .u8 (K' : Int), .int .i64 P', .int .u32 (R' : Int), .int .u8 (B' : Int), .int .i64 M', .int .i64 S', .int .i64 F', .int .i64 G'] := x0
      exact opC_call (args := #[.agg #[.int .u8 (K' : Int), .int .i64 P', .int .u32 (R' : Int), .int .u8 (B' : Int), .int .i64 M', .int .i64 S', .int .i64 F', .int .i64 G']]) (enters9 Tryz.func8 (by kernel_rfl) rfl) (by simp [e0]) (cQ2 wF hb) (fun _ h => ⟨rfl, h⟩)
    refine ⟨step_yes 6 23 rfl rfl (fun _ _ h => h) (fun aF wF hs hb => ?_), ?_⟩
    · obtain ⟨x0, x1, -⟩ := hs
      have e0 : aF.eval (.tmp 25) = .bool rb := x0
      have e1 : aF.eval (.tmp 28) = .bool rb := x1
      refine opC_value (v := .bool true) ?_ ⟨rfl, below_same wF⟩
      have t0 := ev_of e0
      have t1 := ev_of e1
      simp [execOp, go_sem, t0, t1]
    refine ⟨step_free rfl (fun aF wF hs hb => ?_), ?_⟩
    · obtain ⟨x0, x1, -⟩ := hs
      have e0 : aF.eval (.tmp 23) = .bool true := x0
      have e1 : aF.eval (.tmp 29) = .bool true := x1
      refine opC_value (v := .bool true) ?_ ⟨rfl, below_same wF⟩
      have t0 := ev_of e0
      have t1 := ev_of e1
      simp [execOp, go_sem, t0, t1]
    refine ⟨step_free rfl (fun aF wF hs hb => ?_), ?_⟩
    · obtain ⟨x0, -⟩ := hs
      have e0 : aF.eval (.tmp 30) = .bool true := x0
      exact opC_assign e0 ⟨rfl, below_same wF⟩
    exact trivial
  · intro f w6 hf hb6
    have h9 : f 14 = .bool true := hf 14 4 rfl
    have HB6 := Lib.hid (HB3.out.trans (hb6.mono HB3.out.size))
    simp only [putF, Act.put, List.setIfInBounds_toArray, List.set_cons_zero, List.set_cons_succ]
    rw [h9]
    clear hf h9 hb6 LP LQ cR1 cR2 cO1 cO2 cQ1 cQ2
    go_wp2_with fail
    go_ret
    exact ⟨rfl, HB6.out⟩
set_option maxRecDepth 100000 in
set_option maxHeartbeats 4000000 in
theorem TApart_no2 {t u : Trm} (hi : t.In) (hj : u.In) (ht : t.Right) (hu : ¬ u.Right) (w : World) (_hw : Lens w) (_hp : Pows w)
    (cA : ∀ W, Below w.heap.size w W → Calls Tryz.prog 7 #[] W (Ret (.bool true) W)) :
    Calls Tryz.prog 6 #[t.v, u.v] w (Ret (.bool true) w) := by
  obtain ⟨ra, kR1, kQ1⟩ : ∃ ra, (∀ W, Calls Tryz.prog 12 #[t.v] W (Ret (.bool ra) W)) ∧ ∀ W, Calls Tryz.prog 8 #[t.r] W (Ret (.bool ra) W) := ⟨true, fun W => TRight_true ht W, fun W => QRight_true hi ht W⟩
  obtain ⟨rb, kR2, kQ2⟩ : ∃ rb, (∀ W, Calls Tryz.prog 12 #[u.v] W (Ret (.bool rb) W)) ∧ ∀ W, Calls Tryz.prog 8 #[u.r] W (Ret (.bool rb) W) := ⟨false, fun W => TRight_false hu W, fun W => QRight_false hj hu W⟩
  have kO1 := fun W => own16_any hi W
  have kO2 := fun W => own16_any hj W
  have kQ0 := fun W => QRight_true hi ht W
  have kQ9 := fun W => QRight_false hj hu W
  clear hi hj ht hu _hw _hp
  obtain ⟨K, P, R, B, M, S, F, G⟩ := t
  obtain ⟨K', P', R', B', M', S', F', G'⟩ := u
  unfold Trm.v Trm.r at *
  dsimp only at *
  have hw0 := b_alloc w (.cells #[.int .u8 (K : Int), .int .i64 P, .int .u32 (R : Int), .int .u8 (B : Int), .int .i64 M, .int .i32 S, .int .i64 F, .int .i64 G] 28)
  have hp0 := (Blk.new w 28 #[.int .u8 (K : Int), .int .i64 P, .int .u32 (R : Int), .int .u8 (B : Int), .int .i64 M, .int .i32 S, .int .i64 F, .int .i64 G]).alloc (.cells #[.int .u8 (K' : Int), .int .i64 P', .int .u32 (R' : Int), .int .u8 (B' : Int), .int .i64 M', .int .i32 S', .int .i64 F', .int .i64 G'] 28)
  have hq0 := Blk.new (w.alloc (.cells #[.int .u8 (K : Int), .int .i64 P, .int .u32 (R : Int), .int .u8 (B : Int), .int .i64 M, .int .i32 S, .int .i64 F, .int .i64 G] 28)) 28 #[.int .u8 (K' : Int), .int .i64 P', .int .u32 (R' : Int), .int .u8 (B' : Int), .int .i64 M', .int .i32 S', .int .i64 F', .int .i64 G']
  rw [show (w.alloc (.cells #[.int .u8 (K : Int), .int .i64 P, .int .u32 (R : Int), .int .u8 (B : Int), .int .i64 M, .int .i32 S, .int .i64 F, .int .i64 G] 28)).heap.size = w.heap.size + 1 by simp] at hq0
  have HP0 := Lib.hid hp0
  have HQ0 := Lib.hid hq0
  have HB0 := Lib.hid (hw0.alloc hw0.size (.cells #[.int .u8 (K' : Int), .int .i64 P', .int .u32 (R' : Int), .int .u8 (B' : Int), .int .i64 M', .int .i32 S', .int .i64 F', .int .i64 G'] 28))
  have cA1 := cA _ HB0.out
  clear hw0 hp0 hq0 cA
  go_enter Tryz.func6, Tryz.ntmps6
  go_wp2_with fail
  refine cA1.mono ?_
  rintro e w1 ⟨rfl, hb⟩
  have HP1 := Lib.hid (HP0.out.below hb HP0.out.lt)
  have HQ1 := Lib.hid (HQ0.out.below hb HQ0.out.lt)
  have HB1 := Lib.hid (HB0.out.trans (hb.mono HB0.out.size))
  clear hb cA1 HP0 HQ0 HB0
  obtain ⟨c0, c1, c2, c3, c4, c5, c6, c7⟩ := blk8 HP1.out
  go_wp2_with fail
  refine (kO1 _).mono ?_
  rintro e w2 ⟨rfl, hb⟩
  have HP2 := Lib.hid (HP1.out.below hb HP1.out.lt)
  have HQ2 := Lib.hid (HQ1.out.below hb HQ1.out.lt)
  have HB2 := Lib.hid (HB1.out.trans (hb.mono HB1.out.size))
  clear hb HP1 HQ1 HB1 c0 c1 c2 c3 c4 c5 c6 c7
  go_wp2_with fail
  refine (kQ0 _).mono ?_
  rintro e w3 ⟨rfl, hb⟩
  have HP3 := Lib.hid (HP2.out.below hb HP2.out.lt)
  have HQ3 := Lib.hid (HQ2.out.below hb HQ2.out.lt)
  have HB3 := Lib.hid (HB2.out.trans (hb.mono HB2.out.size))
  clear hb kQ0 HP2 HQ2 HB2
  obtain ⟨c0, c1, c2, c3, c4, c5, c6, c7⟩ := blk8 HQ3.out
  go_wp2_with fail
  refine (kO2 _).mono ?_
  rintro e w4 ⟨rfl, hb⟩
  have HP4 := Lib.hid (HP3.out.below hb HP3.out.lt)
  have HQ4 := Lib.hid (HQ3.out.below hb HQ3.out.lt)
  have HB4 := Lib.hid (HB3.out.trans (hb.mono HB3.out.size))
  clear hb HP3 HQ3 HB3 c0 c1 c2 c3 c4 c5 c6 c7
  go_wp2_with fail
  refine (kQ9 _).mono ?_
  rintro e w5 ⟨rfl, hb⟩
  have HP5 := Lib.hid (HP4.out.below hb HP4.out.lt)
  have HQ5 := Lib.hid (HQ4.out.below hb HQ4.out.lt)
  have HB5 := Lib.hid (HB4.out.trans (hb.mono HB4.out.size))
  clear hb kQ9 HP4 HQ4 HB4
  obtain ⟨p, hpp⟩ : ∃ p, w.heap.size = p := ⟨_, rfl⟩
  obtain ⟨q, hqq⟩ : ∃ q, w.heap.size + 1 = q := ⟨_, rfl⟩
  rw [hqq] at HQ5
  rw [hpp] at HP5
  rw [hqq, hpp]
  clear hpp hqq
  have LP : ∀ W', Below w5.heap.size w5 W' → (Instr.loadAt 28 (.pointer (some ⟨p, 0, none⟩))).run Tryz.prog W' = .ok (.agg #[.int .u8 (K : Int), .int .i64 P, .int .u32 (R : Int), .int .u8 (B : Int), .int .i64 M, .int .i32 S, .int .i64 F, .int .i64 G]) W' := fun W' hb => trm_load (HP5.out.below hb HP5.out.lt)
  have LQ : ∀ W', Below w5.heap.size w5 W' → (Instr.loadAt 28 (.pointer (some ⟨q, 0, none⟩))).run Tryz.prog W' = .ok (.agg #[.int .u8 (K' : Int), .int .i64 P', .int .u32 (R' : Int), .int .u8 (B' : Int), .int .i64 M', .int .i32 S', .int .i64 F', .int .i64 G']) W' := fun W' hb => trm_load (HQ5.out.below hb HQ5.out.lt)
  have cR1 := fun W' (_ : Below w5.heap.size w5 W') => kR1 W'
  have cR2 := fun W' (_ : Below w5.heap.size w5 W') => kR2 W'
  have cO1 := fun W' (_ : Below w5.heap.size w5 W') => kO1 W'
  have cO2 := fun W' (_ : Below w5.heap.size w5 W') => kO2 W'
  have cQ1 := fun W' (_ : Below w5.heap.size w5 W') => kQ1 W'
  have cQ2 := fun W' (_ : Below w5.heap.size w5 W') => kQ2 W'
  clear kR1 kR2 kO1 kO2 kQ1 kQ2 HP5 HQ5
  go_upto_region 4 with (fail)
  refine wp_region_flow [some 17, some 18, some 19, some 20, some 21, some 22, some 23, some 24, some 25, some 26, some 27, some 28, some 29, some 30, some 4] (fun i => ([.is (.agg #[.int .u8 (K : Int), .int .i64 P, .int .u32 (R : Int), .int .u8 (B : Int), .int .i64 M, .int .i32 S, .int .i64 F, .int .i64 G]), .is (.bool ra), .is (.agg #[.int .u8 (K : Int), .int .i64 P, .int .u32 (R : Int), .int .u8 (B : Int), .int .i64 M, .int .i32 S, .int .i64 F, .int .i64 G]), .is (.agg #[.int .u8 (K : Int), .int .i64 P, .int .u32 (R : Int), .int .u8 (B : Int), .int .i64 M, .int .i64 S, .int .i64 F, .int .i64 G]), .is (.bool ra), .is (.bool true), .is (.bool true), .is (.agg #[.int .u8 (K' : Int), .int .i64 P', .int .u32 (R' : Int), .int .u8 (B' : Int), .int .i64 M', .int .i32 S', .int .i64 F', .int .i64 G']), .is (.bool rb), .is (.agg #[.int .u8 (K' : Int), .int .i64 P', .int .u32 (R' : Int), .int .u8 (B' : Int), .int .i64 M', .int .i32 S', .int .i64 F', .int .i64 G']), .is (.agg #[.int .u8 (K' : Int), .int .i64 P', .int .u32 (R' : Int), .int .u8 (B' : Int), .int .i64 M', .int .i64 S', .int .i64 F', .int .i64 G']), .is (.bool rb), .is (.bool true), .is (.bool true), .is (.bool true)] : List Flw).getD i .any) (by kernel_rfl) (by kernel_rfl) rfl ?_ ?_
  · skip
    refine ⟨step_free rfl (fun aF wF hs hb => ?_), ?_⟩
    · obtain ⟨x0, -⟩ := hs
      have e0 : aF.eval (.tmp 2) = .pointer (some ⟨p, 0, none⟩) := x0
      exact opC_load e0 (LP wF hb) ⟨rfl, below_same wF⟩
    refine ⟨step_free rfl (fun aF wF hs hb => ?_), ?_⟩
    · obtain ⟨x0, -⟩ := hs
      have e0 : aF.eval (.tmp 17) = .agg #[.int .u8 (K : Int), .int .i64 P, .int .u32 (R : Int), .int .u8 (B : Int), .int .i64 M, .int .i32 S, .int .i64 F, .int .i64 G] := x0
      exact opC_call (args := #[.agg #[.int .u8 (K : Int), .int .i64 P, .int .u32 (R : Int), .int .u8 (B : Int), .int .i64 M, .int .i32 S, .int .i64 F, .int .i64 G]]) (enters9 Tryz.func12 (by kernel_rfl) rfl) (by simp [e0]) (cR1 wF hb) (fun _ h => ⟨rfl, h⟩)
    refine ⟨step_free rfl (fun aF wF hs hb => ?_), ?_⟩
    · obtain ⟨x0, -⟩ := hs
      have e0 : aF.eval (.tmp 2) = .pointer (some ⟨p, 0, none⟩) := x0
      exact opC_load e0 (LP wF hb) ⟨rfl, below_same wF⟩
    refine ⟨step_free rfl (fun aF wF hs hb => ?_), ?_⟩
    · obtain ⟨x0, -⟩ := hs
      have e0 : aF.eval (.tmp 19) = .agg #[.int .u8 (K : Int), .int .i64 P, .int .u32 (R : Int), .int .u8 (B : Int), .int .i64 M, .int .i32 S, .int .i64 F, .int .i64 G] := x0
      exact opC_call (args := #[.agg #[.int .u8 (K : Int), .int .i64 P, .int .u32 (R : Int), .int .u8 (B : Int), .int .i64 M, .int .i32 S, .int .i64 F, .int .i64 G]]) (enters9 Tryz.func9 (by kernel_rfl) rfl) (by simp [e0]) (cO1 wF hb) (fun _ h => ⟨rfl, h⟩)
    refine ⟨step_free rfl (fun aF wF hs hb => ?_), ?_⟩
    · obtain ⟨x0, -⟩ := hs
      have e0 : aF.eval (.tmp 20) = .agg #[.int .u8 (K : Int), .int .i64 P, .int .u32 (R : Int), .int .u8 (B : Int), .int .i64 M, .int .i64 S, .int .i64 F, .int .i64 G] := x0
      exact opC_call (args := #[.agg #[.int .u8 (K : Int), .int .i64 P, .int .u32 (R : Int), .int .u8 (B : Int), .int .i64 M, .int .i64 S, .int .i64 F, .int .i64 G]]) (enters9 Tryz.func8 (by kernel_rfl) rfl) (by simp [e0]) (cQ1 wF hb) (fun _ h => ⟨rfl, h⟩)
    refine ⟨step_free rfl (fun aF wF hs hb => ?_), ?_⟩
    · obtain ⟨x0, x1, -⟩ := hs
      have e0 : aF.eval (.tmp 18) = .bool ra := x0
      have e1 : aF.eval (.tmp 21) = .bool ra := x1
      refine opC_value (v := .bool true) ?_ ⟨rfl, below_same wF⟩
      have t0 := ev_of e0
      have t1 := ev_of e1
      simp [execOp, go_sem, t0, t1]
    refine ⟨step_free rfl (fun aF wF hs hb => ?_), ?_⟩
    · obtain ⟨x0, -⟩ := hs
      have e0 : aF.eval (.tmp 22) = .bool true := x0
      exact opC_move e0 ⟨rfl, below_same wF⟩
    refine ⟨step_yes 6 23 rfl rfl (fun _ _ h => h) (fun aF wF hs hb => ?_), ?_⟩
    · obtain ⟨x0, -⟩ := hs
      have e0 : aF.eval (.tmp 3) = .pointer (some ⟨q, 0, none⟩) := x0
      exact opC_load e0 (LQ wF hb) ⟨rfl, below_same wF⟩
    refine ⟨step_yes 6 23 rfl rfl (fun _ _ h => h) (fun aF wF hs hb => ?_), ?_⟩
    · obtain ⟨x0, -⟩ := hs
      have e0 : aF.eval (.tmp 24) = .agg #[.int .u8 (K' : Int), .int .i64 P', .int .u32 (R' : Int), .int .u8 (B' : Int), .int .i64 M', .int .i32 S', .int .i64 F', .int .i64 G'] := x0
      exact opC_call (args := #[.agg #[.int .u8 (K' : Int), .int .i64 P', .int .u32 (R' : Int), .int .u8 (B' : Int), .int .i64 M', .int .i32 S', .int .i64 F', .int .i64 G']]) (enters9 Tryz.func12 (by kernel_rfl) rfl) (by simp [e0]) (cR2 wF hb) (fun _ h => ⟨rfl, h⟩)
    refine ⟨step_yes 6 23 rfl rfl (fun _ _ h => h) (fun aF wF hs hb => ?_), ?_⟩
    · obtain ⟨x0, -⟩ := hs
      have e0 : aF.eval (.tmp 3) = .pointer (some ⟨q, 0, none⟩) := x0
      exact opC_load e0 (LQ wF hb) ⟨rfl, below_same wF⟩
    refine ⟨step_yes 6 23 rfl rfl (fun _ _ h => h) (fun aF wF hs hb => ?_), ?_⟩
    · obtain ⟨x0, -⟩ := hs
      have e0 : aF.eval (.tmp 26) = .agg #[.int .u8 (K' : Int), .int .i64 P', .int .u32 (R' : Int), .int .u8 (B' : Int), .int .i64 M', .int .i32 S', .int .i64 F', .int .i64 G'] := x0
      exact opC_call (args := #[.agg #[.int .u8 (K' : Int), .int .i64 P', .int .u32 (R' : Int), .int .u8 (B' : Int), .int .i64 M', .int .i32 S', .int .i64 F', .int .i64 G']]) (enters9 Tryz.func9 (by kernel_rfl) rfl) (by simp [e0]) (cO2 wF hb) (fun _ h => ⟨rfl, h⟩)
    refine ⟨step_yes 6 23 rfl rfl (fun _ _ h => h) (fun aF wF hs hb => ?_), ?_⟩
    · obtain ⟨x0, -⟩ := hs
      have e0 : aF.eval (.tmp 27) = .agg #[.int .u8 (K' : Int), .int .i64 P', .int .u32 (R' : Int), .int .u8 (B' : Int), .int .i64 M', .int .i64 S', .int .i64 F', .int .i64 G'] := x0
      exact opC_call (args := #[.agg #[.int .u8 (K' : Int), .int .i64 P', .int .u32 (R' : Int), .int .u8 (B' : Int), .int .i64 M', .int .i64 S', .int .i64 F', .int .i64 G']]) (enters9 Tryz.func8 (by kernel_rfl) rfl) (by simp [e0]) (cQ2 wF hb) (fun _ h => ⟨rfl, h⟩)
    refine ⟨step_yes 6 23 rfl rfl (fun _ _ h => h) (fun aF wF hs hb => ?_), ?_⟩
    · obtain ⟨x0, x1, -⟩ := hs
      have e0 : aF.eval (.tmp 25) = .bool rb := x0
      have e1 : aF.eval (.tmp 28) = .bool rb := x1
      refine opC_value (v := .bool true) ?_ ⟨rfl, below_same wF⟩
      have t0 := ev_of e0
      have t1 := ev_of e1
      simp [execOp, go_sem, t0, t1]
    refine ⟨step_free rfl (fun aF wF hs hb => ?_), ?_⟩
    · obtain ⟨x0, x1, -⟩ := hs
      have e0 : aF.eval (.tmp 23) = .bool true := x0
      have e1 : aF.eval (.tmp 29) = .bool true := x1
      refine opC_value (v := .bool true) ?_ ⟨rfl, below_same wF⟩
      have t0 := ev_of e0
      have t1 := ev_of e1
      simp [execOp, go_sem, t0, t1]
    refine ⟨step_free rfl (fun aF wF hs hb => ?_), ?_⟩
    · obtain ⟨x0, -⟩ := hs
      have e0 : aF.eval (.tmp 30) = .bool true := x0
      exact opC_assign e0 ⟨rfl, below_same wF⟩
    exact trivial
  · intro f w6 hf hb6
    have h9 : f 14 = .bool true := hf 14 4 rfl
    have HB6 := Lib.hid (HB5.out.trans (hb6.mono HB5.out.size))
    simp only [putF, Act.put, List.setIfInBounds_toArray, List.set_cons_zero, List.set_cons_succ]
    rw [h9]
    clear hf h9 hb6 LP LQ cR1 cR2 cO1 cO2 cQ1 cQ2
    go_wp2_with fail
    go_ret
    exact ⟨rfl, HB6.out⟩
set_option maxRecDepth 100000 in
set_option maxHeartbeats 4000000 in
theorem TApart_yes {t u : Trm} (hi : t.In) (hj : u.In) (ht : t.Right) (hu : u.Right) (w : World) (hw : Lens w) (hp : Pows w)
    (cA : ∀ W, Below w.heap.size w W → Calls Tryz.prog 7 #[] W (Ret (.bool true) W)) :
    Calls Tryz.prog 6 #[t.v, u.v] w (Ret (.bool true) w) := by
  have kO1 := fun W => own16_any hi W
  have kO2 := fun W => own16_any hj W
  have kQ1 := fun W => QRight_true hi ht W
  have kQ2 := fun W => QRight_true hj hu W
  have cB1 := fun W => cBytesF ht W
  have cB2 := fun W => cBytesF hu W
  have kT1 := fun W h1 h2 => TText_yes ht (by have := t.len ht; omega) W h1 h2
  have kT2 := fun W h1 h2 => TText_yes hu (by have := u.len hu; omega) W h1 h2
  have hE : decide ((t.K : Int) = u.K ∧ t.P = u.P ∧ (t.R : Int) = u.R ∧ (t.B : Int) = u.B ∧ t.M = u.M ∧ t.S = u.S ∧ t.F = u.F ∧ t.G = u.G) = decide (layTm t = layTm u) := by
    rw [decide_eq_decide, ← trm_ext]
    exact ⟨fun h => by rw [h], fun h => layTm_inj ht hu h⟩
  have hX : decide (t.text = u.text) = decide (layTm t = layTm u) := by
    rw [decide_eq_decide]
    exact ⟨fun h => by rw [text_inj ht hu h], fun h => by rw [layTm_inj ht hu h]⟩
  have hl1 := (layTm_len ht).2
  have hl2 := (layTm_len hu).2
  have cS : ∀ (A0 A1 : Option Addr) (c0 c1 : Nat) (W : World) (_ : Rd W W.heap.size A0 (layTm t)) (_ : Rd W W.heap.size A1 (layTm u)), Calls Tryz.prog 19 #[.slice A0 (layTm t).length c0, .slice A1 (layTm u).length c1] W fun e w' => e = .returned (.bool (decide (layTm t = layTm u))) ∧ Below W.heap.size W w' := fun A0 A1 c0 c1 W r0 r1 => (Same_any A0 A1 (layTm t).length c0 W.heap.size (layTm u).length c1 W.heap.size (layTm t) (layTm u) W r0 rfl (by unfold maxLen; omega) r1 rfl (by unfold maxLen; omega)).mono fun e w' h => below_all h
  clear hi hj ht hu hl1 hl2
  obtain ⟨D, hD⟩ : ∃ D, decide (layTm t = layTm u) = D := ⟨_, rfl⟩
  rw [hD] at hE hX
  simp only [hD] at cS
  obtain ⟨L1, hL1⟩ : ∃ L, layTm t = L := ⟨_, rfl⟩
  obtain ⟨L2, hL2⟩ : ∃ L, layTm u = L := ⟨_, rfl⟩
  obtain ⟨sx, hx1⟩ : ∃ x, t.text = x := ⟨_, rfl⟩
  obtain ⟨sy, hx2⟩ : ∃ x, u.text = x := ⟨_, rfl⟩
  rw [hL1] at cB1
  rw [hL2] at cB2
  rw [hL1, hL2] at cS
  rw [hx1] at kT1 hX
  rw [hx2] at kT2 hX
  clear hD hL1 hL2 hx1 hx2
  obtain ⟨K, P, R, B, M, S, F, G⟩ := t
  obtain ⟨K', P', R', B', M', S', F', G'⟩ := u
  unfold Trm.v Trm.r at *
  dsimp only at *
  have cE := fun W => eqT (K : Int) P (R : Int) (B : Int) M S F G (K' : Int) P' (R' : Int) (B' : Int) M' S' F' G' W
  rw [hE] at cE
  have cX : (sx.toList == sy.toList) = D := by
    rw [← hX]
    by_cases h : sx = sy
    · rw [h, decide_eq_true rfl, beq_self_eq_true]
    · rw [decide_eq_false h, beq_eq_false_iff_ne]
      intro e
      rw [Go.Lib.toList_data, Go.Lib.toList_data] at e
      exact h (ByteArray.ext (Array.toList_inj.1 e))
  clear hE hX
  have HWL := Lib.hid hw
  have HPL := Lib.hid hp
  clear hw hp
  have hw0 := b_alloc w (.cells #[.int .u8 (K : Int), .int .i64 P, .int .u32 (R : Int), .int .u8 (B : Int), .int .i64 M, .int .i32 S, .int .i64 F, .int .i64 G] 28)
  have hp0 := (Blk.new w 28 #[.int .u8 (K : Int), .int .i64 P, .int .u32 (R : Int), .int .u8 (B : Int), .int .i64 M, .int .i32 S, .int .i64 F, .int .i64 G]).alloc (.cells #[.int .u8 (K' : Int), .int .i64 P', .int .u32 (R' : Int), .int .u8 (B' : Int), .int .i64 M', .int .i32 S', .int .i64 F', .int .i64 G'] 28)
  have hq0 := Blk.new (w.alloc (.cells #[.int .u8 (K : Int), .int .i64 P, .int .u32 (R : Int), .int .u8 (B : Int), .int .i64 M, .int .i32 S, .int .i64 F, .int .i64 G] 28)) 28 #[.int .u8 (K' : Int), .int .i64 P', .int .u32 (R' : Int), .int .u8 (B' : Int), .int .i64 M', .int .i32 S', .int .i64 F', .int .i64 G']
  rw [show (w.alloc (.cells #[.int .u8 (K : Int), .int .i64 P, .int .u32 (R : Int), .int .u8 (B : Int), .int .i64 M, .int .i32 S, .int .i64 F, .int .i64 G] 28)).heap.size = w.heap.size + 1 by simp] at hq0
  have HP0 := Lib.hid hp0
  have HQ0 := Lib.hid hq0
  have HB0 := Lib.hid (hw0.alloc hw0.size (.cells #[.int .u8 (K' : Int), .int .i64 P', .int .u32 (R' : Int), .int .u8 (B' : Int), .int .i64 M', .int .i32 S', .int .i64 F', .int .i64 G'] 28))
  have cA1 := cA _ HB0.out
  clear hw0 hp0 hq0 cA
  go_enter Tryz.func6, Tryz.ntmps6
  go_wp2_with fail
  refine cA1.mono ?_
  rintro e w1 ⟨rfl, hb⟩
  have HP1 := Lib.hid (HP0.out.below hb HP0.out.lt)
  have HQ1 := Lib.hid (HQ0.out.below hb HQ0.out.lt)
  have HB1 := Lib.hid (HB0.out.trans (hb.mono HB0.out.size))
  clear hb cA1 HP0 HQ0 HB0
  obtain ⟨c0, c1, c2, c3, c4, c5, c6, c7⟩ := blk8 HP1.out
  go_wp2_with fail
  refine (kO1 _).mono ?_
  rintro e w2 ⟨rfl, hb⟩
  have HP2 := Lib.hid (HP1.out.below hb HP1.out.lt)
  have HQ2 := Lib.hid (HQ1.out.below hb HQ1.out.lt)
  have HB2 := Lib.hid (HB1.out.trans (hb.mono HB1.out.size))
  clear hb HP1 HQ1 HB1 c0 c1 c2 c3 c4 c5 c6 c7
  go_wp2_with fail
  refine (kQ1 _).mono ?_
  rintro e w3 ⟨rfl, hb⟩
  have HP3 := Lib.hid (HP2.out.below hb HP2.out.lt)
  have HQ3 := Lib.hid (HQ2.out.below hb HQ2.out.lt)
  have HB3 := Lib.hid (HB2.out.trans (hb.mono HB2.out.size))
  clear hb HP2 HQ2 HB2
  obtain ⟨c0, c1, c2, c3, c4, c5, c6, c7⟩ := blk8 HQ3.out
  go_wp2_with fail
  refine (kO2 _).mono ?_
  rintro e w4 ⟨rfl, hb⟩
  have HP4 := Lib.hid (HP3.out.below hb HP3.out.lt)
  have HQ4 := Lib.hid (HQ3.out.below hb HQ3.out.lt)
  have HB4 := Lib.hid (HB3.out.trans (hb.mono HB3.out.size))
  clear hb HP3 HQ3 HB3 c0 c1 c2 c3 c4 c5 c6 c7
  go_wp2_with fail
  refine (kQ2 _).mono ?_
  rintro e w5 ⟨rfl, hb⟩
  have HP5 := Lib.hid (HP4.out.below hb HP4.out.lt)
  have HQ5 := Lib.hid (HQ4.out.below hb HQ4.out.lt)
  have HB5 := Lib.hid (HB4.out.trans (hb.mono HB4.out.size))
  clear hb HP4 HQ4 HB4
  obtain ⟨p, hpp⟩ : ∃ p, w.heap.size = p := ⟨_, rfl⟩
  obtain ⟨q, hqq⟩ : ∃ q, w.heap.size + 1 = q := ⟨_, rfl⟩
  rw [hqq] at HQ5
  rw [hpp] at HP5
  rw [hqq, hpp]
  clear hpp hqq
  have LP : ∀ W', Below w5.heap.size w5 W' → (Instr.loadAt 28 (.pointer (some ⟨p, 0, none⟩))).run Tryz.prog W' = .ok (.agg #[.int .u8 (K : Int), .int .i64 P, .int .u32 (R : Int), .int .u8 (B : Int), .int .i64 M, .int .i32 S, .int .i64 F, .int .i64 G]) W' := fun W' hb => trm_load (HP5.out.below hb HP5.out.lt)
  have LQ : ∀ W', Below w5.heap.size w5 W' → (Instr.loadAt 28 (.pointer (some ⟨q, 0, none⟩))).run Tryz.prog W' = .ok (.agg #[.int .u8 (K' : Int), .int .i64 P', .int .u32 (R' : Int), .int .u8 (B' : Int), .int .i64 M', .int .i32 S', .int .i64 F', .int .i64 G']) W' := fun W' hb => trm_load (HQ5.out.below hb HQ5.out.lt)
  have cT1 := fun W' (hb : Below w5.heap.size w5 W') => kT1 W' (HWL.out.below (HB5.out.trans (hb.mono HB5.out.size))) (HPL.out.below (HB5.out.trans (hb.mono HB5.out.size)))
  have cT2 := fun W' (hb : Below w5.heap.size w5 W') => kT2 W' (HWL.out.below (HB5.out.trans (hb.mono HB5.out.size))) (HPL.out.below (HB5.out.trans (hb.mono HB5.out.size)))
  clear kT1 kT2 kO1 kO2 kQ1 kQ2 HP5 HQ5
  go_upto_region 5 with (fail)
  refine wp_region_flow [some 31, some 32, some 33, some 34, some 35, some 36, some 37, some 38, some 39, some 40, some 41, some 42, some 43, some 44, some 45, some 46, some 47, some 48, some 49, some 50, some 4] (fun i => ([.is (.agg #[.int .u8 (K : Int), .int .i64 P, .int .u32 (R : Int), .int .u8 (B : Int), .int .i64 M, .int .i32 S, .int .i64 F, .int .i64 G]), .is (.agg #[.int .u8 (K' : Int), .int .i64 P', .int .u32 (R' : Int), .int .u8 (B' : Int), .int .i64 M', .int .i32 S', .int .i64 F', .int .i64 G']), .is (.bool D), .is (.agg #[.int .u8 (K : Int), .int .i64 P, .int .u32 (R : Int), .int .u8 (B : Int), .int .i64 M, .int .i32 S, .int .i64 F, .int .i64 G]), (bySF L1), .is (.agg #[.int .u8 (K' : Int), .int .i64 P', .int .u32 (R' : Int), .int .u8 (B' : Int), .int .i64 M', .int .i32 S', .int .i64 F', .int .i64 G']), (bySF L2), .is (.bool D), .is (.bool true), .is (.bool true), .is (.agg #[.int .u8 (K : Int), .int .i64 P, .int .u32 (R : Int), .int .u8 (B : Int), .int .i64 M, .int .i32 S, .int .i64 F, .int .i64 G]), .is (.agg #[.int .u8 (K' : Int), .int .i64 P', .int .u32 (R' : Int), .int .u8 (B' : Int), .int .i64 M', .int .i32 S', .int .i64 F', .int .i64 G']), .is (.bool D), .is (.agg #[.int .u8 (K : Int), .int .i64 P, .int .u32 (R : Int), .int .u8 (B : Int), .int .i64 M, .int .i32 S, .int .i64 F, .int .i64 G]), .is (.string sx), .is (.agg #[.int .u8 (K' : Int), .int .i64 P', .int .u32 (R' : Int), .int .u8 (B' : Int), .int .i64 M', .int .i32 S', .int .i64 F', .int .i64 G']), .is (.string sy), .is (.bool D), .is (.bool true), .is (.bool true), .is (.bool true)] : List Flw).getD i .any) (by kernel_rfl) (by kernel_rfl) rfl ?_ ?_
  · skip
    refine ⟨step_free rfl (fun aF wF hs hb => ?_), ?_⟩
    · obtain ⟨x0, -⟩ := hs
      have e0 : aF.eval (.tmp 2) = .pointer (some ⟨p, 0, none⟩) := x0
      exact opC_load e0 (LP wF hb) ⟨rfl, below_same wF⟩
    refine ⟨step_free rfl (fun aF wF hs hb => ?_), ?_⟩
    · obtain ⟨x0, -⟩ := hs
      have e0 : aF.eval (.tmp 3) = .pointer (some ⟨q, 0, none⟩) := x0
      exact opC_load e0 (LQ wF hb) ⟨rfl, below_same wF⟩
    refine ⟨step_free rfl (fun aF wF hs hb => ?_), ?_⟩
    · obtain ⟨x0, x1, -⟩ := hs
      have e0 : aF.eval (.tmp 31) = .agg #[.int .u8 (K : Int), .int .i64 P, .int .u32 (R : Int), .int .u8 (B : Int), .int .i64 M, .int .i32 S, .int .i64 F, .int .i64 G] := x0
      have e1 : aF.eval (.tmp 32) = .agg #[.int .u8 (K' : Int), .int .i64 P', .int .u32 (R' : Int), .int .u8 (B' : Int), .int .i64 M', .int .i32 S', .int .i64 F', .int .i64 G'] := x1
      refine opC_value (v := .bool D) ?_ ⟨rfl, below_same wF⟩
      simp [execOp, go_sem, ev_of e0, ev_of e1, cE]
    refine ⟨step_free rfl (fun aF wF hs hb => ?_), ?_⟩
    · obtain ⟨x0, -⟩ := hs
      have e0 : aF.eval (.tmp 2) = .pointer (some ⟨p, 0, none⟩) := x0
      exact opC_load e0 (LP wF hb) ⟨rfl, below_same wF⟩
    refine ⟨step_free rfl (fun aF wF hs hb => ?_), ?_⟩
    · obtain ⟨x0, -⟩ := hs
      have e0 : aF.eval (.tmp 34) = .agg #[.int .u8 (K : Int), .int .i64 P, .int .u32 (R : Int), .int .u8 (B : Int), .int .i64 M, .int .i32 S, .int .i64 F, .int .i64 G] := x0
      exact opC_callF (args := #[.agg #[.int .u8 (K : Int), .int .i64 P, .int .u32 (R : Int), .int .u8 (B : Int), .int .i64 M, .int .i32 S, .int .i64 F, .int .i64 G]]) (enters9 Tryz.func17 (by kernel_rfl) rfl) (by simp [e0]) (cB1 wF) (fun _ _ h1 h2 => ⟨h1, h2⟩)
    refine ⟨step_free rfl (fun aF wF hs hb => ?_), ?_⟩
    · obtain ⟨x0, -⟩ := hs
      have e0 : aF.eval (.tmp 3) = .pointer (some ⟨q, 0, none⟩) := x0
      exact opC_load e0 (LQ wF hb) ⟨rfl, below_same wF⟩
    refine ⟨step_free rfl (fun aF wF hs hb => ?_), ?_⟩
    · obtain ⟨x0, -⟩ := hs
      have e0 : aF.eval (.tmp 36) = .agg #[.int .u8 (K' : Int), .int .i64 P', .int .u32 (R' : Int), .int .u8 (B' : Int), .int .i64 M', .int .i32 S', .int .i64 F', .int .i64 G'] := x0
      exact opC_callF (args := #[.agg #[.int .u8 (K' : Int), .int .i64 P', .int .u32 (R' : Int), .int .u8 (B' : Int), .int .i64 M', .int .i32 S', .int .i64 F', .int .i64 G']]) (enters9 Tryz.func17 (by kernel_rfl) rfl) (by simp [e0]) (cB2 wF) (fun _ _ h1 h2 => ⟨h1, h2⟩)
    refine ⟨step_free rfl (fun aF wF hs hb => ?_), ?_⟩
    · obtain ⟨x0, y0, -⟩ := hs
      obtain ⟨A0, c0, e0, r0⟩ : (bySF L1).p (aF.eval (.tmp 35)) wF := x0
      obtain ⟨A1, c1, e1, r1⟩ : (bySF L2).p (aF.eval (.tmp 37)) wF := y0
      exact opC_call (args := #[.slice A0 L1.length c0, .slice A1 L2.length c1]) (enters9 Tryz.func19 (by kernel_rfl) rfl) (by simp [e0, e1]) (cS A0 A1 c0 c1 wF r0 r1) (fun _ h => ⟨rfl, h⟩)
    refine ⟨step_free rfl (fun aF wF hs hb => ?_), ?_⟩
    · obtain ⟨x0, x1, -⟩ := hs
      have e0 : aF.eval (.tmp 33) = .bool D := x0
      have e1 : aF.eval (.tmp 38) = .bool D := x1
      refine opC_value (v := .bool true) ?_ ⟨rfl, below_same wF⟩
      have t0 := ev_of e0
      have t1 := ev_of e1
      simp [execOp, go_sem, t0, t1]
    refine ⟨step_free rfl (fun aF wF hs hb => ?_), ?_⟩
    · obtain ⟨x0, -⟩ := hs
      have e0 : aF.eval (.tmp 39) = .bool true := x0
      exact opC_move e0 ⟨rfl, below_same wF⟩
    refine ⟨step_yes 9 40 rfl rfl (fun _ _ h => h) (fun aF wF hs hb => ?_), ?_⟩
    · obtain ⟨x0, -⟩ := hs
      have e0 : aF.eval (.tmp 2) = .pointer (some ⟨p, 0, none⟩) := x0
      exact opC_load e0 (LP wF hb) ⟨rfl, below_same wF⟩
    refine ⟨step_yes 9 40 rfl rfl (fun _ _ h => h) (fun aF wF hs hb => ?_), ?_⟩
    · obtain ⟨x0, -⟩ := hs
      have e0 : aF.eval (.tmp 3) = .pointer (some ⟨q, 0, none⟩) := x0
      exact opC_load e0 (LQ wF hb) ⟨rfl, below_same wF⟩
    refine ⟨step_yes 9 40 rfl rfl (fun _ _ h => h) (fun aF wF hs hb => ?_), ?_⟩
    · obtain ⟨x0, x1, -⟩ := hs
      have e0 : aF.eval (.tmp 41) = .agg #[.int .u8 (K : Int), .int .i64 P, .int .u32 (R : Int), .int .u8 (B : Int), .int .i64 M, .int .i32 S, .int .i64 F, .int .i64 G] := x0
      have e1 : aF.eval (.tmp 42) = .agg #[.int .u8 (K' : Int), .int .i64 P', .int .u32 (R' : Int), .int .u8 (B' : Int), .int .i64 M', .int .i32 S', .int .i64 F', .int .i64 G'] := x1
      refine opC_value (v := .bool D) ?_ ⟨rfl, below_same wF⟩
      simp [execOp, go_sem, ev_of e0, ev_of e1, cE]
    refine ⟨step_yes 9 40 rfl rfl (fun _ _ h => h) (fun aF wF hs hb => ?_), ?_⟩
    · obtain ⟨x0, -⟩ := hs
      have e0 : aF.eval (.tmp 2) = .pointer (some ⟨p, 0, none⟩) := x0
      exact opC_load e0 (LP wF hb) ⟨rfl, below_same wF⟩
    refine ⟨step_yes 9 40 rfl rfl (fun _ _ h => h) (fun aF wF hs hb => ?_), ?_⟩
    · obtain ⟨x0, -⟩ := hs
      have e0 : aF.eval (.tmp 44) = .agg #[.int .u8 (K : Int), .int .i64 P, .int .u32 (R : Int), .int .u8 (B : Int), .int .i64 M, .int .i32 S, .int .i64 F, .int .i64 G] := x0
      exact opC_call (args := #[.agg #[.int .u8 (K : Int), .int .i64 P, .int .u32 (R : Int), .int .u8 (B : Int), .int .i64 M, .int .i32 S, .int .i64 F, .int .i64 G]]) (enters9 Tryz.func23 (by kernel_rfl) rfl) (by simp [e0]) (cT1 wF hb) (fun _ h => ⟨rfl, h⟩)
    refine ⟨step_yes 9 40 rfl rfl (fun _ _ h => h) (fun aF wF hs hb => ?_), ?_⟩
    · obtain ⟨x0, -⟩ := hs
      have e0 : aF.eval (.tmp 3) = .pointer (some ⟨q, 0, none⟩) := x0
      exact opC_load e0 (LQ wF hb) ⟨rfl, below_same wF⟩
    refine ⟨step_yes 9 40 rfl rfl (fun _ _ h => h) (fun aF wF hs hb => ?_), ?_⟩
    · obtain ⟨x0, -⟩ := hs
      have e0 : aF.eval (.tmp 46) = .agg #[.int .u8 (K' : Int), .int .i64 P', .int .u32 (R' : Int), .int .u8 (B' : Int), .int .i64 M', .int .i32 S', .int .i64 F', .int .i64 G'] := x0
      exact opC_call (args := #[.agg #[.int .u8 (K' : Int), .int .i64 P', .int .u32 (R' : Int), .int .u8 (B' : Int), .int .i64 M', .int .i32 S', .int .i64 F', .int .i64 G']]) (enters9 Tryz.func23 (by kernel_rfl) rfl) (by simp [e0]) (cT2 wF hb) (fun _ h => ⟨rfl, h⟩)
    refine ⟨step_yes 9 40 rfl rfl (fun _ _ h => h) (fun aF wF hs hb => ?_), ?_⟩
    · obtain ⟨x0, x1, -⟩ := hs
      have e0 : aF.eval (.tmp 45) = .string sx := x0
      have e1 : aF.eval (.tmp 47) = .string sy := x1
      refine opC_value (v := .bool D) ?_ ⟨rfl, below_same wF⟩
      simp [execOp, go_sem, ev_of e0, ev_of e1, cX]
    refine ⟨step_yes 9 40 rfl rfl (fun _ _ h => h) (fun aF wF hs hb => ?_), ?_⟩
    · obtain ⟨x0, x1, -⟩ := hs
      have e0 : aF.eval (.tmp 43) = .bool D := x0
      have e1 : aF.eval (.tmp 48) = .bool D := x1
      refine opC_value (v := .bool true) ?_ ⟨rfl, below_same wF⟩
      have t0 := ev_of e0
      have t1 := ev_of e1
      simp [execOp, go_sem, t0, t1]
    refine ⟨step_free rfl (fun aF wF hs hb => ?_), ?_⟩
    · obtain ⟨x0, x1, -⟩ := hs
      have e0 : aF.eval (.tmp 40) = .bool true := x0
      have e1 : aF.eval (.tmp 49) = .bool true := x1
      refine opC_value (v := .bool true) ?_ ⟨rfl, below_same wF⟩
      have t0 := ev_of e0
      have t1 := ev_of e1
      simp [execOp, go_sem, t0, t1]
    refine ⟨step_free rfl (fun aF wF hs hb => ?_), ?_⟩
    · obtain ⟨x0, -⟩ := hs
      have e0 : aF.eval (.tmp 50) = .bool true := x0
      exact opC_assign e0 ⟨rfl, below_same wF⟩
    exact trivial
  · intro f w6 hf hb6
    have h9 : f 20 = .bool true := hf 20 4 rfl
    have HB6 := Lib.hid (HB5.out.trans (hb6.mono HB5.out.size))
    simp only [putF, Act.put, List.setIfInBounds_toArray, List.set_cons_zero, List.set_cons_succ]
    rw [h9]
    clear hf h9 hb6 LP LQ cT1 cT2 cB1 cB2 cS cE cX
    go_wp2_with fail
    go_ret
    exact ⟨rfl, HB6.out⟩
theorem TApart_any {t u : Trm} (hi : t.In) (hj : u.In) (w : World) (hw : Lens w) (hp : Pows w)
    (m : Int) (hx : w.cell? ⟨5, 0, none⟩ = some (.int .i64 m)) (te : TypeId) (pe : Value) (he : w.cell? ⟨1, 0, none⟩ = some (.iface te pe)) :
    Calls Tryz.prog 6 #[t.v, u.v] w (Ret (.bool true) w) := by
  have cA : ∀ W, Below w.heap.size w W → Calls Tryz.prog 7 #[] W (Ret (.bool true) W) := fun W hb =>
    awake16 W (hw.below hb) (hp.below hb) m ((hb.cell (block_lt_of_cell hx)).trans hx) te pe ((hb.cell (block_lt_of_cell he)).trans he)
  by_cases ht : t.Right
  · by_cases hu : u.Right
    · exact TApart_yes hi hj ht hu w hw hp cA
    · exact TApart_no2 hi hj ht hu w hw hp cA
  · exact TApart_no1 hi hj ht w hw hp cA
end Go.Proofs.YtjcnglkjjhnpbaaGreatDoor
