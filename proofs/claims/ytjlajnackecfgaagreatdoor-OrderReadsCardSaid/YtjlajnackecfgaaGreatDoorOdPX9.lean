/-
Orders' bytes and words tell the order: the plain mathematics. Condition: the orders may be.
-/
import Derived.Test.YtjlajnackecfgaaGreatDoorOdKX9
namespace Go.Proofs.YtjlajnackecfgaaGreatDoor
open Go.ChangeShapes Go.WideShapes Go.ChangeAt Go.RowKit
theorem kindS_inj {a b : Nat} (ha : 4 ≤ a ∧ a ≤ 7) (hb : 4 ≤ b ∧ b ≤ 7) (h : kindS a = kindS b) : a = b := by
  have h1 := ek_kind (k := a) (by omega)
  have h2 := ek_kind (k := b) (by omega)
  rw [h, h2] at h1
  exact h1.symm
/-- The first word of an order's text. -/
def Ord.w1 (o : Ord) : ByteArray := if o.k = 1 then boardS else if o.k = 3 then revS else if o.k = 4 then stepS else kindS o.e.k
/-- What stands behind the loan. -/
def Ord.w3 (o : Ord) : ByteArray := if o.k = 1 then o.t.text else if o.k = 3 then dec o.e.s else if o.k = 4 then ⟨#[]⟩ else if o.e.k = 7 then sps [dec o.e.s, dayText o.e.d] else sps [dec o.e.s, dayText o.e.d, textC o.e.m]
theorem text_c (o : Ord) : c1 o.text = o.w1 ∧ (o.k ≠ 4 → c1 (c2 o.text) = dec o.a) ∧ c2 (c2 o.text) = o.w3 := by
  have ha := dec_ok o.a
  unfold Ord.text Ord.w1 Ord.w3
  by_cases k1 : o.k = 1
  · rw [if_pos k1, if_pos k1, if_pos k1]
    obtain ⟨q1, q2⟩ := c_sps boardS (dec o.a) [o.t.text] (by decide)
    obtain ⟨q3, q4⟩ := c_sps (dec o.a) o.t.text [] ha
    rw [q1, q2, q3, q4, sps_one]
    exact ⟨rfl, fun _ => rfl, rfl⟩
  rw [if_neg k1, if_neg k1, if_neg k1]
  by_cases k3 : o.k = 3
  · rw [if_pos k3, if_pos k3, if_pos k3]
    obtain ⟨q1, q2⟩ := c_sps revS (dec o.a) [dec o.e.s] (by decide)
    obtain ⟨q3, q4⟩ := c_sps (dec o.a) (dec o.e.s) [] ha
    rw [q1, q2, q3, q4, sps_one]
    exact ⟨rfl, fun _ => rfl, rfl⟩
  rw [if_neg k3, if_neg k3, if_neg k3]
  by_cases k4 : o.k = 4
  · rw [if_pos k4, if_pos k4, if_pos k4]
    obtain ⟨q1, q2⟩ := c_one stepS (by decide)
    rw [q1, q2, c_empty.2]
    exact ⟨rfl, fun h => absurd k4 h, rfl⟩
  rw [if_neg k4, if_neg k4, if_neg k4]
  by_cases k7 : o.e.k = 7
  · rw [if_pos k7, if_pos k7]
    obtain ⟨q1, q2⟩ := c_sps (kindS o.e.k) (dec o.a) [dec o.e.s, dayText o.e.d] (kindS_ok _)
    obtain ⟨q3, q4⟩ := c_sps (dec o.a) (dec o.e.s) [dayText o.e.d] ha
    rw [q1, q2, q3, q4]
    exact ⟨rfl, fun _ => rfl, rfl⟩
  · rw [if_neg k7, if_neg k7]
    obtain ⟨q1, q2⟩ := c_sps (kindS o.e.k) (dec o.a) [dec o.e.s, dayText o.e.d, textC o.e.m] (kindS_ok _)
    obtain ⟨q3, q4⟩ := c_sps (dec o.a) (dec o.e.s) [dayText o.e.d, textC o.e.m] ha
    rw [q1, q2, q3, q4]
    exact ⟨rfl, fun _ => rfl, rfl⟩
theorem w1_k {o p : Ord} (ho : o.Right) (hp : p.Right) (h : o.w1 = p.w1) : o.k = p.k := by
  obtain ⟨-, -, h2, h3, h4⟩ := ho
  obtain ⟨-, -, g2, g3, g4⟩ := hp
  have key : ∀ q : Ord, (q.k = 2 → q.e.Right) → 1 ≤ q.k → q.k ≤ 4 → (q.k = 1 ∧ q.w1.data.toList = [98, 111, 97, 114, 100]) ∨ (q.k = 3 ∧ q.w1.data.toList = [114, 101, 118, 101, 114, 115, 101]) ∨ (q.k = 4 ∧ q.w1.data.toList = [115, 116, 101, 112]) ∨ (q.k = 2 ∧ q.w1.data.toList ≠ [98, 111, 97, 114, 100] ∧ q.w1.data.toList ≠ [114, 101, 118, 101, 114, 115, 101] ∧ q.w1.data.toList ≠ [115, 116, 101, 112]) := fun q hq2 hq3 hq4 => by
    unfold Ord.w1
    by_cases k1 : q.k = 1
    · rw [if_pos k1]; exact .inl ⟨k1, rfl⟩
    by_cases k3 : q.k = 3
    · rw [if_neg k1, if_pos k3]; exact .inr (.inl ⟨k3, rfl⟩)
    by_cases k4 : q.k = 4
    · rw [if_neg k1, if_neg k3, if_pos k4]; exact .inr (.inr (.inl ⟨k4, rfl⟩))
    have k2 : q.k = 2 := by omega
    have hk := (hq2 k2).k
    rw [if_neg k1, if_neg k3, if_neg k4]
    exact .inr (.inr (.inr ⟨k2, kind_words (by omega)⟩))
  have a := key o h2 h3 h4
  have b := key p g2 g3 g4
  rw [h] at a
  rcases a with ⟨a, b1⟩ | ⟨a, b1⟩ | ⟨a, b1⟩ | ⟨a, b1, b2, b3⟩ <;> rcases b with ⟨b, d1⟩ | ⟨b, d1⟩ | ⟨b, d1⟩ | ⟨b, d1, d2, d3⟩ <;> first | omega | (exfalso; simp_all)
theorem otext_inj {o p : Ord} (ho : o.Right) (hp : p.Right) (h : o.text = p.text) : o = p := by
  obtain ⟨a1, a2, a3⟩ := text_c o
  obtain ⟨b1, b2, b3⟩ := text_c p
  rw [h] at a1 a2 a3
  have hk := w1_k ho hp (a1.symm.trans b1)
  have hw : o.w3 = p.w3 := a3.symm.trans b3
  have hw1 : o.w1 = p.w1 := a1.symm.trans b1
  have ha : o.k ≠ 4 → o.a = p.a := fun h4 => dec_inj ((a2 h4).symm.trans (b2 (by omega)))
  obtain ⟨h0, h1, h2, h3, h4⟩ := ho
  obtain ⟨g0, g1, g2, g3, g4⟩ := hp
  clear a1 a2 a3 b1 b2 b3 h
  unfold Ord.w3 at hw
  rw [h0, g0]
  unfold Ord.named
  rw [← hk] at hw g1 g2 ⊢
  by_cases k1 : o.k = 1
  · rw [if_pos k1, if_pos k1] at hw
    rw [if_pos k1, if_pos k1, ha (by omega), text_inj (h1 k1) (g1 k1) hw]
  rw [if_neg k1, if_neg k1] at hw
  rw [if_neg k1, if_neg k1]
  by_cases k3 : o.k = 3
  · rw [if_pos k3, if_pos k3] at hw
    rw [if_neg (by omega), if_pos k3, if_neg (by omega), if_pos k3, ha (by omega), dec_inj hw]
  rw [if_neg k3, if_neg k3] at hw
  by_cases k4 : o.k = 4
  · rw [if_neg (by omega), if_neg k3, if_neg (by omega), if_neg k3]
  rw [if_neg k4, if_neg k4] at hw
  have k2 : o.k = 2 := by omega
  rw [if_pos k2, if_pos k2, ha k4]
  have hoe := h2 k2
  have hpe := g2 k2
  obtain ⟨hd, hek⟩ := hoe
  obtain ⟨gd, gek⟩ := hpe
  have hkk : o.e.k = p.e.k := by
    unfold Ord.w1 at hw1
    rw [← hk, if_neg k1, if_neg k3, if_neg k4, if_neg k1, if_neg k3, if_neg k4] at hw1
    exact kindS_inj (by omega) (by omega) hw1
  have fin : o.e = p.e → (⟨2, p.a, Trm.zero, o.e⟩ : Ord) = ⟨2, p.a, Trm.zero, p.e⟩ := fun h => by rw [h]
  apply fin
  rw [evt_ext]
  have hso := dec_ok o.e.s
  have hsp := dec_ok p.e.s
  by_cases k7 : o.e.k = 7
  · rw [if_pos k7, if_pos (by omega)] at hw
    obtain ⟨q1, q2⟩ := c_sps (dec o.e.s) (dayText o.e.d) [] hso
    obtain ⟨r1, r2⟩ := c_sps (dec p.e.s) (dayText p.e.d) [] hsp
    rw [sps_one] at q2 r2
    rw [hw] at q1 q2
    have e1 := dec_inj (q1.symm.trans r1)
    have e2 := day_inj hd gd (q2.symm.trans r2)
    omega
  · rw [if_neg k7, if_neg (by omega)] at hw
    obtain ⟨q1, q2⟩ := c_sps (dec o.e.s) (dayText o.e.d) [textC o.e.m] hso
    obtain ⟨r1, r2⟩ := c_sps (dec p.e.s) (dayText p.e.d) [textC p.e.m] hsp
    rw [hw] at q1 q2
    have e1 := dec_inj (q1.symm.trans r1)
    have e2 := q2.symm.trans r2
    obtain ⟨q3, q4⟩ := c_sps (dayText o.e.d) (textC o.e.m) [] (day_ok _)
    obtain ⟨r3, r4⟩ := c_sps (dayText p.e.d) (textC p.e.m) [] (day_ok _)
    rw [sps_one] at q4 r4
    rw [e2] at q3 q4
    have e3 := day_inj hd gd (q3.symm.trans r3)
    have e4 := textC_inj (q4.symm.trans r4)
    omega
end Go.Proofs.YtjlajnackecfgaaGreatDoor
