/-
A day's text, read digit by digit. Plain mathematics, no condition.
Terms that are Right and alike in their words are the same. Plain mathematics.
Words joined with a blank between; numbers; kinds' names; order.Text of what may be. Conditions: what is laid.
-/
import Derived.Test.YtjlajnackecfgaaGreatDoorPadW9
import Derived.Test.YtjlajnackecfgaaGreatDoorDateHW9
import Derived.Test.YtjlajnackecfgaaGreatDoorTrmEW9
import Derived.Test.YtjlajnackecfgaaGreatDoorOdFW9
import Derived.Test.YtjlajnackecfgaaGreatDoorTrmZ2W9
namespace Go.Proofs.YtjlajnackecfgaaGreatDoor

/-- What the first i bytes say: year, month, day. -/
def rdN (L : List UInt8) : Nat → Int × Int × Int
  | 0 => (0, 0, 0)
  | i + 1 => if i = 4 ∨ i = 7 then rdN L i
      else if i < 4 then (10 * (rdN L i).1 + (((L.getD i 0).toNat : Int) - 48), (rdN L i).2.1, (rdN L i).2.2)
      else if i < 7 then ((rdN L i).1, 10 * (rdN L i).2.1 + (((L.getD i 0).toNat : Int) - 48), (rdN L i).2.2)
      else ((rdN L i).1, (rdN L i).2.1, 10 * (rdN L i).2.2 + (((L.getD i 0).toNat : Int) - 48))
/-- Are the first i bytes, but for two, digits? -/
def okN (L : List UInt8) : Nat → Bool
  | 0 => true
  | i + 1 => okN L i && (decide (i = 4 ∨ i = 7) || decide (48 ≤ (L.getD i 0).toNat ∧ (L.getD i 0).toNat ≤ 57))
theorem okN_end {L : List UInt8} {k m : Nat} (hk : k ≤ m) (h : okN L k = false) : okN L m = false := by
  induction m with
  | zero => obtain rfl : k = 0 := by omega
            exact h
  | succ m ih =>
    rcases Nat.lt_or_ge k (m + 1) with h1 | h1
    · simp only [okN]; rw [ih (by omega)]; rfl
    · obtain rfl : k = m + 1 := by omega
      exact h
theorem rdN_bd {L : List UInt8} : ∀ i, i ≤ 10 → okN L i = true → (0 ≤ (rdN L i).1 ∧ (rdN L i).1 ≤ 10000000000) ∧ (0 ≤ (rdN L i).2.1 ∧ (rdN L i).2.1 ≤ 10000000000) ∧ (0 ≤ (rdN L i).2.2 ∧ (rdN L i).2.2 ≤ 10000000000) := by
  have key : ∀ i, i ≤ 10 → okN L i = true → (0 ≤ (rdN L i).1 ∧ (rdN L i).1 < 10 ^ i) ∧ (0 ≤ (rdN L i).2.1 ∧ (rdN L i).2.1 < 10 ^ i) ∧ (0 ≤ (rdN L i).2.2 ∧ (rdN L i).2.2 < 10 ^ i) := by
    intro i
    induction i with
    | zero => intro _ _; simp [rdN]
    | succ i ih =>
      intro h hok
      simp only [okN, Bool.and_eq_true, Bool.or_eq_true, decide_eq_true_eq] at hok
      obtain ⟨⟨a0, a1⟩, ⟨b0, b1⟩, ⟨c0, c1⟩⟩ := ih (by omega) hok.1
      have hp : (10 : Int) ^ (i + 1) = 10 * 10 ^ i := by rw [Int.pow_succ]; omega
      have hd := hok.2
      simp only [rdN]
      generalize (10 : Int) ^ i = p at *
      rw [hp]
      generalize (L.getD i 0).toNat = u at *
      split
      · refine ⟨⟨a0, by omega⟩, ⟨b0, by omega⟩, ⟨c0, by omega⟩⟩
      · split
        · refine ⟨⟨by simp only; omega, by simp only; omega⟩, ⟨b0, by simp only; omega⟩, ⟨c0, by simp only; omega⟩⟩
        · split
          · refine ⟨⟨a0, by simp only; omega⟩, ⟨by simp only; omega, by simp only; omega⟩, ⟨c0, by simp only; omega⟩⟩
          · refine ⟨⟨a0, by simp only; omega⟩, ⟨b0, by simp only; omega⟩, ⟨by simp only; omega, by simp only; omega⟩⟩
  intro i h hok
  obtain ⟨⟨a0, a1⟩, ⟨b0, b1⟩, ⟨c0, c1⟩⟩ := key i h hok
  have hp : (10 : Int) ^ i ≤ 10000000000 := by
    have h1 : (10 : Nat) ^ i ≤ 10 ^ 10 := Nat.pow_le_pow_right (by decide) h
    have h2 : ((10 ^ i : Nat) : Int) = (10 : Int) ^ i := by simp
    omega
  omega
/-- What a text of ten bytes says: its day, or -1. -/
def rdL (L : List UInt8) : Int := if L.length = 10 ∧ (L.getD 4 0).toNat = 45 ∧ (L.getD 7 0).toNat = 45 ∧ okN L 10 = true ∧ rightB (rdN L 10).1 (rdN L 10).2.1 (rdN L 10).2.2 = true then num (rdN L 10).1 (rdN L 10).2.1 (rdN L 10).2.2 else -1
theorem textL_len (y m d : Nat) : (textL y m d).length = 10 := rfl
theorem rdN_ten (b0 b1 b2 b3 b4 b5 b6 b7 b8 b9 : UInt8) : rdN [b0, b1, b2, b3, b4, b5, b6, b7, b8, b9] 10 = (10 * (10 * (10 * (10 * 0 + ((b0.toNat : Int) - 48)) + ((b1.toNat : Int) - 48)) + ((b2.toNat : Int) - 48)) + ((b3.toNat : Int) - 48), 10 * (10 * 0 + ((b5.toNat : Int) - 48)) + ((b6.toNat : Int) - 48), 10 * (10 * 0 + ((b8.toNat : Int) - 48)) + ((b9.toNat : Int) - 48)) := by
  simp [rdN]
theorem okN_ten (b0 b1 b2 b3 b4 b5 b6 b7 b8 b9 : UInt8) : okN [b0, b1, b2, b3, b4, b5, b6, b7, b8, b9] 10 = true ↔ (48 ≤ b0.toNat ∧ b0.toNat ≤ 57) ∧ (48 ≤ b1.toNat ∧ b1.toNat ≤ 57) ∧ (48 ≤ b2.toNat ∧ b2.toNat ≤ 57) ∧ (48 ≤ b3.toNat ∧ b3.toNat ≤ 57) ∧ (48 ≤ b5.toNat ∧ b5.toNat ≤ 57) ∧ (48 ≤ b6.toNat ∧ b6.toNat ≤ 57) ∧ (48 ≤ b8.toNat ∧ b8.toNat ≤ 57) ∧ (48 ≤ b9.toNat ∧ b9.toNat ≤ 57) := by
  simp [okN, and_assoc]
/-- A day's own text. -/
theorem rdL_text (y m d : Nat) (hy : y < 10000) (hm : m < 100) (hd : d < 100) (hr : rightB (y : Int) (m : Int) (d : Int) = true) : rdL (textL y m d) = num (y : Int) (m : Int) (d : Int) := by
  have e1 := dgt_nat (y / 1000)
  have e2 := dgt_nat (y / 100)
  have e3 := dgt_nat (y / 10)
  have e4 := dgt_nat y
  have e5 := dgt_nat (m / 10)
  have e6 := dgt_nat m
  have e7 := dgt_nat (d / 10)
  have e8 := dgt_nat d
  have hT : textL y m d = [dgt (y / 1000), dgt (y / 100), dgt (y / 10), dgt y, 45, dgt (m / 10), dgt m, 45, dgt (d / 10), dgt d] := rfl
  have hR : rdN (textL y m d) 10 = ((y : Int), (m : Int), (d : Int)) := by
    rw [hT, rdN_ten, e1, e2, e3, e4, e5, e6, e7, e8]
    refine Prod.ext ?_ (Prod.ext ?_ ?_) <;> simp only <;> omega
  have h1 : (rdN (textL y m d) 10).1 = (y : Int) := by rw [hR]
  have h2 : (rdN (textL y m d) 10).2.1 = (m : Int) := by rw [hR]
  have h3 : (rdN (textL y m d) 10).2.2 = (d : Int) := by rw [hR]
  have h4 : okN (textL y m d) 10 = true := by
    have f : ∀ n, 48 ≤ (dgt n).toNat ∧ (dgt n).toNat ≤ 57 := fun n => by rw [dgt_nat]; omega
    rw [hT, okN_ten]
    exact ⟨f _, f _, f _, f _, f _, f _, f _, f _⟩
  unfold rdL
  rw [h1, h2, h3, if_pos ⟨textL_len y m d, by rw [hT]; rfl, by rw [hT]; rfl, h4, hr⟩]
theorem ten_of (L : List UInt8) (h : L.length = 10) : ∃ b0 b1 b2 b3 b4 b5 b6 b7 b8 b9 : UInt8, L = [b0, b1, b2, b3, b4, b5, b6, b7, b8, b9] := by
  match L, h with
  | [b0, b1, b2, b3, b4, b5, b6, b7, b8, b9], _ => exact ⟨b0, b1, b2, b3, b4, b5, b6, b7, b8, b9, rfl⟩
/-- What is read is a day's own text. -/
theorem rdL_back (L : List UInt8) (h : rdL L ≠ -1) : ∃ y m d : Nat, L = textL y m d ∧ rightB (y : Int) (m : Int) (d : Int) = true ∧ rdL L = num (y : Int) (m : Int) (d : Int) := by
  unfold rdL at h ⊢
  by_cases hc : L.length = 10 ∧ (L.getD 4 0).toNat = 45 ∧ (L.getD 7 0).toNat = 45 ∧ okN L 10 = true ∧ rightB (rdN L 10).1 (rdN L 10).2.1 (rdN L 10).2.2 = true
  · rw [if_pos hc]
    clear h
    obtain ⟨hl, h4, h7, hok, hr⟩ := hc
    obtain ⟨b0, b1, b2, b3, b4, b5, b6, b7, b8, b9, rfl⟩ := ten_of L hl
    have q4 : b4.toNat = 45 := h4
    have q7 : b7.toNat = 45 := h7
    obtain ⟨d0, d1, d2, d3, d5, d6, d8, d9⟩ := (okN_ten b0 b1 b2 b3 b4 b5 b6 b7 b8 b9).1 hok
    have hR := rdN_ten b0 b1 b2 b3 b4 b5 b6 b7 b8 b9
    have h1 : (rdN [b0, b1, b2, b3, b4, b5, b6, b7, b8, b9] 10).1 = ((1000 * (b0.toNat - 48) + 100 * (b1.toNat - 48) + 10 * (b2.toNat - 48) + (b3.toNat - 48) : Nat) : Int) := by
      rw [hR]
      simp only
      omega
    have h2 : (rdN [b0, b1, b2, b3, b4, b5, b6, b7, b8, b9] 10).2.1 = ((10 * (b5.toNat - 48) + (b6.toNat - 48) : Nat) : Int) := by
      rw [hR]
      simp only
      omega
    have h3 : (rdN [b0, b1, b2, b3, b4, b5, b6, b7, b8, b9] 10).2.2 = ((10 * (b8.toNat - 48) + (b9.toNat - 48) : Nat) : Int) := by
      rw [hR]
      simp only
      omega
    rw [h1, h2, h3] at hr ⊢
    refine ⟨_, _, _, ?_, hr, rfl⟩
    have e : ∀ (b : UInt8) (n : Nat), 48 + n % 10 = b.toNat → b = dgt n := fun b n hn => UInt8.toNat_inj.1 (by rw [dgt_nat]; exact hn.symm)
    unfold textL pad4 pad2
    simp only [List.cons_append, List.nil_append]
    rw [← e b0 _ (by omega), ← e b1 _ (by omega), ← e b2 _ (by omega), ← e b3 _ (by omega), ← e b5 _ (by omega), ← e b6 _ (by omega), ← e b8 _ (by omega), ← e b9 _ (by omega)]
    rw [show b4 = 45 from UInt8.toNat_inj.1 q4, show b7 = 45 from UInt8.toNat_inj.1 q7]
  · rw [if_neg hc] at h
    exact absurd rfl h
end Go.Proofs.YtjlajnackecfgaaGreatDoor
namespace Go.Proofs.YtjlajnackecfgaaGreatDoor
open Go.RowKit

/-! Words. -/
theorem dec_inj {a b : Nat} (h : dec a = dec b) : a = b := by
  have h1 := atoi_dec a
  rw [h, atoi_dec b] at h1
  injection h1 with h1
  omega
theorem day_inj {a b : Int} (ha : 0 ≤ a ∧ a ≤ 3652058) (hb : 0 ≤ b ∧ b ≤ 3652058) (h : dayText a = dayText b) : a = b := by
  have key : ∀ n : Int, 0 ≤ n → n ≤ 3652058 → rdL (dayText n).data.toList = n := fun n h0 h1 => by
    obtain ⟨r1, r2⟩ := civ_right n h0 h1
    have hc := civ_in n h0 h1
    have e1 : ((cY n).toNat : Int) = cY n := by omega
    have e2 : ((cM n).toNat : Int) = cM n := by omega
    have e3 : ((cD n).toNat : Int) = cD n := by omega
    have h9 := rdL_text (cY n).toNat (cM n).toNat (cD n).toNat (by omega) (by omega) (by omega) (by rw [e1, e2, e3]; exact r1)
    rw [e1, e2, e3, r2] at h9
    exact h9
  rw [← key a ha.1 ha.2, ← key b hb.1 hb.2, h]
theorem text_inj {t u : Trm} (ht : t.Right) (hu : u.Right) (h : t.text = u.text) : t = u := by
  have h1 := t.split ht 8 (by omega)
  rw [h, u.split hu 8 (by omega)] at h1
  obtain ⟨K, P, R, B, M, S, F, G⟩ := t
  obtain ⟨hK, ⟨hR, hB⟩, hP, hM, hS, hF, hG⟩ := ht
  dsimp only at hK hR hB hP hM hS hF hG
  obtain ⟨M, rfl⟩ : ∃ n : Nat, M = n := ⟨M.toNat, by omega⟩
  obtain ⟨G, rfl⟩ : ∃ n : Nat, G = n := ⟨G.toNat, by omega⟩
  obtain ⟨K', P', R', B', M', S', F', G'⟩ := u
  obtain ⟨hK', ⟨hR', hB'⟩, hP', hM', hS', hF', hG'⟩ := hu
  dsimp only at hK' hR' hB' hP' hM' hS' hF' hG'
  obtain ⟨M', rfl⟩ : ∃ n : Nat, M' = n := ⟨M'.toNat, by omega⟩
  obtain ⟨G', rfl⟩ : ∃ n : Nat, G' = n := ⟨G'.toNat, by omega⟩
  unfold Trm.l at h1
  dsimp only at h1
  simp only [itS_dec, List.cons.injEq, and_true] at h1
  obtain ⟨e0, e1, e2, e3, e4, e5, e6, e7⟩ := h1
  have k0 : K' = K := by rw [← (name_ok hK).2.2, ← (name_ok hK').2.2, e0]
  have k3 : B' = B := by
    have z1 := (basis_ok hB).2.2
    rw [← e3, (basis_ok hB').2.2] at z1
    omega
  have k1 : P' = P := textC_inj e1
  have k2 : R' = R := dec_inj e2
  have k4 : M' = M := dec_inj e4
  have k5 : S' = S := day_inj (by omega) (by omega) e5
  have k6 : F' = F := textC_inj e6
  have k7 : G' = G := dec_inj e7
  rw [k0, k1, k2, k3, k4, k5, k6, k7]
end Go.Proofs.YtjlajnackecfgaaGreatDoor
namespace Go.Proofs.YtjlajnackecfgaaGreatDoor
open Go.ChangeShapes Go.WideShapes Go.ChangeAt Go.RowKit
def strsF (n : Nat) (cs : Array Value) : Flw := ⟨fun v W => ∃ g, v = .slice (some ⟨g, 0, none⟩) n n ∧ Blk W g 9 cs, fun ⟨g, h1, h2⟩ hb => ⟨g, h1, h2.below hb h2.lt⟩⟩
def kindS (k : Nat) : ByteArray := if k = 1 then ⟨#[98, 111, 97, 114, 100]⟩ else if k = 2 then ⟨#[97, 99, 99, 114, 117, 101]⟩ else if k = 3 then ⟨#[108, 97, 116, 101]⟩ else if k = 4 then ⟨#[112, 97, 121]⟩ else if k = 5 then ⟨#[102, 101, 101]⟩ else if k = 6 then ⟨#[119, 97, 105, 118, 101]⟩ else if k = 7 then ⟨#[111, 102, 102]⟩ else ⟨#[]⟩
set_option maxRecDepth 20000 in
theorem CKind_any (k : Nat) (w : World) : Calls Tryz.prog 45 #[.int .u8 (k : Int)] w fun e w' => e = .returned (.string (kindS k)) ∧ w = w' := by
  by_cases h : 1 ≤ k ∧ k ≤ 7
  · rcases (show k = 1 ∨ k = 2 ∨ k = 3 ∨ k = 4 ∨ k = 5 ∨ k = 6 ∨ k = 7 by omega) with rfl | rfl | rfl | rfl | rfl | rfl | rfl
    all_goals
      clear h
      go_enter Tryz.func45, Tryz.ntmps45
      go_wp2_with fail
      go_ret
      exact ⟨rfl, rfl⟩
  · rw [show kindS k = ⟨#[]⟩ by unfold kindS; rw [if_neg (by omega), if_neg (by omega), if_neg (by omega), if_neg (by omega), if_neg (by omega), if_neg (by omega), if_neg (by omega)]]
    have j1 : ((k : Int) == 1) = false := by rw [beq_eq_false_iff_ne]; omega
    have j2 : ((k : Int) == 2) = false := by rw [beq_eq_false_iff_ne]; omega
    have j3 : ((k : Int) == 3) = false := by rw [beq_eq_false_iff_ne]; omega
    have j4 : ((k : Int) == 4) = false := by rw [beq_eq_false_iff_ne]; omega
    have j5 : ((k : Int) == 5) = false := by rw [beq_eq_false_iff_ne]; omega
    have j6 : ((k : Int) == 6) = false := by rw [beq_eq_false_iff_ne]; omega
    have j7 : ((k : Int) == 7) = false := by rw [beq_eq_false_iff_ne]; omega
    clear h
    go_enter Tryz.func45, Tryz.ntmps45
    go_wp2_with fail
    go_ret
    exact ⟨rfl, rfl⟩
theorem decimal_any (n : Nat) (hn : n < 4294967296) (w : World) (hp : Pows w) : Calls Tryz.prog 42 #[.int .u32 (n : Int)] w (Ret (.string (dec n)) w) := by
  have hF := Lib.hid (Format_any n (by omega) w hp)
  have hw : IntKind.u64.wrap (n : Int) = (n : Int) := by rw [IntKind.wrap_u64]; omega
  have h1 : (n : Int) < 4294967296 := by omega
  have h0 : (0 : Int) ≤ (n : Int) := by omega
  clear hp
  go_enter Tryz.func42, Tryz.ntmps42
  go_wp2_with fail
  refine hF.out.mono ?_
  rintro e w1 ⟨rfl, hb⟩
  have HB := Lib.hid hb
  clear hb
  go_wp2_with fail
  go_ret
  exact ⟨rfl, HB.out⟩
theorem run_strs3 {dst : Option Tmp} {x0 x1 x2 : Operand} {ty : TypeId} {pos : String} {af : Array Edge} {gd : Option (Nat × Bool)} {a : Act} {w : World} {s0 s1 s2 : ByteArray} (h0 : a.eval x0 = .string s0) (h1 : a.eval x1 = .string s1) (h2 : a.eval x2 = .string s2) :
    (execOp a.eval ⟨dst, .buildSlice 63 3 #[(0, x0), (1, x1), (2, x2)], ty, pos, af, gd⟩).run Tryz.prog w = .ok (.value (.slice (some ⟨w.heap.size, 0, none⟩) 3 3)) (w.alloc (.cells #[.string s0, .string s1, .string s2] 9)) := by
  obtain ⟨i0, hi, hz0, hz1, hz2⟩ := info_parts infoStr
  have hrun : (Instr.buildSlice 63 3 #[(0, .string s0), (1, .string s1), (2, .string s2)]).run Tryz.prog w = .ok (.slice (some ⟨w.heap.size, 0, none⟩) 3 3) (w.alloc (.cells #[.string s0, .string s1, .string s2] 9)) := by
    refine run_buildSlice w 63 9 3 _ #[.string s0, .string s1, .string s2] i0 (.string ⟨#[]⟩) Tryz.underlying63 hi hz0 (by rw [hz1]; decide) (by rw [hz1]; decide) ?_
    rw [hz1]
    simp [Instr.fill, Value.cells]
    apply Array.toList_inj.1
    simp [List.range_succ]
  simp [execOp, h0, h1, h2, hrun, Result.andThen]
theorem opC_strs3 {dst : Option Tmp} {x0 x1 x2 : Operand} {ty : TypeId} {pos : String} {af : Array Edge} {gd : Option (Nat × Bool)} {a : Act} {w : World} {K : Value → World → Prop} {s0 s1 s2 : ByteArray} (h0 : a.eval x0 = .string s0) (h1 : a.eval x1 = .string s1) (h2 : a.eval x2 = .string s2)
    (hk : K (.slice (some ⟨w.heap.size, 0, none⟩) 3 3) (w.alloc (.cells #[.string s0, .string s1, .string s2] 9))) : opC Tryz.prog ⟨dst, .buildSlice 63 3 #[(0, x0), (1, x1), (2, x2)], ty, pos, af, gd⟩ a w K := by
  constructor
  rw [run_strs3 h0 h1 h2]
  exact hk
theorem wpl_strs3 {ops : Array Oper} {rest : List Oper} {Q : Exit → Act → World → Prop} {dst : Option Tmp} {x0 x1 x2 : Operand} {ty : TypeId} {pos : String} {af : Array Edge} {a : Act} {w : World} {s0 s1 s2 : ByteArray} (h0 : a.eval x0 = .string s0) (h1 : a.eval x1 = .string s1) (h2 : a.eval x2 = .string s2)
    (h : wpList Tryz.prog ops Q rest (a.put dst (.slice (some ⟨w.heap.size, 0, none⟩) 3 3)) (w.alloc (.cells #[.string s0, .string s1, .string s2] 9))) : wpList Tryz.prog ops Q (⟨dst, .buildSlice 63 3 #[(0, x0), (1, x1), (2, x2)], ty, pos, af, none⟩ :: rest) a w :=
  wpList_plain rfl fun K hK => by
    unfold Oper.wp
    rw [run_strs3 h0 h1 h2]
    exact hK _ _ h
theorem joined3 {s0 s1 s2 : ByteArray} (hl : (Lib.join (([s0, s1, s2] : List ByteArray).map (·.data.toList)) [32]).length ≤ 140737488355328) {v : Value} {W : World} (hv : (strsF 3 #[.string s0, .string s1, .string s2]).p v W) :
    Calls Tryz.prog 43 #[v] W (Ret (.string (sps [s0, s1, s2])) W) := by
  obtain ⟨g, rfl, hg⟩ := hv
  have hJ := Lib.hid (Tryz.strings_Join g 0 3 [s0, s1, s2] ⟨#[32]⟩ W (fun j x hj => by
    rw [hg.cell, Nat.zero_add]
    rcases j with _ | _ | _ | j
    all_goals first | (simp only [List.getElem?_cons_zero, List.getElem?_cons_succ, Option.some.injEq] at hj; subst hj; rfl) | (simp at hj)) hg.lt (by simp) (by simp) hl)
  clear hg hl
  go_enter Tryz.func43, Tryz.ntmps43
  go_wp2_with fail
  refine hJ.out.mono ?_
  rintro e w1 ⟨rfl, hb⟩
  have HB := Lib.hid hb
  clear hb
  go_wp2_with fail
  go_ret
  exact ⟨rfl, HB.out⟩
theorem run_strs4 {dst : Option Tmp} {x0 x1 x2 x3 : Operand} {ty : TypeId} {pos : String} {af : Array Edge} {gd : Option (Nat × Bool)} {a : Act} {w : World} {s0 s1 s2 s3 : ByteArray} (h0 : a.eval x0 = .string s0) (h1 : a.eval x1 = .string s1) (h2 : a.eval x2 = .string s2) (h3 : a.eval x3 = .string s3) :
    (execOp a.eval ⟨dst, .buildSlice 63 4 #[(0, x0), (1, x1), (2, x2), (3, x3)], ty, pos, af, gd⟩).run Tryz.prog w = .ok (.value (.slice (some ⟨w.heap.size, 0, none⟩) 4 4)) (w.alloc (.cells #[.string s0, .string s1, .string s2, .string s3] 9)) := by
  obtain ⟨i0, hi, hz0, hz1, hz2⟩ := info_parts infoStr
  have hrun : (Instr.buildSlice 63 4 #[(0, .string s0), (1, .string s1), (2, .string s2), (3, .string s3)]).run Tryz.prog w = .ok (.slice (some ⟨w.heap.size, 0, none⟩) 4 4) (w.alloc (.cells #[.string s0, .string s1, .string s2, .string s3] 9)) := by
    refine run_buildSlice w 63 9 4 _ #[.string s0, .string s1, .string s2, .string s3] i0 (.string ⟨#[]⟩) Tryz.underlying63 hi hz0 (by rw [hz1]; decide) (by rw [hz1]; decide) ?_
    rw [hz1]
    simp [Instr.fill, Value.cells]
    apply Array.toList_inj.1
    simp [List.range_succ]
  simp [execOp, h0, h1, h2, h3, hrun, Result.andThen]
theorem opC_strs4 {dst : Option Tmp} {x0 x1 x2 x3 : Operand} {ty : TypeId} {pos : String} {af : Array Edge} {gd : Option (Nat × Bool)} {a : Act} {w : World} {K : Value → World → Prop} {s0 s1 s2 s3 : ByteArray} (h0 : a.eval x0 = .string s0) (h1 : a.eval x1 = .string s1) (h2 : a.eval x2 = .string s2) (h3 : a.eval x3 = .string s3)
    (hk : K (.slice (some ⟨w.heap.size, 0, none⟩) 4 4) (w.alloc (.cells #[.string s0, .string s1, .string s2, .string s3] 9))) : opC Tryz.prog ⟨dst, .buildSlice 63 4 #[(0, x0), (1, x1), (2, x2), (3, x3)], ty, pos, af, gd⟩ a w K := by
  constructor
  rw [run_strs4 h0 h1 h2 h3]
  exact hk
theorem wpl_strs4 {ops : Array Oper} {rest : List Oper} {Q : Exit → Act → World → Prop} {dst : Option Tmp} {x0 x1 x2 x3 : Operand} {ty : TypeId} {pos : String} {af : Array Edge} {a : Act} {w : World} {s0 s1 s2 s3 : ByteArray} (h0 : a.eval x0 = .string s0) (h1 : a.eval x1 = .string s1) (h2 : a.eval x2 = .string s2) (h3 : a.eval x3 = .string s3)
    (h : wpList Tryz.prog ops Q rest (a.put dst (.slice (some ⟨w.heap.size, 0, none⟩) 4 4)) (w.alloc (.cells #[.string s0, .string s1, .string s2, .string s3] 9))) : wpList Tryz.prog ops Q (⟨dst, .buildSlice 63 4 #[(0, x0), (1, x1), (2, x2), (3, x3)], ty, pos, af, none⟩ :: rest) a w :=
  wpList_plain rfl fun K hK => by
    unfold Oper.wp
    rw [run_strs4 h0 h1 h2 h3]
    exact hK _ _ h
theorem joined4 {s0 s1 s2 s3 : ByteArray} (hl : (Lib.join (([s0, s1, s2, s3] : List ByteArray).map (·.data.toList)) [32]).length ≤ 140737488355328) {v : Value} {W : World} (hv : (strsF 4 #[.string s0, .string s1, .string s2, .string s3]).p v W) :
    Calls Tryz.prog 43 #[v] W (Ret (.string (sps [s0, s1, s2, s3])) W) := by
  obtain ⟨g, rfl, hg⟩ := hv
  have hJ := Lib.hid (Tryz.strings_Join g 0 4 [s0, s1, s2, s3] ⟨#[32]⟩ W (fun j x hj => by
    rw [hg.cell, Nat.zero_add]
    rcases j with _ | _ | _ | _ | j
    all_goals first | (simp only [List.getElem?_cons_zero, List.getElem?_cons_succ, Option.some.injEq] at hj; subst hj; rfl) | (simp at hj)) hg.lt (by simp) (by simp) hl)
  clear hg hl
  go_enter Tryz.func43, Tryz.ntmps43
  go_wp2_with fail
  refine hJ.out.mono ?_
  rintro e w1 ⟨rfl, hb⟩
  have HB := Lib.hid hb
  clear hb
  go_wp2_with fail
  go_ret
  exact ⟨rfl, HB.out⟩
theorem run_strs5 {dst : Option Tmp} {x0 x1 x2 x3 x4 : Operand} {ty : TypeId} {pos : String} {af : Array Edge} {gd : Option (Nat × Bool)} {a : Act} {w : World} {s0 s1 s2 s3 s4 : ByteArray} (h0 : a.eval x0 = .string s0) (h1 : a.eval x1 = .string s1) (h2 : a.eval x2 = .string s2) (h3 : a.eval x3 = .string s3) (h4 : a.eval x4 = .string s4) :
    (execOp a.eval ⟨dst, .buildSlice 63 5 #[(0, x0), (1, x1), (2, x2), (3, x3), (4, x4)], ty, pos, af, gd⟩).run Tryz.prog w = .ok (.value (.slice (some ⟨w.heap.size, 0, none⟩) 5 5)) (w.alloc (.cells #[.string s0, .string s1, .string s2, .string s3, .string s4] 9)) := by
  obtain ⟨i0, hi, hz0, hz1, hz2⟩ := info_parts infoStr
  have hrun : (Instr.buildSlice 63 5 #[(0, .string s0), (1, .string s1), (2, .string s2), (3, .string s3), (4, .string s4)]).run Tryz.prog w = .ok (.slice (some ⟨w.heap.size, 0, none⟩) 5 5) (w.alloc (.cells #[.string s0, .string s1, .string s2, .string s3, .string s4] 9)) := by
    refine run_buildSlice w 63 9 5 _ #[.string s0, .string s1, .string s2, .string s3, .string s4] i0 (.string ⟨#[]⟩) Tryz.underlying63 hi hz0 (by rw [hz1]; decide) (by rw [hz1]; decide) ?_
    rw [hz1]
    simp [Instr.fill, Value.cells]
    apply Array.toList_inj.1
    simp [List.range_succ]
  simp [execOp, h0, h1, h2, h3, h4, hrun, Result.andThen]
theorem opC_strs5 {dst : Option Tmp} {x0 x1 x2 x3 x4 : Operand} {ty : TypeId} {pos : String} {af : Array Edge} {gd : Option (Nat × Bool)} {a : Act} {w : World} {K : Value → World → Prop} {s0 s1 s2 s3 s4 : ByteArray} (h0 : a.eval x0 = .string s0) (h1 : a.eval x1 = .string s1) (h2 : a.eval x2 = .string s2) (h3 : a.eval x3 = .string s3) (h4 : a.eval x4 = .string s4)
    (hk : K (.slice (some ⟨w.heap.size, 0, none⟩) 5 5) (w.alloc (.cells #[.string s0, .string s1, .string s2, .string s3, .string s4] 9))) : opC Tryz.prog ⟨dst, .buildSlice 63 5 #[(0, x0), (1, x1), (2, x2), (3, x3), (4, x4)], ty, pos, af, gd⟩ a w K := by
  constructor
  rw [run_strs5 h0 h1 h2 h3 h4]
  exact hk
theorem wpl_strs5 {ops : Array Oper} {rest : List Oper} {Q : Exit → Act → World → Prop} {dst : Option Tmp} {x0 x1 x2 x3 x4 : Operand} {ty : TypeId} {pos : String} {af : Array Edge} {a : Act} {w : World} {s0 s1 s2 s3 s4 : ByteArray} (h0 : a.eval x0 = .string s0) (h1 : a.eval x1 = .string s1) (h2 : a.eval x2 = .string s2) (h3 : a.eval x3 = .string s3) (h4 : a.eval x4 = .string s4)
    (h : wpList Tryz.prog ops Q rest (a.put dst (.slice (some ⟨w.heap.size, 0, none⟩) 5 5)) (w.alloc (.cells #[.string s0, .string s1, .string s2, .string s3, .string s4] 9))) : wpList Tryz.prog ops Q (⟨dst, .buildSlice 63 5 #[(0, x0), (1, x1), (2, x2), (3, x3), (4, x4)], ty, pos, af, none⟩ :: rest) a w :=
  wpList_plain rfl fun K hK => by
    unfold Oper.wp
    rw [run_strs5 h0 h1 h2 h3 h4]
    exact hK _ _ h
theorem joined5 {s0 s1 s2 s3 s4 : ByteArray} (hl : (Lib.join (([s0, s1, s2, s3, s4] : List ByteArray).map (·.data.toList)) [32]).length ≤ 140737488355328) {v : Value} {W : World} (hv : (strsF 5 #[.string s0, .string s1, .string s2, .string s3, .string s4]).p v W) :
    Calls Tryz.prog 43 #[v] W (Ret (.string (sps [s0, s1, s2, s3, s4])) W) := by
  obtain ⟨g, rfl, hg⟩ := hv
  have hJ := Lib.hid (Tryz.strings_Join g 0 5 [s0, s1, s2, s3, s4] ⟨#[32]⟩ W (fun j x hj => by
    rw [hg.cell, Nat.zero_add]
    rcases j with _ | _ | _ | _ | _ | j
    all_goals first | (simp only [List.getElem?_cons_zero, List.getElem?_cons_succ, Option.some.injEq] at hj; subst hj; rfl) | (simp at hj)) hg.lt (by simp) (by simp) hl)
  clear hg hl
  go_enter Tryz.func43, Tryz.ntmps43
  go_wp2_with fail
  refine hJ.out.mono ?_
  rintro e w1 ⟨rfl, hb⟩
  have HB := Lib.hid hb
  clear hb
  go_wp2_with fail
  go_ret
  exact ⟨rfl, HB.out⟩
theorem len3 {a b c : ByteArray} (ha : a.data.toList.length ≤ 400) (hb : b.data.toList.length ≤ 400) (hc : c.data.toList.length ≤ 400) : (Lib.join (([a, b, c] : List ByteArray).map (·.data.toList)) [32]).length ≤ 140737488355328 := by
  simp only [List.map_cons, List.map_nil, Lib.join_cons, Lib.joinTail, List.flatten_cons, List.flatten_nil, List.length_append, List.length_cons, List.length_nil]
  omega
theorem len4 {a b c d : ByteArray} (ha : a.data.toList.length ≤ 400) (hb : b.data.toList.length ≤ 400) (hc : c.data.toList.length ≤ 400) (hd : d.data.toList.length ≤ 400) : (Lib.join (([a, b, c, d] : List ByteArray).map (·.data.toList)) [32]).length ≤ 140737488355328 := by
  simp only [List.map_cons, List.map_nil, Lib.join_cons, Lib.joinTail, List.flatten_cons, List.flatten_nil, List.length_append, List.length_cons, List.length_nil]
  omega
theorem len5 {a b c d e : ByteArray} (ha : a.data.toList.length ≤ 400) (hb : b.data.toList.length ≤ 400) (hc : c.data.toList.length ≤ 400) (hd : d.data.toList.length ≤ 400) (he : e.data.toList.length ≤ 400) : (Lib.join (([a, b, c, d, e] : List ByteArray).map (·.data.toList)) [32]).length ≤ 140737488355328 := by
  simp only [List.map_cons, List.map_nil, Lib.join_cons, Lib.joinTail, List.flatten_cons, List.flatten_nil, List.length_append, List.length_cons, List.length_nil]
  omega
def boardS : ByteArray := ⟨#[98, 111, 97, 114, 100]⟩
def revS : ByteArray := ⟨#[114, 101, 118, 101, 114, 115, 101]⟩
def stepS : ByteArray := ⟨#[115, 116, 101, 112]⟩
/-- An order's text. -/
def Ord.text (o : Ord) : ByteArray :=
  if o.k = 1 then sps [boardS, dec o.a, o.t.text]
  else if o.k = 3 then sps [revS, dec o.a, dec o.e.s]
  else if o.k = 4 then stepS
  else if o.e.k = 7 then sps [kindS o.e.k, dec o.a, dec o.e.s, dayText o.e.d]
  else sps [kindS o.e.k, dec o.a, dec o.e.s, dayText o.e.d, textC o.e.m]
theorem kindS_len (k : Nat) : (kindS k).data.toList.length ≤ 30 := by
  unfold kindS
  repeat (split; · decide)
  decide
end Go.Proofs.YtjlajnackecfgaaGreatDoor
