/-
  The document's example; a cut row; what is taken is what was laid. Conditions: the bytes are there.
-/
import Derived.Test.YtbfekonlgbolcabQuK
namespace Go.Proofs.Ytbfekonlgbolcab
open Go.RowKit

theorem own_len {w : World} {base : Nat} {v : Value} {n : Nat} {l : List UInt8} (h : OwnB w base v n l) : l.length = n := by
  have := h.1
  simpa using this

set_option maxHeartbeats 1000000 in
theorem CutO_any (A : Option Addr) (n c B most : Nat) (l : List UInt8) (w : World) (hR : Rd w B A l) (hn : l.length = n) (hm : n ≤ 140737488355328) (hmost : most ≤ 140737488355328) (hB : B ≤ w.heap.size) :
    Calls Try.prog 14 #[.slice A n c, .int .i64 most] w (ClPost w (l.take most)) := by
  subst hn
  go_enter Try.func14, Try.ntmps14
  go_wp2
  go_loopw [5, 10] (fun v i wr => ∃ k : Nat, k ≤ l.length ∧ i = .int .i64 k ∧ OwnB wr w.heap.size v (min k most) (l.take (min k most)) ∧ Below w.heap.size w wr) (fun _ i _ => l.length - (intOf i).toNat)
  case atStart => exact ⟨0, Nat.zero_le _, rfl, by simpa using OwnB.nil_ _ _, Below.refl _ _⟩
  case round =>
    obtain ⟨k, hk, rfl, hown, hbl⟩ := hrel
    by_cases hlt : k < l.length
    · obtain ⟨b, o, rfl, hb, hc0⟩ := hR.at_ hlt
      have hc := (hbl.cell (p := ⟨b, o + k, none⟩) (by exact Nat.lt_of_lt_of_le hb hB)).trans hc0
      have hsz := hbl.size
      by_cases hmk : k < most
      · rw [Nat.min_eq_left (by omega : k ≤ most)] at hown
        have HO := Lib.hid (hown.alloc (.cells #[.int .u8 ((l[k]).toNat : Int)] 5))
        have HT := Lib.hid (show l.take k ++ [l[k]] = l.take (min (k + 1) most) from by rw [Nat.min_eq_left (by omega), List.take_succ_eq_append_getElem hlt])
        have HR1 := Lib.hid (rd_one wr l[k])
        clear hown
        go_wp2_with (with_reducible refine wpList_append_bytes (o := ⟨some 21, _, _, _, _, _⟩) rfl (.tmp 18) (.tmp 20) rfl w.heap.size _ k (l.take k) ?h1 HO.out (wr.heap.size + 1) (some ⟨wr.heap.size, 0, none⟩) 1 1 [l[k]] ?h2 HR1.out rfl ?h3 ?h4 ?_)
        case h1 => rfl
        case h2 => rfl
        case h3 => omega
        case h4 => simp; omega
        intro v' w1 hown' hg
        have hbl' := hg.below HO.out (hbl.alloc hsz _) (Nat.le_refl _) (by simp; omega)
        have HO' := Lib.hid hown'
        clear hown' hg
        go_wp2
        go_roundw
        case rel => exact ⟨k + 1, by omega, by go_num, by rw [Nat.min_eq_left (by omega)]; simpa using HO'.out, hbl'⟩
        case measure => simp [intOf]; omega
      · have e1 : min k most = most := Nat.min_eq_right (by omega)
        have e2 : min (k + 1) most = most := Nat.min_eq_right (by omega)
        have HE := Lib.hid e1
        have HE2 := Lib.hid e2
        have HO := Lib.hid hown
        clear hown e1 e2
        go_wp2
        go_roundw
        case rel => exact ⟨k + 1, by omega, by go_num, by rw [HE2.out]; have h := HO.out; rw [HE.out] at h; exact h, hbl⟩
        case measure => simp [intOf]; omega
    · have HO := Lib.hid hown
      clear hown
      go_wp2
      go_ret
      have h := HO.out
      have e : l.take (min k most) = l.take most := by
        obtain rfl : k = l.length := by omega
        rcases Nat.le_total l.length most with h1 | h1
        · rw [Nat.min_eq_left h1, List.take_of_length_le (Nat.le_refl _), List.take_of_length_le h1]
        · rw [Nat.min_eq_right h1]
      rw [e] at h
      have hl := own_len h
      exact ⟨_, rfl, by rw [hl]; exact h, hbl⟩

theorem takeU_some {most : Nat} {l : List UInt8} {n : Nat} {r : List UInt8} (h : takeU most l = some (n, r)) : numT l = some (false, n, r) ∧ n ≤ most := by
  unfold takeU at h
  split at h
  · rename_i heq
    split at h
    · simp only [Option.some.injEq, Prod.mk.injEq] at h
      obtain ⟨rfl, rfl⟩ := h
      exact ⟨heq, by assumption⟩
    · cases h
  · cases h
theorem uV_of {most : Nat} {l : List UInt8} {n : Nat} {r : List UInt8} (h : takeU most l = some (n, r)) : uV most (some l) = n := by unfold uV; simp [h]
theorem uS_inv {most : Nat} {l : List UInt8} {r : List UInt8} (h : uS most (some l) = some r) : ∃ n, takeU most l = some (n, r) := by
  unfold uS at h
  simp only [Option.bind_some] at h
  cases ht : takeU most l with
  | none => rw [ht] at h; cases h
  | some x =>
    obtain ⟨n, r'⟩ := x
    rw [ht] at h
    simp only [Option.some.injEq] at h
    subst h
    exact ⟨n, rfl⟩
theorem zero_in : (-9223372036854775808 : Int) ≤ 0 ∧ (0 : Int) ≤ 9223372036854775807 := by decide
theorem no_size : (⟨#[]⟩ : ByteArray).size ≤ 1000 := by decide
theorem zero_lt : (0 : Nat) < 18446744073709551616 := by decide
/-- What was taken is what is laid of it. -/
theorem take_lay {l r : List UInt8} {v : Val} (h : takeR (some l) v = some r) : l = layV (takeO (some l) v) ++ r := by
  unfold takeR at h
  unfold takeO layV
  by_cases h0 : v.k % 4 = 0
  · rw [if_pos h0] at h
    rw [if_pos h0]
    simp only
    rw [if_pos h0]
    obtain ⟨n, ht⟩ := uS_inv h
    rw [uV_of ht]
    exact numT_one (takeU_some ht).1
  rw [if_neg h0] at h
  rw [if_neg h0]
  by_cases h1 : v.k % 4 = 1
  · rw [if_pos h1] at h
    rw [if_pos h1]
    simp only
    rw [if_neg h0, if_pos h1]
    unfold iS at h
    unfold iV
    simp only [Option.bind_some] at h ⊢
    cases ht : takeI l with
    | none => rw [ht] at h; cases h
    | some x =>
      obtain ⟨n, r'⟩ := x
      rw [ht] at h
      simp only [Option.some.injEq] at h
      subst h
      simp only
      unfold takeI at ht
      split at ht
      · rename_i m k s heq
        split at ht
        · simp only [Option.some.injEq, Prod.mk.injEq] at ht
          obtain ⟨rfl, rfl⟩ := ht
          have := numT_one heq
          cases m with
          | true =>
            simp only [if_true] at this ⊢
            unfold layI
            rw [if_neg (by omega), show (-1 - (-1 - (k : Int))).toNat = k by omega]
            exact this
          | false =>
            simp only [Bool.false_eq_true, if_false] at this ⊢
            unfold layI
            rw [if_pos (by omega), Int.toNat_natCast]
            exact this
        · cases ht
      · cases ht
  rw [if_neg h1] at h
  rw [if_neg h1]
  by_cases h2 : v.k % 4 = 2
  · rw [if_pos h2] at h
    rw [if_pos h2]
    simp only
    rw [if_neg h0, if_neg h1, if_pos h2]
    obtain ⟨n, ht⟩ := uS_inv h
    rw [uV_of ht]
    obtain ⟨g1, g2⟩ := takeU_some ht
    have := numT_one g1
    rcases (show n = 0 ∨ n = 1 by omega) with rfl | rfl
    · exact this
    · exact this
  rw [if_neg h2] at h
  rw [if_neg h2]
  simp only
  rw [if_neg h0, if_neg h1, if_neg h2]
  unfold tS at h
  unfold tV
  simp only [Option.bind_some] at h ⊢
  cases ht : takeS (v.m % 1000) l with
  | none => rw [ht] at h; cases h
  | some x =>
    obtain ⟨t, r'⟩ := x
    rw [ht] at h
    simp only [Option.some.injEq] at h
    subst h
    simp only
    unfold takeS at ht
    split at ht
    · rename_i n s heq
      split at ht
      · rename_i hle
        simp only [Option.some.injEq, Prod.mk.injEq] at ht
        obtain ⟨rfl, rfl⟩ := ht
        have := numT_one (takeU_some heq).1
        unfold layT
        rw [List.length_take, Nat.min_eq_left hle, List.append_assoc, List.take_append_drop]
        exact this
      · cases ht
    · cases ht
theorem takeR_none (v : Val) : takeR none v = none := by
  unfold takeR uS iS tS
  simp only [Option.bind_none]
  split <;> (try split) <;> (try split) <;> rfl
theorem uV_lt (most : Nat) (st : Option (List UInt8)) : uV most st < 18446744073709551616 := by
  cases st with
  | none => exact zero_lt
  | some l =>
    cases ht : takeU most l with
    | none =>
      have : uV most (some l) = 0 := by unfold uV; simp [ht]
      rw [this]
      exact zero_lt
    | some x =>
      obtain ⟨n, r⟩ := x
      rw [uV_of ht]
      exact (numT_lt (takeU_some ht).1).1
theorem iV_in (st : Option (List UInt8)) : -9223372036854775808 ≤ iV st ∧ iV st ≤ 9223372036854775807 := by
  unfold iV
  cases st with
  | none => decide
  | some l =>
    simp only [Option.bind_some]
    cases ht : takeI l with
    | none => decide
    | some x =>
      obtain ⟨n, r⟩ := x
      simp only
      unfold takeI at ht
      split at ht
      · rename_i m k s heq
        split at ht
        · simp only [Option.some.injEq, Prod.mk.injEq] at ht
          obtain ⟨rfl, rfl⟩ := ht
          cases m <;> simp <;> omega
        · cases ht
      · cases ht
theorem tV_size (most : Nat) (st : Option (List UInt8)) : (tV most st).size ≤ most := by
  unfold tV
  cases st with
  | none => simp [ByteArray.size]
  | some l =>
    simp only [Option.bind_some]
    cases ht : takeS most l with
    | none => simp [ByteArray.size]
    | some x =>
      obtain ⟨t, r⟩ := x
      simp only
      unfold takeS at ht
      split at ht
      · rename_i n s heq
        split at ht
        · simp only [Option.some.injEq, Prod.mk.injEq] at ht
          obtain ⟨rfl, rfl⟩ := ht
          have := (takeU_some heq).2
          show (s.take n).toArray.size ≤ most
          simp
          omega
        · cases ht
      · cases ht
theorem takeO_ok {v : Val} (hv : v.Ok) (st : Option (List UInt8)) : (takeO st v).Ok := by
  unfold takeO
  have h1 := uV_lt v.m st
  have h2 := iV_in st
  have h3 := tV_size (v.m % 1000) st
  split
  · exact ⟨hv.k, h1, zero_in, no_size, zero_lt⟩
  · split
    · exact ⟨hv.k, zero_lt, h2, no_size, zero_lt⟩
    · split
      · exact ⟨hv.k, by show (if uV 1 st = 1 then 1 else 0) < _; split <;> decide, zero_in, no_size, zero_lt⟩
      · exact ⟨hv.k, zero_lt, zero_in, by show (tV (v.m % 1000) st).size ≤ 1000; omega, zero_lt⟩
theorem layN_len (m n : Nat) (hn : n < 18446744073709551616) : (layN m n).length ≤ 9 := by
  unfold layN
  rw [List.length_cons, digs_len]
  have := nb_le n hn
  omega
theorem layV_len {v : Val} (hv : v.Ok) : (layV v).length ≤ 1009 := by
  unfold layV
  split
  · have := layN_len 0 v.u hv.u; omega
  · split
    · unfold layI
      have h := hv.i
      split
      · have := layN_len 0 v.i.toNat (by omega); omega
      · have := layN_len 128 (-1 - v.i).toNat (by omega); omega
    · split
      · unfold layF
        have := layN_len 0 (if (v.u % 2 == 1) = true then 1 else 0) (by split <;> decide)
        omega
      · unfold layT
        have h := hv.s
        have e : v.s.data.toList.length = v.s.size := by simp
        rw [List.length_append, e]
        have := layN_len 0 v.s.size (by omega)
        omega
theorem awake_bytes : ([] ++ layN 0 300) ++ layI (-1) = [2, 1, 44, 128] := by decide
theorem awake_num : uV 300 (some [2, 1, 44, 128]) = 300 := by decide

set_option maxRecDepth 20000 in
set_option maxHeartbeats 1000000 in
theorem awake8 (w : World) : Calls Try.prog 5 #[] w fun e w' => e = .returned (.bool true) ∧ Below w.heap.size w w' := by
  have hq0 : Qu (w.alloc (.cells #[.slice none 0 0] 26)) w.heap.size w.heap.size none [] := Qu.new (Nat.le_refl _)
  have hb0 : Below w.heap.size w (w.alloc (.cells #[.slice none 0 0] 26)) := (Below.refl _ w).alloc (Nat.le_refl _) _
  have hU := QUint_any w.heap.size w.heap.size none [] 300 (by decide) (by decide) _ hq0
  have HU := Lib.hid hU
  have HB0 := Lib.hid hb0
  clear hq0 hU hb0
  go_enter Try.func5, Try.ntmps5
  go_wp2_with fail
  refine HU.out.mono ?_
  rintro e w1 ⟨rfl, ⟨r1, h1, hs1⟩, hf1⟩
  have hb1 := hf1.to_below HB0.out HB0.out.size (Nat.le_refl _) (fun g hg => nomatch hg)
  have hI := QInt_any w.heap.size w.heap.size r1 _ (-1) (by decide) (by decide) w1 h1
  have hr1 := h1.row
  have HI := Lib.hid hI
  have HB1 := Lib.hid hb1
  have HR1 := Lib.hid hr1
  clear h1 hs1 hf1 hb1 hI hr1 HU HB0
  go_wp2_with fail
  refine HI.out.mono ?_
  rintro e w2 ⟨rfl, ⟨r2, h2, hs2⟩, hf2⟩
  have hb2 := hf2.to_below HB1.out HB1.out.size (Nat.le_refl _) (fun g hg => (HR1.out g hg).1)
  rw [awake_bytes] at h2
  have hD := QDone_any w.heap.size w.heap.size r2 _ (by decide) w2 h2
  have HD := Lib.hid hD
  have HB2 := Lib.hid hb2
  clear h2 hs2 hf2 hb2 hD HI HB1 HR1
  go_wp2_with fail
  refine HD.out.mono ?_
  rintro e w3 ⟨⟨A, g, rfl, hA, hg, hrg⟩, hb3⟩
  have hb3' := HB2.out.trans (hb3.mono HB2.out.size)
  have hL := Look_any A 4 4 (w3.alloc (.cells #[.int .u8 2, .int .u8 1, .int .u8 44, .int .u8 128] 5)).heap.size [2, 1, 44, 128]
  have HRG := Lib.hid hrg
  have HB3 := Lib.hid hb3'
  have HA := Lib.hid hA
  have hS := Same_any A (some ⟨w3.heap.size, 0, none⟩) 4 4 (w3.heap.size) 4 4 (w3.heap.size + 1) [2, 1, 44, 128] [2, 1, 44, 128] (w3.alloc (.cells #[.int .u8 2, .int .u8 1, .int .u8 44, .int .u8 128] 5)) (hrg.rd.alloc (Nat.le_refl _) _) rfl (by decide) (blk_rd (Blk.new w3 5 _) (by omega)) rfl (by decide)
  have HS := Lib.hid hS
  clear hrg hb3 hb3' hA hL hS HD HB2
  go_wp2_with fail
  refine HS.out.mono ?_
  rintro e w4 ⟨rfl, nq, rfl⟩
  have hb4 : Below w.heap.size w ((w3.alloc (.cells #[.int .u8 2, .int .u8 1, .int .u8 44, .int .u8 128] 5)).drewN nq) := below_drewN (HB3.out.alloc HB3.out.size _) nq
  have hrd : Rd ((w3.alloc (.cells #[.int .u8 2, .int .u8 1, .int .u8 44, .int .u8 128] 5)).drewN nq) w3.heap.size A [2, 1, 44, 128] := (HRG.out.rd.alloc (Nat.le_refl _) _).drewN nq
  obtain ⟨w5, hw5⟩ : ∃ W, (w3.alloc (.cells #[.int .u8 2, .int .u8 1, .int .u8 44, .int .u8 128] 5)).drewN nq = W := ⟨_, rfl⟩
  have hsz : w3.heap.size ≤ w5.heap.size := by
    rw [← hw5]
    show w3.heap.size ≤ (w3.alloc _).heap.size
    simp
  rw [hw5] at hb4 hrd
  rw [hw5]
  have hK := Look_any A 4 4 w3.heap.size [2, 1, 44, 128] w5 hrd rfl (by decide) hsz (fun e => by have := HA.out e; simp at this)
  have HK := Lib.hid hK
  have HB4 := Lib.hid hb4
  clear hb4 hrd hw5 hK HS HRG HA
  rw [decide_eq_true trivial]
  go_wp2_with fail
  refine HK.out.mono ?_
  rintro e w6 ⟨b, g2, rfl, hbb, hgg, _, hln, hb6⟩
  have hN := LUint_any b g2 300 (by decide) _ w6 hln
  have HN := Lib.hid hN
  have HB6 := Lib.hid (HB4.out.trans (hb6.mono HB4.out.size))
  have HBB := Lib.hid (Nat.le_trans HB4.out.size hbb)
  have HSZ := Lib.hid hsz
  clear hN hln hb6 HK HB4
  go_wp2_with fail
  refine HN.out.mono ?_
  rintro e w7 ⟨rfl, _, hf7⟩
  have HB7 := Lib.hid (hf7.to_below HB6.out HB6.out.size HBB.out (fun g hg => nomatch hg))
  clear hf7
  rw [awake_num]
  go_wp2_with fail
  go_ret
  exact ⟨rfl, HB7.out⟩
end Go.Proofs.Ytbfekonlgbolcab
