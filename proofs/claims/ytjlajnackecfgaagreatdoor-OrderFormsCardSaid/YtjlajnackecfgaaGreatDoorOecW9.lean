/-
The law's few, take whole, the document's example. Conditions: the values are there.
The document's example; a cut row; what is taken is what was laid. Conditions: the bytes are there.
Rows of bytes that are joined, cut, bent, compared; three rows in a row. Condition: the bytes are there.
OrderForms: the law's walk. Conditions: the numbers' kinds, what is laid.
-/
import Derived.Test.YtjlajnackecfgaaGreatDoorOeaW9
import Derived.Test.YtjlajnackecfgaaGreatDoorSameW9
import Derived.Test.YtjlajnackecfgaaGreatDoorByFW9
import Derived.IntWalk
import Derived.Laws.Closers25b
import Derived.Test.YtjlajnackecfgaaGreatDoorOebW9
import Derived.Test.YtjlajnackecfgaaGreatDoorCodeCW9
import Derived.Test.YtjlajnackecfgaaGreatDoorOdMW9
namespace Go.Proofs.YtjlajnackecfgaaGreatDoor
open Go.ChangeShapes Go.WideShapes Go.ChangeAt Go.RowKit

set_option maxRecDepth 20000 in
set_option maxHeartbeats 1000000 in
theorem Text40_any (s : ByteArray) (hs : s.size ≤ maxLen) (w : World) :
    Calls Tryz.prog 18 #[.string s, .int .i64 40] w fun e w' => (∃ s' : ByteArray, s'.size ≤ 40 ∧ e = .returned (.string s')) ∧ w = w' := by
  unfold maxLen at hs
  by_cases h : s.size ≤ 40
  · have h2 : min (s.size : Int) 40 = (s.size : Int) := by omega
    go_enter Tryz.func18, Tryz.ntmps18
    go_wp2_with fail
    go_ret
    refine ⟨⟨_, ?_, rfl⟩, rfl⟩
    first | exact h | (simp [ByteArray.size_extract] <;> omega)
  · go_enter Tryz.func18, Tryz.ntmps18
    go_wp2_with fail
    go_ret
    refine ⟨⟨_, ?_, rfl⟩, rfl⟩
    first | exact h | (simp [ByteArray.size_extract] <;> omega)

section
variable (b g : Nat)
end

/-- What few leaves of a value. -/
structure Val.Good (v : Val) : Prop where
  ok : v.Ok
  s : v.s.size ≤ 40
  m : v.k % 4 = 3 → v.m < 1000
def FVPost (w : World) (e : Ending) (w' : World) : Prop :=
  ∃ (A : Option Addr) (c : Nat) (l : List Val), e = .returned (.slice A l.length c) ∧ l.length ≤ c ∧ c ≤ maxLen ∧ l.length ≤ 12 ∧ (∀ v ∈ l, v.Good) ∧ Rvs w' w'.heap.size A l ∧ Below w.heap.size w w'

end Go.Proofs.YtjlajnackecfgaaGreatDoor
namespace Go.Proofs.YtjlajnackecfgaaGreatDoor
open Go.RowKit

theorem own_len {w : World} {base : Nat} {v : Value} {n : Nat} {l : List UInt8} (h : OwnB w base v n l) : l.length = n := by
  have := h.1
  simpa using this

set_option maxHeartbeats 1000000 in
theorem CutO_any (A : Option Addr) (n c B most : Nat) (l : List UInt8) (w : World) (hR : Rd w B A l) (hn : l.length = n) (hm : n ≤ 140737488355328) (hmost : most ≤ 140737488355328) (hB : B ≤ w.heap.size) :
    Calls Tryz.prog 8 #[.slice A n c, .int .i64 most] w (ClPost w (l.take most)) := by
  subst hn
  go_enter Tryz.func8, Tryz.ntmps8
  go_wp2
  go_loopw [5, 10] (fun v i wr => ∃ k : Nat, k ≤ l.length ∧ i = .int .i64 k ∧ OwnB wr w.heap.size v (min k most) (l.take (min k most)) ∧ Below w.heap.size w wr) (fun _ i _ => l.length - (intOf i).toNat)
  case atStart => exact ⟨0, Nat.zero_le _, rfl, by simpa using OwnB.nil_ _ _, Below.refl _ _⟩
  case round =>
    obtain ⟨k, hk, rfl, hown, hbl⟩ := hrel
    by_cases hlt : k < l.length
    · obtain ⟨b, o, rfl, hb, hc0⟩ := hR.at_ hlt
      have hc := (hbl.cell (p := ⟨b, o + k, none⟩) (by exact Nat.lt_of_lt_of_le hb hB)).trans hc0
      have hsz := hbl.size
      by_cases hmk : k < most
      · rw [Nat.min_eq_left (by omega : k ≤ most)] at hown
        have HO := Lib.hid (hown.alloc (.cells #[.int .u8 ((l[k]).toNat : Int)] 5))
        have HT := Lib.hid (show l.take k ++ [l[k]] = l.take (min (k + 1) most) from by rw [Nat.min_eq_left (by omega), List.take_succ_eq_append_getElem hlt])
        have HR1 := Lib.hid (rd_one wr l[k])
        clear hown
        go_wp2_with (with_reducible refine wpList_append_bytes (o := ⟨some 21, _, _, _, _, _⟩) rfl (.tmp 18) (.tmp 20) rfl w.heap.size _ k (l.take k) ?h1 HO.out (wr.heap.size + 1) (some ⟨wr.heap.size, 0, none⟩) 1 1 [l[k]] ?h2 HR1.out rfl ?h3 ?h4 ?_)
        case h1 => rfl
        case h2 => rfl
        case h3 => omega
        case h4 => simp; omega
        intro v' w1 hown' hg
        have hbl' := hg.below HO.out (hbl.alloc hsz _) (Nat.le_refl _) (by simp; omega)
        have HO' := Lib.hid hown'
        clear hown' hg
        go_wp2
        go_roundw
        case rel => exact ⟨k + 1, by omega, by go_num, by rw [Nat.min_eq_left (by omega)]; simpa using HO'.out, hbl'⟩
        case measure => simp [intOf]; omega
      · have e1 : min k most = most := Nat.min_eq_right (by omega)
        have e2 : min (k + 1) most = most := Nat.min_eq_right (by omega)
        have HE := Lib.hid e1
        have HE2 := Lib.hid e2
        have HO := Lib.hid hown
        clear hown e1 e2
        go_wp2
        go_roundw
        case rel => exact ⟨k + 1, by omega, by go_num, by rw [HE2.out]; have h := HO.out; rw [HE.out] at h; exact h, hbl⟩
        case measure => simp [intOf]; omega
    · have HO := Lib.hid hown
      clear hown
      go_wp2
      go_ret
      have h := HO.out
      have e : l.take (min k most) = l.take most := by
        obtain rfl : k = l.length := by omega
        rcases Nat.le_total l.length most with h1 | h1
        · rw [Nat.min_eq_left h1, List.take_of_length_le (Nat.le_refl _), List.take_of_length_le h1]
        · rw [Nat.min_eq_right h1]
      rw [e] at h
      have hl := own_len h
      exact ⟨_, rfl, by rw [hl]; exact h, hbl⟩

theorem takeU_some {most : Nat} {l : List UInt8} {n : Nat} {r : List UInt8} (h : takeU most l = some (n, r)) : numT l = some (false, n, r) ∧ n ≤ most := by
  unfold takeU at h
  split at h
  · rename_i heq
    split at h
    · simp only [Option.some.injEq, Prod.mk.injEq] at h
      obtain ⟨rfl, rfl⟩ := h
      exact ⟨heq, by assumption⟩
    · cases h
  · cases h
theorem uV_of {most : Nat} {l : List UInt8} {n : Nat} {r : List UInt8} (h : takeU most l = some (n, r)) : uV most (some l) = n := by unfold uV; simp [h]
theorem uS_inv {most : Nat} {l : List UInt8} {r : List UInt8} (h : uS most (some l) = some r) : ∃ n, takeU most l = some (n, r) := by
  unfold uS at h
  simp only [Option.bind_some] at h
  cases ht : takeU most l with
  | none => rw [ht] at h; cases h
  | some x =>
    obtain ⟨n, r'⟩ := x
    rw [ht] at h
    simp only [Option.some.injEq] at h
    subst h
    exact ⟨n, rfl⟩
theorem zero_inQ : (-9223372036854775808 : Int) ≤ 0 ∧ (0 : Int) ≤ 9223372036854775807 := by decide
theorem no_size : (⟨#[]⟩ : ByteArray).size ≤ 1000 := by decide
theorem zero_lt : (0 : Nat) < 18446744073709551616 := by decide
/-- What was taken is what is laid of it. -/
theorem take_lay {l r : List UInt8} {v : Val} (h : takeR (some l) v = some r) : l = layV (takeO (some l) v) ++ r := by
  unfold takeR at h
  unfold takeO layV
  by_cases h0 : v.k % 4 = 0
  · rw [if_pos h0] at h
    rw [if_pos h0]
    simp only
    rw [if_pos h0]
    obtain ⟨n, ht⟩ := uS_inv h
    rw [uV_of ht]
    exact numT_one (takeU_some ht).1
  rw [if_neg h0] at h
  rw [if_neg h0]
  by_cases h1 : v.k % 4 = 1
  · rw [if_pos h1] at h
    rw [if_pos h1]
    simp only
    rw [if_neg h0, if_pos h1]
    unfold iS at h
    unfold iV
    simp only [Option.bind_some] at h ⊢
    cases ht : takeI l with
    | none => rw [ht] at h; cases h
    | some x =>
      obtain ⟨n, r'⟩ := x
      rw [ht] at h
      simp only [Option.some.injEq] at h
      subst h
      simp only
      unfold takeI at ht
      split at ht
      · rename_i m k s heq
        split at ht
        · simp only [Option.some.injEq, Prod.mk.injEq] at ht
          obtain ⟨rfl, rfl⟩ := ht
          have := numT_one heq
          cases m with
          | true =>
            simp only [if_true] at this ⊢
            unfold layI
            rw [if_neg (by omega), show (-1 - (-1 - (k : Int))).toNat = k by omega]
            exact this
          | false =>
            simp only [Bool.false_eq_true, if_false] at this ⊢
            unfold layI
            rw [if_pos (by omega), Int.toNat_natCast]
            exact this
        · cases ht
      · cases ht
  rw [if_neg h1] at h
  rw [if_neg h1]
  by_cases h2 : v.k % 4 = 2
  · rw [if_pos h2] at h
    rw [if_pos h2]
    simp only
    rw [if_neg h0, if_neg h1, if_pos h2]
    obtain ⟨n, ht⟩ := uS_inv h
    rw [uV_of ht]
    obtain ⟨g1, g2⟩ := takeU_some ht
    have := numT_one g1
    rcases (show n = 0 ∨ n = 1 by omega) with rfl | rfl
    · exact this
    · exact this
  rw [if_neg h2] at h
  rw [if_neg h2]
  simp only
  rw [if_neg h0, if_neg h1, if_neg h2]
  unfold tS at h
  unfold tV
  simp only [Option.bind_some] at h ⊢
  cases ht : takeS (v.m % 1000) l with
  | none => rw [ht] at h; cases h
  | some x =>
    obtain ⟨t, r'⟩ := x
    rw [ht] at h
    simp only [Option.some.injEq] at h
    subst h
    simp only
    unfold takeS at ht
    split at ht
    · rename_i n s heq
      split at ht
      · rename_i hle
        simp only [Option.some.injEq, Prod.mk.injEq] at ht
        obtain ⟨rfl, rfl⟩ := ht
        have := numT_one (takeU_some heq).1
        unfold layT
        rw [List.length_take, Nat.min_eq_left hle, List.append_assoc, List.take_append_drop]
        exact this
      · cases ht
    · cases ht
theorem takeR_none (v : Val) : takeR none v = none := by
  unfold takeR uS iS tS
  simp only [Option.bind_none]
  split <;> (try split) <;> (try split) <;> rfl
theorem uV_lt (most : Nat) (st : Option (List UInt8)) : uV most st < 18446744073709551616 := by
  cases st with
  | none => exact zero_lt
  | some l =>
    cases ht : takeU most l with
    | none =>
      have : uV most (some l) = 0 := by unfold uV; simp [ht]
      rw [this]
      exact zero_lt
    | some x =>
      obtain ⟨n, r⟩ := x
      rw [uV_of ht]
      exact (numT_lt (takeU_some ht).1).1
theorem iV_in (st : Option (List UInt8)) : -9223372036854775808 ≤ iV st ∧ iV st ≤ 9223372036854775807 := by
  unfold iV
  cases st with
  | none => decide
  | some l =>
    simp only [Option.bind_some]
    cases ht : takeI l with
    | none => decide
    | some x =>
      obtain ⟨n, r⟩ := x
      simp only
      unfold takeI at ht
      split at ht
      · rename_i m k s heq
        split at ht
        · simp only [Option.some.injEq, Prod.mk.injEq] at ht
          obtain ⟨rfl, rfl⟩ := ht
          cases m <;> simp <;> omega
        · cases ht
      · cases ht
theorem tV_size (most : Nat) (st : Option (List UInt8)) : (tV most st).size ≤ most := by
  unfold tV
  cases st with
  | none => simp [ByteArray.size]
  | some l =>
    simp only [Option.bind_some]
    cases ht : takeS most l with
    | none => simp [ByteArray.size]
    | some x =>
      obtain ⟨t, r⟩ := x
      simp only
      unfold takeS at ht
      split at ht
      · rename_i n s heq
        split at ht
        · simp only [Option.some.injEq, Prod.mk.injEq] at ht
          obtain ⟨rfl, rfl⟩ := ht
          have := (takeU_some heq).2
          show (s.take n).toArray.size ≤ most
          simp
          omega
        · cases ht
      · cases ht
theorem takeO_ok {v : Val} (hv : v.Ok) (st : Option (List UInt8)) : (takeO st v).Ok := by
  unfold takeO
  have h1 := uV_lt v.m st
  have h2 := iV_in st
  have h3 := tV_size (v.m % 1000) st
  split
  · exact ⟨hv.k, h1, zero_inQ, no_size, zero_lt⟩
  · split
    · exact ⟨hv.k, zero_lt, h2, no_size, zero_lt⟩
    · split
      · exact ⟨hv.k, by show (if uV 1 st = 1 then 1 else 0) < _; split <;> decide, zero_inQ, no_size, zero_lt⟩
      · exact ⟨hv.k, zero_lt, zero_inQ, by show (tV (v.m % 1000) st).size ≤ 1000; omega, zero_lt⟩
theorem layN_len (m n : Nat) (hn : n < 18446744073709551616) : (layN m n).length ≤ 9 := by
  unfold layN
  rw [List.length_cons, digs_len]
  have := nb_le n hn
  omega
theorem layV_len {v : Val} (hv : v.Ok) : (layV v).length ≤ 1009 := by
  unfold layV
  split
  · have := layN_len 0 v.u hv.u; omega
  · split
    · unfold layI
      have h := hv.i
      split
      · have := layN_len 0 v.i.toNat (by omega); omega
      · have := layN_len 128 (-1 - v.i).toNat (by omega); omega
    · split
      · unfold layF
        have := layN_len 0 (if (v.u % 2 == 1) = true then 1 else 0) (by split <;> decide)
        omega
      · unfold layT
        have h := hv.s
        have e : v.s.data.toList.length = v.s.size := by simp
        rw [List.length_append, e]
        have := layN_len 0 v.s.size (by omega)
        omega
theorem awake_bytes : ([] ++ layN 0 300) ++ layI (-1) = [2, 1, 44, 128] := by decide
theorem awake_num : uV 300 (some [2, 1, 44, 128]) = 300 := by decide

end Go.Proofs.YtjlajnackecfgaaGreatDoor
namespace Go.Proofs.YtjlajnackecfgaaGreatDoor
open Go.ChangeShapes Go.WideShapes Go.ChangeAt Go.RowKit

theorem own_at {w : World} {base : Nat} {v : Value} {n : Nat} {l : List UInt8} (h : OwnB w base v n l) : ∃ A c, v = .slice A l.length c ∧ Rd w w.heap.size A l ∧ (A = none → l.length = 0 ∧ c = 0) := by
  obtain ⟨hl, A, c, g, rfl, h1, h2, h3, h4, h5, h6⟩ := own_rg h (max base w.heap.size) (Nat.le_max_left _ _)
  refine ⟨A, c, by rw [hl], h4.rd, fun e => ⟨by have := h5 e; omega, h5 e⟩⟩
theorem rd_laterF {w w' : World} {A : Option Addr} {l : List UInt8} (h : Rd w w.heap.size A l) (hb : Below w.heap.size w w') : Rd w' w'.heap.size A l := (h.below hb).more hb.size
theorem JoinP {A : Option Addr} {n c : Nat} {l : List UInt8} {w : World} (hr : Rd w w.heap.size A l) (hn : l.length = n) (hm : n ≤ 1000) :
    Calls Tryz.prog 16 #[.slice (some ⟨w.heap.size + 1, 0, none⟩) 2 2] ((w.alloc (.cells #[.int .u8 0] 5)).alloc (.cells #[.slice A n c, .slice (some ⟨w.heap.size, 0, none⟩) 1 1] 33)) fun e w' => ∃ A' c', e = .returned (.slice A' (l ++ [0]).length c') ∧ Rd w' w'.heap.size A' (l ++ [0]) ∧ (A' = none → (l ++ [0]).length = 0 ∧ c' = 0) ∧ Below w.heap.size w w' := by
  have hb := b_alloc w (.cells #[.int .u8 0] 5)
  have h := Join_two_own A (some ⟨w.heap.size, 0, none⟩) n 1 c 1 (w.alloc (.cells #[.int .u8 0] 5)).heap.size (w.alloc (.cells #[.int .u8 0] 5)).heap.size l [0] (w.alloc (.cells #[.int .u8 0] 5)) (rd_laterF hr hb) (Nat.le_refl _) (one_rd w 0 0 (by decide)) (Nat.le_refl _) hn rfl (by omega)
  rw [show (w.alloc (.cells #[.int .u8 0] 5)).heap.size = w.heap.size + 1 by simp] at h
  refine h.mono ?_
  rintro e w' ⟨v, rfl, ho, hb2⟩
  obtain ⟨A', c', rfl, hr', hz'⟩ := own_at ho
  exact ⟨A', c', rfl, hr', hz', hb.trans (hb2.mono (by simp))⟩
theorem Join1 {A : Option Addr} {n c : Nat} {l : List UInt8} {w : World} (hr : Rd w w.heap.size A l) (hn : l.length = n) (hm : n ≤ 1000) :
    Calls Tryz.prog 16 #[.slice (some ⟨w.heap.size, 0, none⟩) 1 1] (w.alloc (.cells #[.slice A n c] 33)) (OwnPost w.heap.size w l) := Join_one_own A n c w.heap.size l w hr (Nat.le_refl _) hn (by omega)
theorem own_put {w : World} {base n : Nat} {v : Value} {l : List UInt8} (h : OwnB w base v n l) {i : Nat} (hi : i < l.length) : ∃ g c, v = .slice (some ⟨g, 0, none⟩) l.length c ∧ base ≤ g ∧ g < w.heap.size ∧ (∃ u : UInt8, w.cell? ⟨g, i, none⟩ = some (.int .u8 (u.toNat : Int))) ∧ w.frozen? ⟨g, i, none⟩ = false ∧
    ∀ u1 : UInt8, ∃ l' : List UInt8, l'.length = l.length ∧ Rd (w.setCell ⟨g, i, none⟩ (.int .u8 (u1.toNat : Int))) (w.setCell ⟨g, i, none⟩ (.int .u8 (u1.toNat : Int))).heap.size (some ⟨g, 0, none⟩) l' := by
  have hl : l.length = n := by have := h.1; simpa using this
  have h' := h
  unfold OwnB at h'
  rcases h'.2 with ⟨rfl, rfl⟩ | ⟨g, cap, cur, rfl, hb, hg, hnc, hcm, _⟩
  · omega
  · have hk : Blk w g 5 cur := hg
    have hcs := World.ownsRow.cells h' (g := g) rfl
    have hcell : ∀ (j : Nat) u, l[j]? = some u → w.cell? ⟨g, j, none⟩ = some (.int .u8 (u.toNat : Int)) := fun j u hu => by
      have := hcs j (enc8 u) (by rw [List.getElem?_map, hu]; rfl)
      simpa [go_sem, enc8] using this
    have h0 := hcell i l[i] (List.getElem?_eq_getElem hi)
    refine ⟨g, cap, by rw [hl], hb, hk.lt, ⟨l[i], h0⟩, hk.frozen i, fun u1 => ⟨l.set i u1, by simp, fun _ => ⟨g, 0, rfl, by simpa [World.setCell] using hk.lt, fun j u hu => ?_⟩⟩⟩
    rw [Nat.zero_add]
    by_cases e : j = i
    · subst e
      rw [List.getElem?_set_self hi] at hu
      injection hu with hu
      subst hu
      have hlt : j < cur.size := by
        have := hk.cell j
        rw [h0] at this
        exact (Array.getElem?_eq_some_iff.1 this.symm).1
      rw [(hk.set_ j _).cell j]
      simp [hlt]
    · rw [List.getElem?_set_ne (fun e' => e e'.symm)] at hu
      rw [World.cell?_setCell_other w ⟨g, i, none⟩ ⟨g, j, none⟩ _ (by simp)]
      exact hcell j u hu
theorem xor_of (u : UInt8) (t : Nat) : ∃ u1 : UInt8, bits .xor .u8 (u.toNat : Int) (t : Int) = (u1.toNat : Int) := by
  have h0 := bits_lo_u8 .xor (u.toNat : Int) (t : Int)
  have h1 := bits_hi_u8 .xor (u.toNat : Int) (t : Int)
  refine ⟨UInt8.ofNat (bits .xor .u8 (u.toNat : Int) (t : Int)).toNat, ?_⟩
  rw [UInt8.toNat_ofNat']
  omega
theorem SameB {A A' : Option Addr} {n c n' c' : Nat} {l m : List UInt8} {w : World} (hR : Rd w w.heap.size A l) (hn : l.length = n) (hm : n ≤ 1000) (hR' : Rd w w.heap.size A' m) (hn' : m.length = n') (hm' : n' ≤ 1000) (h : l = m) : Calls Tryz.prog 14 #[.slice A n c, .slice A' n' c'] w (Ret (.bool true) w) := by
  have hS := Same_any A A' n c w.heap.size n' c' w.heap.size l m w hR hn (by unfold maxLen; omega) hR' hn' (by unfold maxLen; omega)
  rw [decide_eq_true h] at hS
  exact hS.mono fun e w' h => below_all h
def Els (w : World) (R : Nat) : Prop := R < w.heap.size ∧ ∀ k : Nat, k < 3 → ∃ A n c q, w.cell? ⟨R, k, none⟩ = some (.slice A n c) ∧ Rd w w.heap.size A q ∧ q.length = n ∧ n ≤ 1000 ∧ (A = none → n = 0 ∧ c = 0)
theorem els_new {w : World} {T : TypeId} {A0 A1 A2 : Option Addr} {n0 n1 n2 c0 c1 c2 : Nat} {q0 q1 q2 : List UInt8} (r0 : Rd w w.heap.size A0 q0) (r1 : Rd w w.heap.size A1 q1) (r2 : Rd w w.heap.size A2 q2) (h0 : q0.length = n0 ∧ n0 ≤ 1000 ∧ (A0 = none → n0 = 0 ∧ c0 = 0)) (h1 : q1.length = n1 ∧ n1 ≤ 1000 ∧ (A1 = none → n1 = 0 ∧ c1 = 0)) (h2 : q2.length = n2 ∧ n2 ≤ 1000 ∧ (A2 = none → n2 = 0 ∧ c2 = 0)) :
    Els (w.alloc (.cells #[.slice A0 n0 c0, .slice A1 n1 c1, .slice A2 n2 c2] T)) w.heap.size := by
  have hb := b_alloc w (.cells #[.slice A0 n0 c0, .slice A1 n1 c1, .slice A2 n2 c2] T)
  have hk := Blk.new w T #[.slice A0 n0 c0, .slice A1 n1 c1, .slice A2 n2 c2]
  refine ⟨by simp, fun k hk3 => ?_⟩
  rcases k with _ | _ | _ | k
  · exact ⟨_, _, _, _, by rw [hk.cell]; rfl, rd_laterF r0 hb, h0⟩
  · exact ⟨_, _, _, _, by rw [hk.cell]; rfl, rd_laterF r1 hb, h1⟩
  · exact ⟨_, _, _, _, by rw [hk.cell]; rfl, rd_laterF r2 hb, h2⟩
  · omega
end Go.Proofs.YtjlajnackecfgaaGreatDoor
namespace Go.Proofs.YtjlajnackecfgaaGreatDoor
open Go.ChangeShapes Go.WideShapes Go.ChangeAt Go.RowKit Go.Shelf
theorem zero_eqF (W : World) : (Op.equalIn 10000 32 (.agg #[.int .u8 0, .int .u32 0, .int .u8 0, .int .i64 0, .int .u32 0, .int .u8 0, .int .i64 0, .int .i32 0, .int .i64 0, .int .i64 0, .int .u32 0, .int .i32 0, .int .u8 0, .int .i64 0]) (.agg #[.int .u8 0, .int .u32 0, .int .u8 0, .int .i64 0, .int .u32 0, .int .u8 0, .int .i64 0, .int .i32 0, .int .i64 0, .int .i64 0, .int .u32 0, .int .i32 0, .int .u8 0, .int .i64 0])).run Tryz.prog W = .ok true W := by
  haveI := Classical.propDecidable ((⟨0, 0, Trm.zero, Evt.zero⟩ : Ord) = ⟨0, 0, Trm.zero, Evt.zero⟩)
  refine (eqO ⟨0, 0, Trm.zero, Evt.zero⟩ ⟨0, 0, Trm.zero, Evt.zero⟩ W).trans ?_
  rw [decide_eq_true rfl]
theorem Parse_own {o : Ord} (hi : o.In) (ho : o.Right) (A : Option Addr) (n c Bd : Nat) (w : World) (hRd : Rd w Bd A (layO o)) (hn : (layO o).length = n) (hm : n ≤ 900000) (hB : Bd ≤ w.heap.size) (hA : A = none → n = 0 ∧ c = 0) : Calls Tryz.prog 13 #[.slice A n c] w (Ret (.tuple #[o.v, .nilIface]) w) := by
  refine (Parse_any A n c Bd (layO o) w hRd hn hm hB hA).mono ?_
  rintro e w' ⟨h | h, hb⟩
  · obtain ⟨o2, hI2, hR2, hL2, rfl⟩ := h
    rw [layO_inj hI2 hi hR2 ho hL2]
    exact ⟨rfl, hb⟩
  · exact absurd ⟨o, hi, ho, rfl⟩ h.1
set_option maxRecDepth 100000 in
set_option maxHeartbeats 4000000 in
theorem OForms_no {k a K R B s ek : Nat} {P M S F G d m : Int} (Ar : Option Addr) (nr cr : Nat) (lr : List UInt8) (ta tt : Nat) (hta : ta < 65536) (htt : tt < 256) (w : World) (hl : TLd w) (hle : Laid w) (hRr : Rd w w.heap.size Ar lr) (hnr : lr.length = nr) (hmr : nr ≤ 140737488355328)
    (cO : ∀ W, Calls Tryz.prog 11 #[.agg #[.int .u8 (k : Int), .int .u32 (a : Int), .int .u8 (K : Int), .int .i64 P, .int .u32 (R : Int), .int .u8 (B : Int), .int .i64 M, .int .i32 S, .int .i64 F, .int .i64 G, .int .u32 (s : Int), .int .i32 d, .int .u8 (ek : Int), .int .i64 m]] W (Ret (.agg #[.int .u8 (k : Int), .int .u32 (a : Int), .int .u8 (K : Int), .int .i64 P, .int .u32 (R : Int), .int .u8 (B : Int), .int .i64 M, .int .i64 S, .int .i64 F, .int .i64 G, .int .u32 (s : Int), .int .i64 d, .int .u8 (ek : Int), .int .i64 m]) W)) (cQ : ∀ W, Calls Tryz.prog 10 #[.agg #[.int .u8 (k : Int), .int .u32 (a : Int), .int .u8 (K : Int), .int .i64 P, .int .u32 (R : Int), .int .u8 (B : Int), .int .i64 M, .int .i64 S, .int .i64 F, .int .i64 G, .int .u32 (s : Int), .int .i64 d, .int .u8 (ek : Int), .int .i64 m]] W (Ret (.bool false) W)) (cR : ∀ W, Calls Tryz.prog 12 #[.agg #[.int .u8 (k : Int), .int .u32 (a : Int), .int .u8 (K : Int), .int .i64 P, .int .u32 (R : Int), .int .u8 (B : Int), .int .i64 M, .int .i32 S, .int .i64 F, .int .i64 G, .int .u32 (s : Int), .int .i32 d, .int .u8 (ek : Int), .int .i64 m]] W (Ret (.bool false) W))
    (cBy : ∀ W, Calls Tryz.prog 9 #[.agg #[.int .u8 (k : Int), .int .u32 (a : Int), .int .u8 (K : Int), .int .i64 P, .int .u32 (R : Int), .int .u8 (B : Int), .int .i64 M, .int .i32 S, .int .i64 F, .int .i64 G, .int .u32 (s : Int), .int .i32 d, .int .u8 (ek : Int), .int .i64 m]] W (Ret (.slice none 0 0) W))
    : Calls Tryz.prog 3 #[.agg #[.int .u8 (k : Int), .int .u32 (a : Int), .int .u8 (K : Int), .int .i64 P, .int .u32 (R : Int), .int .u8 (B : Int), .int .i64 M, .int .i32 S, .int .i64 F, .int .i64 G, .int .u32 (s : Int), .int .i32 d, .int .u8 (ek : Int), .int .i64 m], .slice Ar nr cr, .int .u16 (ta : Int), .int .u8 (tt : Int)] w (Ret (.bool true) w) := by
  have HQ0 := Lib.hid (Blk.new w 32 #[.int .u8 (k : Int), .int .u32 (a : Int), .int .u8 (K : Int), .int .i64 P, .int .u32 (R : Int), .int .u8 (B : Int), .int .i64 M, .int .i32 S, .int .i64 F, .int .i64 G, .int .u32 (s : Int), .int .i32 d, .int .u8 (ek : Int), .int .i64 m])
  have HB0 := Lib.hid (b_alloc w (.cells #[.int .u8 (k : Int), .int .u32 (a : Int), .int .u8 (K : Int), .int .i64 P, .int .u32 (R : Int), .int .u8 (B : Int), .int .i64 M, .int .i32 S, .int .i64 F, .int .i64 G, .int .u32 (s : Int), .int .i32 d, .int .u8 (ek : Int), .int .i64 m] 32))
  have HL := Lib.hid hl
  have HLE := Lib.hid hle
  have HRR0 := Lib.hid (hRr.below HB0.out)
  have HNR := Lib.hid (And.intro hnr hmr)
  have HTA := Lib.hid (And.intro hta htt)
  have cZ := fun W => zero_eqF W
  have cA1 := awake20 _ (HL.out.below HB0.out)
  clear hl hle hRr hnr hmr hta htt
  go_enter Tryz.func3, Tryz.ntmps3
  go_wp2_with fail
  refine cA1.mono ?_
  rintro e W1 ⟨rfl, hb1⟩
  have HB1 := Lib.hid (HB0.out.trans (hb1.mono HB0.out.size))
  have HQ1 := Lib.hid (HQ0.out.below hb1 HQ0.out.lt)
  have HRR1 := Lib.hid (HRR0.out.below (hb1.mono HB0.out.size))
  clear hb1 HB0 HQ0 HRR0 cA1
  go_wp2_with fail
  refine (CutO_any Ar nr cr w.heap.size 40 lr W1 HRR1.out HNR.out.1 HNR.out.2 (by decide) HB1.out.size).mono ?_
  rintro e w5 ⟨vc, rfl, hoc, hbc⟩
  obtain ⟨A2, c2, rfl, hr2, hz2⟩ := own_at hoc
  obtain ⟨q2, hq2⟩ : ∃ q, lr.take 40 = q := ⟨_, rfl⟩
  have hq2l : q2.length ≤ 60 := by rw [← hq2, List.length_take]; omega
  rw [hq2] at hr2 hz2
  rw [hq2]
  have HW := Lib.hid hr2
  have HZ2 := Lib.hid (And.intro hz2 hq2l)
  have HE := Lib.hid (HQ1.out.below hbc HQ1.out.lt)
  have HB := Lib.hid (HB1.out.trans (hbc.mono HB1.out.size))
  clear HQ1 HB1 HRR1 HNR hoc hbc hr2 hz2 hq2 hq2l
  obtain ⟨n0, n1, n2, n3, n4, n5, n6, n7, n8, n9, n10, n11, n12, n13⟩ := blk14 HE.out
  go_wp2_with fail
  refine (cBy _).mono ?_
  rintro e w6 ⟨rfl, hb6⟩
  have HE6 := Lib.hid (HE.out.below hb6 HE.out.lt)
  have HB6 := Lib.hid (HB.out.trans (hb6.mono HB.out.size))
  have HW6 := Lib.hid (rd_laterF HW.out hb6)
  clear hb6 HE HB HW n0 n1 n2 n3 n4 n5 n6 n7 n8 n9 n10 n11 n12 n13 cBy
  obtain ⟨n0, n1, n2, n3, n4, n5, n6, n7, n8, n9, n10, n11, n12, n13⟩ := blk14 HE6.out
  go_wp2_with fail
  refine (cO _).mono ?_
  rintro e w6b ⟨rfl, hb6⟩
  have HE6b := Lib.hid (HE6.out.below hb6 HE6.out.lt)
  have HB6b := Lib.hid (HB6.out.trans (hb6.mono HB6.out.size))
  have HW6b := Lib.hid (rd_laterF HW6.out hb6)
  clear hb6 HE6 HB6 HW6 n0 n1 n2 n3 n4 n5 n6 n7 n8 n9 n10 n11 n12 n13 cO
  go_wp2_with fail
  refine (cQ _).mono ?_
  rintro e w6c ⟨rfl, hb7⟩
  have HE6c := Lib.hid (HE6b.out.below hb7 HE6b.out.lt)
  have HB6c := Lib.hid (HB6b.out.trans (hb7.mono HB6b.out.size))
  have HW6c := Lib.hid (rd_laterF HW6b.out hb7)
  clear hb7 HE6b HB6b HW6b cQ
  obtain ⟨n0, n1, n2, n3, n4, n5, n6, n7, n8, n9, n10, n11, n12, n13⟩ := blk14 HE6c.out
  go_wp2_with fail
  refine (cR _).mono ?_
  rintro e w7 ⟨rfl, hb7⟩
  have HB7 := Lib.hid (HB6c.out.trans (hb7.mono HB6c.out.size))
  have HW7 := Lib.hid (rd_laterF HW6c.out hb7)
  clear hb7 HB6c HW6c HE6c cR n0 n1 n2 n3 n4 n5 n6 n7 n8 n9 n10 n11 n12 n13
  obtain ⟨L, hL⟩ : ∃ L : List UInt8, L = [] := ⟨_, rfl⟩
  have HP7 : Hid (Rd w7 w7.heap.size none L) := Lib.hid (fun h => by rw [hL] at h; simp at h)
  have HLN : Hid (0 ≤ 1000) := Lib.hid (by omega)
  have HLN2 : Hid (L.length ≤ 200) := Lib.hid (by rw [hL]; simp)
  have HLE0 := Lib.hid hL
  have HBT := HW7
  clear hL
  go_wp2_with fail
  refine (JoinP (l := L) (c := 0) HP7.out (by rw [HLE0.out]; rfl) HLN.out).mono ?_
  rintro e w8 ⟨A8, c8, rfl, hr8, hz8, hb8⟩
  obtain ⟨q8, hq8⟩ : ∃ q, (L ++ [0] : List UInt8) = q := ⟨_, rfl⟩
  have hl8 : q8.length ≤ 1000 := by rw [← hq8, List.length_append]; simp only [List.length_cons, List.length_nil]; have := HLN2.out; omega
  rw [hq8] at hr8 hz8
  rw [hq8]
  have HEL := Lib.hid (els_new (T := 33) (c0 := c2) (rd_laterF HBT.out hb8) (rd_laterF HW7.out hb8) hr8 ⟨rfl, by have := HZ2.out.2; omega, HZ2.out.1⟩ ⟨rfl, by have := HZ2.out.2; omega, HZ2.out.1⟩ ⟨rfl, hl8, hz8⟩)
  have HB8 := Lib.hid ((HB7.out.trans (hb8.mono HB7.out.size)).alloc (HB7.out.trans (hb8.mono HB7.out.size)).size (.cells #[.slice A2 q2.length c2, .slice A2 q2.length c2, .slice A8 q8.length c8] 33))
  clear hr8 hz8 hb8 hq8 hl8 HB7 HW7 HP7
  go_wp2_with fail
  obtain ⟨Rg, hRg⟩ : ∃ R, w8.heap.size = R := ⟨_, rfl⟩
  obtain ⟨w9, hw9⟩ : ∃ X, w8.alloc (.cells #[.slice A2 q2.length c2, .slice A2 q2.length c2, .slice A8 q8.length c8] 33) = X := ⟨_, rfl⟩
  have hEL := HEL.out
  have hB9 := HB8.out
  rw [hRg, hw9] at hEL
  rw [hw9] at hB9
  rw [hRg, hw9]
  have HEL9 := Lib.hid hEL
  have HB9 := Lib.hid hB9
  clear hEL hB9 hRg hw9 HEL HB8
  go_loopw [14, 15, 16, 84] (fun _ _ _ i wr => ∃ (k : Nat), k ≤ 3 ∧ i = .int .i64 k ∧ Hid (Below w9.heap.size w9 wr)) (fun _ _ _ i _ => 3 - (intOf i).toNat)
  case atStart => exact ⟨0, by omega, rfl, Lib.hid (Below.refl _ _)⟩
  case round =>
    obtain ⟨j, hk, rfl, HBk⟩ := hrel
    by_cases hlt : j < 3
    · obtain ⟨A9, n9, c9, q, hc9, hr9, hn9, hm9, hz9⟩ := HEL9.out.2 j hlt
      have hc9 := (HBk.out.cell (p := ⟨Rg, j, none⟩) HEL9.out.1).trans hc9
      have hr9 := rd_laterF hr9 HBk.out
      have HPA := Lib.hid (Parse_any A9 n9 c9 wr.heap.size q wr hr9 hn9 (by omega) (Nat.le_refl _) hz9)
      have HR9 := Lib.hid hr9
      have HN9 := Lib.hid (And.intro hn9 (And.intro hm9 hz9))
      clear hr9 hn9 hm9 hz9
      go_wp2_with fail
      refine HPA.out.mono ?_
      rintro e w10 ⟨hp, hb10⟩
      have HB10 := Lib.hid (HBk.out.trans (hb10.mono HBk.out.size))
      have HR10 := Lib.hid (rd_laterF HR9.out hb10)
      clear hb10 HBk HR9 HPA hc9
      rcases hp with ⟨o2, hI2, hR2, hL2, rfl⟩ | ⟨-, rfl⟩
      · have hBy := fun W => oBytesF hI2 hR2 W
        rw [hL2] at hBy
        clear hL2 hR2 hI2
        obtain ⟨k2, a2, ⟨K2, P2, R2, B2, M2, S2, F2, G2⟩, s2, d2, ek2, m2⟩ := o2
        change ∀ W, Calls Tryz.prog _ #[.agg #[.int .u8 (k2 : Int), .int .u32 (a2 : Int), .int .u8 (K2 : Int), .int .i64 P2, .int .u32 (R2 : Int), .int .u8 (B2 : Int), .int .i64 M2, .int .i32 S2, .int .i64 F2, .int .i64 G2, .int .u32 (s2 : Int), .int .i32 d2, .int .u8 (ek2 : Int), .int .i64 m2]] W _ at hBy
        unfold Ord.v Ord.cs
        dsimp only
        have hb11 := b_alloc w10 (.cells #[.int .u8 (k2 : Int), .int .u32 (a2 : Int), .int .u8 (K2 : Int), .int .i64 P2, .int .u32 (R2 : Int), .int .u8 (B2 : Int), .int .i64 M2, .int .i32 S2, .int .i64 F2, .int .i64 G2, .int .u32 (s2 : Int), .int .i32 d2, .int .u8 (ek2 : Int), .int .i64 m2] 32)
        have HBY := Lib.hid (hBy (w10.alloc (.cells #[.int .u8 (k2 : Int), .int .u32 (a2 : Int), .int .u8 (K2 : Int), .int .i64 P2, .int .u32 (R2 : Int), .int .u8 (B2 : Int), .int .i64 M2, .int .i32 S2, .int .i64 F2, .int .i64 G2, .int .u32 (s2 : Int), .int .i32 d2, .int .u8 (ek2 : Int), .int .i64 m2] 32)))
        have HB11 := Lib.hid (HB10.out.trans (hb11.mono HB10.out.size))
        have HR11 := Lib.hid (rd_laterF HR10.out hb11)
        clear hBy hb11 HB10 HR10
        go_wp2_with fail
        refine HBY.out.mono ?_
        rintro e w12 ⟨vb, rfl, ⟨A', g', rfl, hrg⟩, hb12⟩
        have HSM := Lib.hid (SameB (c := g') (c' := c9) hrg rfl (by have := HN9.out.1; have := HN9.out.2.1; omega) (rd_laterF HR11.out hb12) HN9.out.1 HN9.out.2.1 rfl)
        have HB12 := Lib.hid (HB11.out.trans (hb12.mono HB11.out.size))
        clear hb12 hrg HR11 HB11 HBY
        go_wp2_with fail
        refine HSM.out.mono ?_
        rintro e w13 ⟨rfl, hb13⟩
        have HB13 := Lib.hid (HB12.out.trans (hb13.mono HB12.out.size))
        clear hb13 HSM HB12
        go_wp2_with fail
        go_roundw
        case rel => exact ⟨j + 1, by omega, by go_num, HB13⟩
        case measure => simp [intOf]; omega
      · have hb11 := b_alloc w10 (.cells #[.int .u8 0, .int .u32 0, .int .u8 0, .int .i64 0, .int .u32 0, .int .u8 0, .int .i64 0, .int .i32 0, .int .i64 0, .int .i64 0, .int .u32 0, .int .i32 0, .int .u8 0, .int .i64 0] 32)
        have hk11 := Blk.new w10 32 #[.int .u8 0, .int .u32 0, .int .u8 0, .int .i64 0, .int .u32 0, .int .u8 0, .int .i64 0, .int .i32 0, .int .i64 0, .int .i64 0, .int .u32 0, .int .i32 0, .int .u8 0, .int .i64 0]
        have HB11 := Lib.hid (HB10.out.trans (hb11.mono HB10.out.size))
        have HCO := Lib.hid (Code_errno 2 _ (HLE.out.below (HB9.out.trans (HB11.out.mono HB9.out.size))))
        obtain ⟨gx, hgx⟩ : ∃ g, w10.heap.size = g := ⟨_, rfl⟩
        rw [hgx] at hk11
        have HKX := Lib.hid hk11
        have HGX := Lib.hid hgx
        clear hb11 hk11 hgx HB10 HR10
        unfold zeroP
        go_wp2_with fail
        rw [HGX.out]
        refine HCO.out.mono ?_
        rintro e w12 ⟨rfl, hb12⟩
        have HK12 := Lib.hid (HKX.out.below hb12 HKX.out.lt)
        have HB12 := Lib.hid (HB11.out.trans (hb12.mono HB11.out.size))
        clear hb12 HB11 HKX HCO HGX
        obtain ⟨v0, v1, v2, v3, v4, v5, v6, v7, v8, v9, v10, v11, v12, v13⟩ := blk14 HK12.out
        go_wp2_with fail
        go_roundw
        case rel => exact ⟨j + 1, by omega, by go_num, HB12⟩
        case measure => simp [intOf]; omega
    · obtain rfl : j = 3 := by omega
      go_wp2_with fail
      go_ret
      exact ⟨rfl, HB9.out.trans (HBk.out.mono HB9.out.size)⟩
set_option maxRecDepth 100000 in
set_option maxHeartbeats 4000000 in
theorem OForms_yes {L : List UInt8} (hLL : 0 < L.length ∧ L.length ≤ 200) {k a K R B s ek : Nat} {P M S F G d m : Int} (Ar : Option Addr) (nr cr : Nat) (lr : List UInt8) (ta tt : Nat) (hta : ta < 65536) (htt : tt < 256) (w : World) (hl : TLd w) (hle : Laid w) (hRr : Rd w w.heap.size Ar lr) (hnr : lr.length = nr) (hmr : nr ≤ 140737488355328)
    (cO : ∀ W, Calls Tryz.prog 11 #[.agg #[.int .u8 (k : Int), .int .u32 (a : Int), .int .u8 (K : Int), .int .i64 P, .int .u32 (R : Int), .int .u8 (B : Int), .int .i64 M, .int .i32 S, .int .i64 F, .int .i64 G, .int .u32 (s : Int), .int .i32 d, .int .u8 (ek : Int), .int .i64 m]] W (Ret (.agg #[.int .u8 (k : Int), .int .u32 (a : Int), .int .u8 (K : Int), .int .i64 P, .int .u32 (R : Int), .int .u8 (B : Int), .int .i64 M, .int .i64 S, .int .i64 F, .int .i64 G, .int .u32 (s : Int), .int .i64 d, .int .u8 (ek : Int), .int .i64 m]) W)) (cQ : ∀ W, Calls Tryz.prog 10 #[.agg #[.int .u8 (k : Int), .int .u32 (a : Int), .int .u8 (K : Int), .int .i64 P, .int .u32 (R : Int), .int .u8 (B : Int), .int .i64 M, .int .i64 S, .int .i64 F, .int .i64 G, .int .u32 (s : Int), .int .i64 d, .int .u8 (ek : Int), .int .i64 m]] W (Ret (.bool true) W)) (cR : ∀ W, Calls Tryz.prog 12 #[.agg #[.int .u8 (k : Int), .int .u32 (a : Int), .int .u8 (K : Int), .int .i64 P, .int .u32 (R : Int), .int .u8 (B : Int), .int .i64 M, .int .i32 S, .int .i64 F, .int .i64 G, .int .u32 (s : Int), .int .i32 d, .int .u8 (ek : Int), .int .i64 m]] W (Ret (.bool true) W))
    (cBy : ∀ W, Calls Tryz.prog 9 #[.agg #[.int .u8 (k : Int), .int .u32 (a : Int), .int .u8 (K : Int), .int .i64 P, .int .u32 (R : Int), .int .u8 (B : Int), .int .i64 M, .int .i32 S, .int .i64 F, .int .i64 G, .int .u32 (s : Int), .int .i32 d, .int .u8 (ek : Int), .int .i64 m]] W (ToF (bySF L) W)) (cRB : ∀ W, Calls Tryz.prog 15 #[.agg #[.int .u8 (k : Int), .int .u32 (a : Int), .int .u8 (K : Int), .int .i64 P, .int .u32 (R : Int), .int .u8 (B : Int), .int .i64 M, .int .i64 S, .int .i64 F, .int .i64 G, .int .u32 (s : Int), .int .i64 d, .int .u8 (ek : Int), .int .i64 m]] W (ToF (bySF L) W)) (cE : ∀ W, (Op.equalIn 10000 32 (.agg #[.int .u8 (k : Int), .int .u32 (a : Int), .int .u8 (K : Int), .int .i64 P, .int .u32 (R : Int), .int .u8 (B : Int), .int .i64 M, .int .i32 S, .int .i64 F, .int .i64 G, .int .u32 (s : Int), .int .i32 d, .int .u8 (ek : Int), .int .i64 m]) (.agg #[.int .u8 (k : Int), .int .u32 (a : Int), .int .u8 (K : Int), .int .i64 P, .int .u32 (R : Int), .int .u8 (B : Int), .int .i64 M, .int .i32 S, .int .i64 F, .int .i64 G, .int .u32 (s : Int), .int .i32 d, .int .u8 (ek : Int), .int .i64 m])).run Tryz.prog W = .ok true W)
    (cPa : ∀ A n c Bd W, Rd W Bd A L → L.length = n → n ≤ 900000 → Bd ≤ W.heap.size → (A = none → n = 0 ∧ c = 0) → Calls Tryz.prog 13 #[.slice A n c] W (Ret (.tuple #[.agg #[.int .u8 (k : Int), .int .u32 (a : Int), .int .u8 (K : Int), .int .i64 P, .int .u32 (R : Int), .int .u8 (B : Int), .int .i64 M, .int .i32 S, .int .i64 F, .int .i64 G, .int .u32 (s : Int), .int .i32 d, .int .u8 (ek : Int), .int .i64 m], .nilIface]) W))
    : Calls Tryz.prog 3 #[.agg #[.int .u8 (k : Int), .int .u32 (a : Int), .int .u8 (K : Int), .int .i64 P, .int .u32 (R : Int), .int .u8 (B : Int), .int .i64 M, .int .i32 S, .int .i64 F, .int .i64 G, .int .u32 (s : Int), .int .i32 d, .int .u8 (ek : Int), .int .i64 m], .slice Ar nr cr, .int .u16 (ta : Int), .int .u8 (tt : Int)] w (Ret (.bool true) w) := by
  have HLL := Lib.hid hLL
  have hpos2 : decide (0 < L.length) = true := decide_eq_true hLL.1
  clear hLL
  have HQ0 := Lib.hid (Blk.new w 32 #[.int .u8 (k : Int), .int .u32 (a : Int), .int .u8 (K : Int), .int .i64 P, .int .u32 (R : Int), .int .u8 (B : Int), .int .i64 M, .int .i32 S, .int .i64 F, .int .i64 G, .int .u32 (s : Int), .int .i32 d, .int .u8 (ek : Int), .int .i64 m])
  have HB0 := Lib.hid (b_alloc w (.cells #[.int .u8 (k : Int), .int .u32 (a : Int), .int .u8 (K : Int), .int .i64 P, .int .u32 (R : Int), .int .u8 (B : Int), .int .i64 M, .int .i32 S, .int .i64 F, .int .i64 G, .int .u32 (s : Int), .int .i32 d, .int .u8 (ek : Int), .int .i64 m] 32))
  have HL := Lib.hid hl
  have HLE := Lib.hid hle
  have HRR0 := Lib.hid (hRr.below HB0.out)
  have HNR := Lib.hid (And.intro hnr hmr)
  have HTA := Lib.hid (And.intro hta htt)
  have cZ := fun W => zero_eqF W
  have cA1 := awake20 _ (HL.out.below HB0.out)
  clear hl hle hRr hnr hmr hta htt
  go_enter Tryz.func3, Tryz.ntmps3
  go_wp2_with fail
  refine cA1.mono ?_
  rintro e W1 ⟨rfl, hb1⟩
  have HB1 := Lib.hid (HB0.out.trans (hb1.mono HB0.out.size))
  have HQ1 := Lib.hid (HQ0.out.below hb1 HQ0.out.lt)
  have HRR1 := Lib.hid (HRR0.out.below (hb1.mono HB0.out.size))
  clear hb1 HB0 HQ0 HRR0 cA1
  go_wp2_with fail
  refine (CutO_any Ar nr cr w.heap.size 40 lr W1 HRR1.out HNR.out.1 HNR.out.2 (by decide) HB1.out.size).mono ?_
  rintro e w5 ⟨vc, rfl, hoc, hbc⟩
  obtain ⟨A2, c2, rfl, hr2, hz2⟩ := own_at hoc
  obtain ⟨q2, hq2⟩ : ∃ q, lr.take 40 = q := ⟨_, rfl⟩
  have hq2l : q2.length ≤ 60 := by rw [← hq2, List.length_take]; omega
  rw [hq2] at hr2 hz2
  rw [hq2]
  have HW := Lib.hid hr2
  have HZ2 := Lib.hid (And.intro hz2 hq2l)
  have HE := Lib.hid (HQ1.out.below hbc HQ1.out.lt)
  have HB := Lib.hid (HB1.out.trans (hbc.mono HB1.out.size))
  clear HQ1 HB1 HRR1 HNR hoc hbc hr2 hz2 hq2 hq2l
  obtain ⟨n0, n1, n2, n3, n4, n5, n6, n7, n8, n9, n10, n11, n12, n13⟩ := blk14 HE.out
  go_wp2_with fail
  refine (cBy _).mono ?_
  rintro e w6 ⟨v6, rfl, ⟨A6, g6, rfl, hrg6⟩, hb6⟩
  have HE6 := Lib.hid (HE.out.below hb6 HE.out.lt)
  have HB6 := Lib.hid (HB.out.trans (hb6.mono HB.out.size))
  have HW6 := Lib.hid (rd_laterF HW.out hb6)
  have HP6 := Lib.hid hrg6
  have hz6 : A6 ≠ none := fun e => by
    subst e
    obtain ⟨g, o, h, _⟩ := hrg6 HLL.out.1
    cases h
  have HPZ := Lib.hid hz6
  clear hb6 hrg6 hz6 HE HB HW n0 n1 n2 n3 n4 n5 n6 n7 n8 n9 n10 n11 n12 n13 cBy
  obtain ⟨n0, n1, n2, n3, n4, n5, n6, n7, n8, n9, n10, n11, n12, n13⟩ := blk14 HE6.out
  go_wp2_with fail
  refine (cO _).mono ?_
  rintro e w6b ⟨rfl, hb6⟩
  have HE6b := Lib.hid (HE6.out.below hb6 HE6.out.lt)
  have HB6b := Lib.hid (HB6.out.trans (hb6.mono HB6.out.size))
  have HW6b := Lib.hid (rd_laterF HW6.out hb6)
  have HP6b := Lib.hid (rd_laterF HP6.out hb6)
  clear hb6 HE6 HB6 HW6 HP6 n0 n1 n2 n3 n4 n5 n6 n7 n8 n9 n10 n11 n12 n13
  go_wp2_with fail
  refine (cQ _).mono ?_
  rintro e w6c ⟨rfl, hb7⟩
  have HE6c := Lib.hid (HE6b.out.below hb7 HE6b.out.lt)
  have HB6c := Lib.hid (HB6b.out.trans (hb7.mono HB6b.out.size))
  have HW6c := Lib.hid (rd_laterF HW6b.out hb7)
  have HP6c := Lib.hid (rd_laterF HP6b.out hb7)
  clear hb7 HE6b HB6b HW6b HP6b cQ
  obtain ⟨n0, n1, n2, n3, n4, n5, n6, n7, n8, n9, n10, n11, n12, n13⟩ := blk14 HE6c.out
  go_wp2_with fail
  refine (cR _).mono ?_
  rintro e w7 ⟨rfl, hb7⟩
  have HE7 := Lib.hid (HE6c.out.below hb7 HE6c.out.lt)
  have HB7 := Lib.hid (HB6c.out.trans (hb7.mono HB6c.out.size))
  have HW7 := Lib.hid (rd_laterF HW6c.out hb7)
  have HP7 := Lib.hid (rd_laterF HP6c.out hb7)
  clear hb7 HE6c HB6c HW6c HP6c cR n0 n1 n2 n3 n4 n5 n6 n7 n8 n9 n10 n11 n12 n13
  have HPA := Lib.hid (cPa A6 L.length g6 w7.heap.size w7 HP7.out rfl (by have := HLL.out.2; omega) (Nat.le_refl _) (fun e => absurd e HPZ.out))
  go_wp2_with fail
  refine HPA.out.mono ?_
  rintro e w8 ⟨rfl, hb8⟩
  have HE8 := Lib.hid (HE7.out.below hb8 HE7.out.lt)
  have HB8 := Lib.hid (HB7.out.trans (hb8.mono HB7.out.size))
  have HW8 := Lib.hid (rd_laterF HW7.out hb8)
  have HP8 := Lib.hid (rd_laterF HP7.out hb8)
  have hb9 := b_alloc w8 (.cells #[.int .u8 (k : Int), .int .u32 (a : Int), .int .u8 (K : Int), .int .i64 P, .int .u32 (R : Int), .int .u8 (B : Int), .int .i64 M, .int .i32 S, .int .i64 F, .int .i64 G, .int .u32 (s : Int), .int .i32 d, .int .u8 (ek : Int), .int .i64 m] 32)
  have hx9 := Blk.new w8 32 #[.int .u8 (k : Int), .int .u32 (a : Int), .int .u8 (K : Int), .int .i64 P, .int .u32 (R : Int), .int .u8 (B : Int), .int .i64 M, .int .i32 S, .int .i64 F, .int .i64 G, .int .u32 (s : Int), .int .i32 d, .int .u8 (ek : Int), .int .i64 m]
  have he9 := HE8.out.below hb9 HE8.out.lt
  obtain ⟨gx, hgx⟩ : ∃ g, w8.heap.size = g := ⟨_, rfl⟩
  obtain ⟨w9, hw9⟩ : ∃ X, w8.alloc (.cells #[.int .u8 (k : Int), .int .u32 (a : Int), .int .u8 (K : Int), .int .i64 P, .int .u32 (R : Int), .int .u8 (B : Int), .int .i64 M, .int .i32 S, .int .i64 F, .int .i64 G, .int .u32 (s : Int), .int .i32 d, .int .u8 (ek : Int), .int .i64 m] 32) = X := ⟨_, rfl⟩
  have HW9 := Lib.hid (And.intro hw9 hgx)
  have HB9 := Lib.hid (HB8.out.trans (hb9.mono HB8.out.size))
  have HW9r := Lib.hid (rd_laterF HW8.out hb9)
  have HP9 := Lib.hid (rd_laterF HP8.out hb9)
  rw [hw9] at HB9 HW9r HP9 hx9 he9
  rw [hgx] at hx9
  have HX9 := Lib.hid hx9
  have HE9 := Lib.hid he9
  clear hx9 he9 hw9 hgx hb9 hb8 HB8 HE8 HW8 HP8 HB7 HE7 HW7 HP7 HPA cPa
  go_upto_region 10 with (fail)
  rw [HW9.out.1, HW9.out.2]
  clear HW9
  obtain ⟨n0, n1, n2, n3, n4, n5, n6, n7, n8, n9, n10, n11, n12, n13⟩ := blk14 HE9.out
  go_wp2_with fail
  refine (cO _).mono ?_
  rintro e w10 ⟨rfl, hb10⟩
  have HB10 := Lib.hid (HB9.out.trans (hb10.mono HB9.out.size))
  have HX10 := Lib.hid (HX9.out.below hb10 HX9.out.lt)
  have HE10 := Lib.hid (HE9.out.below hb10 HE9.out.lt)
  have HW10 := Lib.hid (rd_laterF HW9r.out hb10)
  have HP10 := Lib.hid (rd_laterF HP9.out hb10)
  clear hb10 HB9 HX9 HE9 HW9r HP9 cO n0 n1 n2 n3 n4 n5 n6 n7 n8 n9 n10 n11 n12 n13
  go_wp2_with fail
  refine (cRB _).mono ?_
  rintro e w11 ⟨v11, rfl, ⟨A11, c11, rfl, hr11⟩, hb11⟩
  have HB11 := Lib.hid (HB10.out.trans (hb11.mono HB10.out.size))
  have HX11 := Lib.hid (HX10.out.below hb11 HX10.out.lt)
  have HE11 := Lib.hid (HE10.out.below hb11 HE10.out.lt)
  have HW11 := Lib.hid (rd_laterF HW10.out hb11)
  have HP11 := Lib.hid (rd_laterF HP10.out hb11)
  have HSM := Lib.hid (SameB (c := g6) (c' := c11) HP11.out rfl (by have := HLL.out.2; omega) hr11 rfl (by have := HLL.out.2; omega) rfl)
  clear hb11 hr11 HB10 HX10 HE10 HW10 HP10 cRB
  go_wp2_with fail
  refine HSM.out.mono ?_
  rintro e w12 ⟨rfl, hb12⟩
  have HB12 := Lib.hid (HB11.out.trans (hb12.mono HB11.out.size))
  have HX12 := Lib.hid (HX11.out.below hb12 HX11.out.lt)
  have HE12 := Lib.hid (HE11.out.below hb12 HE11.out.lt)
  have HW13 := Lib.hid (rd_laterF HW11.out hb12)
  have HP13 := Lib.hid (rd_laterF HP11.out hb12)
  have HB13 := HB12
  clear hb12 HB11 HX11 HE11 HW11 HP11 HSM
  obtain ⟨n0, n1, n2, n3, n4, n5, n6, n7, n8, n9, n10, n11, n12, n13⟩ := blk14 HE12.out
  obtain ⟨m0, m1, m2, m3, m4, m5, m6, m7, m8, m9, m10, m11, m12, m13⟩ := blk14 HX12.out
  have HJ := Lib.hid (Join1 (c := g6) HP13.out rfl (by have := HLL.out.2; omega))
  go_wp2_with fail
  refine HJ.out.mono ?_
  rintro e w14 ⟨v14, rfl, ho14, hb14⟩
  clear n0 n1 n2 n3 n4 n5 n6 n7 n8 n9 n10 n11 n12 n13 m0 m1 m2 m3 m4 m5 m6 m7 m8 m9 m10 m11 m12 m13 HX12 HE12 HB12 cE
  obtain ⟨j, hj⟩ : ∃ j, ta % L.length = j := ⟨_, rfl⟩
  have hjl : j < L.length := by rw [← hj]; exact Nat.mod_lt _ HLL.out.1
  have hje : ((ta : Int)).tmod (L.length : Int) = (j : Int) := by
    rw [← hj]
    rfl
  obtain ⟨gb, cb, rfl, hgb, hgs, ⟨u, hu⟩, hfz, hput⟩ := own_put ho14 hjl
  obtain ⟨u1, hu1⟩ := xor_of u tt
  obtain ⟨l15, hl15, hr15⟩ := hput u1
  have ita : IntKind.i64.wrap (ta : Int) = (ta : Int) := by have := HTA.out.1; rw [IntKind.wrap_i64]; omega
  have hb15 := hb14.setCell hgb (.int .u8 (u1.toNat : Int)) (p := ⟨gb, j, none⟩)
  obtain ⟨w15, hw15⟩ : ∃ X, w14.setCell ⟨gb, j, none⟩ (.int .u8 (u1.toNat : Int)) = X := ⟨_, rfl⟩
  have hs15 : w14.heap.size = w15.heap.size := by rw [← hw15]; simp [World.setCell]
  have HS15 := Lib.hid hs15
  rw [hw15] at hb15 hr15
  clear hs15
  have HW15 := Lib.hid hw15
  have HB7 := Lib.hid (HB13.out.trans (hb15.mono HB13.out.size))
  have HW7 := Lib.hid (rd_laterF HW13.out hb15)
  have HP7 := Lib.hid (rd_laterF HP13.out hb15)
  have HBT := Lib.hid hr15
  have HL15 := Lib.hid hl15
  have HLN : Hid (L.length ≤ 1000) := Lib.hid (by have := HLL.out.2; omega)
  have HLN2 : Hid (L.length ≤ 200) := Lib.hid HLL.out.2
  clear hb15 hw15 hr15 hput hl15 ho14 hb14 HB13 HW13 HP13 HJ hj hgb
  go_wp2_with fail
  rw [HW15.out, HS15.out]
  refine (JoinP (l := L) HP7.out rfl HLN.out).mono ?_
  rintro e w8 ⟨A8, c8, rfl, hr8, hz8, hb8⟩
  obtain ⟨q8, hq8⟩ : ∃ q, (L ++ [0] : List UInt8) = q := ⟨_, rfl⟩
  have hl8 : q8.length ≤ 1000 := by rw [← hq8, List.length_append]; simp only [List.length_cons, List.length_nil]; have := HLN2.out; omega
  rw [hq8] at hr8 hz8
  rw [hq8]
  have HEL := Lib.hid (els_new (T := 33) (c0 := cb) (rd_laterF HBT.out hb8) (rd_laterF HW7.out hb8) hr8 ⟨HL15.out, HLN.out, fun e => nomatch e⟩ ⟨rfl, by have := HZ2.out.2; omega, HZ2.out.1⟩ ⟨rfl, hl8, hz8⟩)
  have HB8 := Lib.hid ((HB7.out.trans (hb8.mono HB7.out.size)).alloc (HB7.out.trans (hb8.mono HB7.out.size)).size (.cells #[.slice (some ⟨gb, 0, none⟩) L.length cb, .slice A2 q2.length c2, .slice A8 q8.length c8] 33))
  clear hr8 hz8 hb8 hq8 hl8 HB7 HW7 HP7
  go_wp2_with fail
  obtain ⟨Rg, hRg⟩ : ∃ R, w8.heap.size = R := ⟨_, rfl⟩
  obtain ⟨w9, hw9⟩ : ∃ X, w8.alloc (.cells #[.slice (some ⟨gb, 0, none⟩) L.length cb, .slice A2 q2.length c2, .slice A8 q8.length c8] 33) = X := ⟨_, rfl⟩
  have hEL := HEL.out
  have hB9 := HB8.out
  rw [hRg, hw9] at hEL
  rw [hw9] at hB9
  rw [hRg, hw9]
  have HEL9 := Lib.hid hEL
  have HB9 := Lib.hid hB9
  clear hEL hB9 hRg hw9 HEL HB8
  go_loopw [14, 15, 16, 84] (fun _ _ _ i wr => ∃ (k : Nat), k ≤ 3 ∧ i = .int .i64 k ∧ Hid (Below w9.heap.size w9 wr)) (fun _ _ _ i _ => 3 - (intOf i).toNat)
  case atStart => exact ⟨0, by omega, rfl, Lib.hid (Below.refl _ _)⟩
  case round =>
    obtain ⟨j, hk, rfl, HBk⟩ := hrel
    by_cases hlt : j < 3
    · obtain ⟨A9, n9, c9, q, hc9, hr9, hn9, hm9, hz9⟩ := HEL9.out.2 j hlt
      have hc9 := (HBk.out.cell (p := ⟨Rg, j, none⟩) HEL9.out.1).trans hc9
      have hr9 := rd_laterF hr9 HBk.out
      have HPA := Lib.hid (Parse_any A9 n9 c9 wr.heap.size q wr hr9 hn9 (by omega) (Nat.le_refl _) hz9)
      have HR9 := Lib.hid hr9
      have HN9 := Lib.hid (And.intro hn9 (And.intro hm9 hz9))
      clear hr9 hn9 hm9 hz9
      go_wp2_with fail
      refine HPA.out.mono ?_
      rintro e w10 ⟨hp, hb10⟩
      have HB10 := Lib.hid (HBk.out.trans (hb10.mono HBk.out.size))
      have HR10 := Lib.hid (rd_laterF HR9.out hb10)
      clear hb10 HBk HR9 HPA hc9
      rcases hp with ⟨o2, hI2, hR2, hL2, rfl⟩ | ⟨-, rfl⟩
      · have hBy := fun W => oBytesF hI2 hR2 W
        rw [hL2] at hBy
        clear hL2 hR2 hI2
        obtain ⟨k2, a2, ⟨K2, P2, R2, B2, M2, S2, F2, G2⟩, s2, d2, ek2, m2⟩ := o2
        change ∀ W, Calls Tryz.prog _ #[.agg #[.int .u8 (k2 : Int), .int .u32 (a2 : Int), .int .u8 (K2 : Int), .int .i64 P2, .int .u32 (R2 : Int), .int .u8 (B2 : Int), .int .i64 M2, .int .i32 S2, .int .i64 F2, .int .i64 G2, .int .u32 (s2 : Int), .int .i32 d2, .int .u8 (ek2 : Int), .int .i64 m2]] W _ at hBy
        unfold Ord.v Ord.cs
        dsimp only
        have hb11 := b_alloc w10 (.cells #[.int .u8 (k2 : Int), .int .u32 (a2 : Int), .int .u8 (K2 : Int), .int .i64 P2, .int .u32 (R2 : Int), .int .u8 (B2 : Int), .int .i64 M2, .int .i32 S2, .int .i64 F2, .int .i64 G2, .int .u32 (s2 : Int), .int .i32 d2, .int .u8 (ek2 : Int), .int .i64 m2] 32)
        have HBY := Lib.hid (hBy (w10.alloc (.cells #[.int .u8 (k2 : Int), .int .u32 (a2 : Int), .int .u8 (K2 : Int), .int .i64 P2, .int .u32 (R2 : Int), .int .u8 (B2 : Int), .int .i64 M2, .int .i32 S2, .int .i64 F2, .int .i64 G2, .int .u32 (s2 : Int), .int .i32 d2, .int .u8 (ek2 : Int), .int .i64 m2] 32)))
        have HB11 := Lib.hid (HB10.out.trans (hb11.mono HB10.out.size))
        have HR11 := Lib.hid (rd_laterF HR10.out hb11)
        clear hBy hb11 HB10 HR10
        go_wp2_with fail
        refine HBY.out.mono ?_
        rintro e w12 ⟨vb, rfl, ⟨A', g', rfl, hrg⟩, hb12⟩
        have HSM := Lib.hid (SameB (c := g') (c' := c9) hrg rfl (by have := HN9.out.1; have := HN9.out.2.1; omega) (rd_laterF HR11.out hb12) HN9.out.1 HN9.out.2.1 rfl)
        have HB12 := Lib.hid (HB11.out.trans (hb12.mono HB11.out.size))
        clear hb12 hrg HR11 HB11 HBY
        go_wp2_with fail
        refine HSM.out.mono ?_
        rintro e w13 ⟨rfl, hb13⟩
        have HB13 := Lib.hid (HB12.out.trans (hb13.mono HB12.out.size))
        clear hb13 HSM HB12
        go_wp2_with fail
        go_roundw
        case rel => exact ⟨j + 1, by omega, by go_num, HB13⟩
        case measure => simp [intOf]; omega
      · have hb11 := b_alloc w10 (.cells #[.int .u8 0, .int .u32 0, .int .u8 0, .int .i64 0, .int .u32 0, .int .u8 0, .int .i64 0, .int .i32 0, .int .i64 0, .int .i64 0, .int .u32 0, .int .i32 0, .int .u8 0, .int .i64 0] 32)
        have hk11 := Blk.new w10 32 #[.int .u8 0, .int .u32 0, .int .u8 0, .int .i64 0, .int .u32 0, .int .u8 0, .int .i64 0, .int .i32 0, .int .i64 0, .int .i64 0, .int .u32 0, .int .i32 0, .int .u8 0, .int .i64 0]
        have HB11 := Lib.hid (HB10.out.trans (hb11.mono HB10.out.size))
        have HCO := Lib.hid (Code_errno 2 _ (HLE.out.below (HB9.out.trans (HB11.out.mono HB9.out.size))))
        obtain ⟨gx, hgx⟩ : ∃ g, w10.heap.size = g := ⟨_, rfl⟩
        rw [hgx] at hk11
        have HKX := Lib.hid hk11
        have HGX := Lib.hid hgx
        clear hb11 hk11 hgx HB10 HR10
        unfold zeroP
        go_wp2_with fail
        rw [HGX.out]
        refine HCO.out.mono ?_
        rintro e w12 ⟨rfl, hb12⟩
        have HK12 := Lib.hid (HKX.out.below hb12 HKX.out.lt)
        have HB12 := Lib.hid (HB11.out.trans (hb12.mono HB11.out.size))
        clear hb12 HB11 HKX HCO HGX
        obtain ⟨v0, v1, v2, v3, v4, v5, v6, v7, v8, v9, v10, v11, v12, v13⟩ := blk14 HK12.out
        go_wp2_with fail
        go_roundw
        case rel => exact ⟨j + 1, by omega, by go_num, HB12⟩
        case measure => simp [intOf]; omega
    · obtain rfl : j = 3 := by omega
      go_wp2_with fail
      go_ret
      exact ⟨rfl, HB9.out.trans (HBk.out.mono HB9.out.size)⟩
theorem OForms_any (o : Ord) (hi : o.In) (Ar : Option Addr) (nr cr : Nat) (lr : List UInt8) (ta tt : Nat) (hta : ta < 65536) (htt : tt < 256) (w : World) (hl : TLd w) (hle : Laid w) (hRr : Rd w w.heap.size Ar lr) (hnr : lr.length = nr) (hmr : nr ≤ 140737488355328) :
    Calls Tryz.prog 3 #[o.v, .slice Ar nr cr, .int .u16 (ta : Int), .int .u8 (tt : Int)] w (Ret (.bool true) w) := by
  have cO := fun W => own20 o hi W
  by_cases ho : o.Right
  · have cQ := fun W => RR_any o hi true (by simp [ho]) W
    have cR := fun W => ORight_true ho W
    have cBy := fun W => oBytesF hi ho W
    have cRB := fun W => RBytes20 hi ho W
    have hle2 := layO_len hi ho
    have hpo : 0 < (layO o).length := by
      rw [layO_tl, List.length_append]
      have h9 : 0 < (layN 0 o.k).length := by unfold layN; simp
      omega
    have cE : ∀ W, (Op.equalIn 10000 32 o.v o.v).run Tryz.prog W = .ok true W := fun W => by
      haveI := Classical.propDecidable (o = o)
      rw [eqO o o W, decide_eq_true rfl]
    have cPa := fun A n c Bd W h1 h2 h3 h4 h5 => Parse_own hi ho A n c Bd W h1 h2 h3 h4 h5
    generalize layO o = L at *
    obtain ⟨k, a, ⟨K, P, R, B, M, S, F, G⟩, s, d, ek, m⟩ := o
    exact OForms_yes ⟨hpo, hle2⟩ Ar nr cr lr ta tt hta htt w hl hle hRr hnr hmr cO cQ cR cBy cRB cE cPa
  · have cQ := fun W => RR_any o hi false (by simp [ho]) W
    have cR := fun W => ORight_false ho W
    have cBy := fun W => OBytes_no ho W
    obtain ⟨k, a, ⟨K, P, R, B, M, S, F, G⟩, s, d, ek, m⟩ := o
    exact OForms_no Ar nr cr lr ta tt hta htt w hl hle hRr hnr hmr cO cQ cR cBy
end Go.Proofs.YtjlajnackecfgaaGreatDoor
