/-
  drum.Turn: bits of a sector turned, one by one. Conditions: the drum is known whole, the sector and the bit are there.
-/
import Derived.Test.YthljcekodlbplaaDoorDrumL
import Derived.BigRegion
import Derived.RegionTactic
namespace Go.Proofs.YthljcekodlbplaaDoor
open Go.RowKit

section
variable {w : World} {base d f g : Nat} {V : Option Addr} {cv : Nat} {T : Tails} {fl : List (List UInt8)} {ws : List (Nat × List UInt8)} {ls : List Nat} {left : Int}

theorem turnK_full {fl : List (List UInt8)} (h : ∀ s ∈ fl, s.length = 256) {i : Nat} (hi : i < fl.length) (bit mask k : Nat) : (turnK (fl.getD i []) bit mask k).length = 256 := by rw [turnK_length, getD_full h hi]

theorem and_one (y : Nat) (h1 : y < 4294967296) : bits .and .u32 (y : Int) 1 = ((y % 2 : Nat) : Int) := by
  rw [u32_and _ _ (by omega) (by omega) (by omega) (by omega)]
  have : ((y : Int).toNat &&& (1 : Int).toNat) = y % 2 := Nat.and_two_pow_sub_one_eq_mod _ 1
  rw [this]
theorem mask_bit (mask k : Nat) (hm : mask < 4294967296) : (bits .and .u32 ((mask : Int) / 2 ^ k) 1 == 1) = mask.testBit k := by
  have h1 : mask / 2 ^ k < 4294967296 := Nat.lt_of_le_of_lt (Nat.div_le_self _ _) hm
  have e0 : ((mask : Int) / 2 ^ k) = ((mask / 2 ^ k : Nat) : Int) := by push_cast; rfl
  rw [e0, and_one _ h1, Nat.testBit_eq_decide_div_mod_eq]
  rcases Nat.mod_two_eq_zero_or_one (mask / 2 ^ k) with h | h <;> rw [h] <;> rfl
theorem xor_two (x : UInt8) (y : Nat) (hy : y < 256) : bits .xor .u8 (x.toNat : Int) ((y : Int) % 256) = ((x.toNat ^^^ y : Nat) : Int) := by
  have hx : x.toNat < 256 := x.toNat_lt
  rw [u8_xor _ _ (by omega) (by omega) (by omega) (by omega), show ((y : Int) % 256).toNat = y by omega]
  rfl
theorem xor8 (x : UInt8) (j : Nat) (hj : j < 8) : bits .xor .u8 (x.toNat : Int) (2 ^ j % 256) = (((UInt8.ofNat (x.toNat ^^^ 2 ^ j)).toNat : Nat) : Int) := by
  have h2 : 2 ^ j < 256 := Nat.pow_lt_pow_right (m := j) (n := 8) (by decide) hj
  have e0 : ((2 : Int) ^ j) = ((2 ^ j : Nat) : Int) := by push_cast; rfl
  rw [e0, xor_two x _ h2, UInt8.toNat_ofNat', Nat.mod_eq_of_lt (xor_u8 _ _ hj)]
theorem sect_cell {w : World} {f : Nat} {fl : List (List UInt8)} {tf : Array Value} (h : Blk w f 73 (flatS fl ++ tf)) (hf : ∀ s ∈ fl, s.length = 256) (i j : Nat) (hi : i < fl.length) (hj : j < 256) : w.cell? ⟨f, i * 256 + j, none⟩ = some (.int .u8 ((((fl.getD i []).getD j 0).toNat : Nat) : Int)) := by
  rw [h.cell, flatS_get _ hf, if_pos (by have := Nat.mul_le_mul_right 256 hi; rw [Nat.succ_mul] at this; omega), show (i * 256 + j) / 256 = i by omega, show (i * 256 + j) % 256 = j by omega]
  rfl

set_option maxRecDepth 20000 in
set_option maxHeartbeats 2000000 in
theorem Turn_any (i bit mask : Nat) (h : Dru w base d f g V cv T fl ws ls left) (hi : i < fl.length) (hb : bit < 2048) (hm : mask < 4294967296) :
    Calls Tryd.prog 18 #[.pointer (some ⟨d, 0, none⟩), .int .i64 (i : Int), .int .i64 (bit : Int), .int .u32 (mask : Int)] w fun e w' =>
      e = .returned .nilIface ∧ Dru w' base d f g V cv T (fl.set i (turnK (fl.getD i []) bit mask (min 32 (2048 - bit)))) ws ls left ∧ w.grownBy w' (some f) := by
  obtain ⟨m, hmm⟩ : ∃ m, m = min 32 (2048 - bit) := ⟨_, rfl⟩
  rw [← hmm]
  have hm1 : m ≤ 32 := by omega
  have hm2 : bit + m ≤ 2048 := by omega
  have n1 : ¬ (bit : Int) < 0 := by omega
  have n2 : ¬ 2048 ≤ (bit : Int) := by omega
  have hmin : (if (32 : Int) < 2048 - (bit : Int) then (32 : Int) else 2048 - (bit : Int)) = (m : Int) := by split <;> omega
  have HM := Lib.hid hmm
  have H := Lib.hid h
  have hh := h.head
  clear hmm h
  go_enter Tryd.func18, Tryd.ntmps18
  go_wp2_with fail
  refine (has_any (i : Int) hh).mono ?_
  rintro e w1 ⟨rfl, rfl⟩
  rw [decide_eq_true (show (0 : Int) ≤ (i : Int) ∧ (i : Int) < (fl.length : Int) by omega)]
  go_wp2
  · have em : 2048 - (bit : Int) = (m : Int) := by have := HM.out; omega
    rw [em]
    clear hmin
    go_loopw [9, 27] (fun _ z wr => ∃ k : Nat, k ≤ m ∧ z = .int .i64 k ∧ Blk wr f 73 (flatS (fl.set i (turnK (fl.getD i []) bit mask k)) ++ T.tf) ∧ w1.grownBy wr (some f)) (fun _ z _ => m - (intOf z).toNat)
    case atStart =>
      refine ⟨0, Nat.zero_le _, rfl, ?_, grown_refl _ _⟩
      have e : fl.set i (turnK (fl.getD i []) bit mask 0) = fl := by
        show fl.set i (fl.getD i []) = fl
        rw [List.getD_eq_getElem?_getD, List.getElem?_eq_getElem hi]
        exact List.set_getElem_self hi
      rw [e]
      exact H.out.rows
    case round =>
      obtain ⟨k, hk, rfl, hb1, hg1⟩ := hrel
      by_cases hlt : k < m
      · have hd := H.out.head.grown hg1 (fun e => H.out.far.2.2.2.1 (by injection e))
        obtain ⟨c0, -, -, -, -, -, -⟩ := dhead_cells hd
        have hff := set_full H.out.full i (turnK_full H.out.full hi bit mask k)
        obtain ⟨x, hx⟩ : ∃ x, x = (turnK (fl.getD i []) bit mask k).getD ((bit + k) / 8) 0 := ⟨_, rfl⟩
        have hc : wr.cell? ⟨f, i * 256 + (bit + k) / 8, none⟩ = some (.int .u8 (x.toNat : Int)) := by
          rw [sect_cell hb1 hff i ((bit + k) / 8) (by rw [List.length_set]; exact hi) (by omega), getD_set _ _ _ _ _ hi, if_pos rfl, ← hx]
        have hfz := hb1.frozen (i * 256 + (bit + k) / 8)
        have hst := flatS_set1 _ hff T.tf i ((bit + k) / 8) (UInt8.ofNat (x.toNat ^^^ 2 ^ ((bit + k) % 8))) (by rw [List.length_set]; exact hi) (by omega)
        rw [getD_set _ _ _ _ _ hi, if_pos rfl, List.set_set] at hst
        have HST := Lib.hid hst
        have HB1 := Lib.hid hb1
        have HG1 := Lib.hid hg1
        have HX := Lib.hid hx
        have hxl : x.toNat < 256 := x.toNat_lt
        have i0 : (0 : Int) ≤ (i : Int) := by omega
        have i1 : (i : Int) < (fl.length : Int) := by omega
        have k0 : (0 : Int) ≤ ((bit : Int) + (k : Int)) / 8 := by omega
        have k1 : ((bit : Int) + (k : Int)) / 8 < 256 := by omega
        clear hb1 hg1 hx hd hff hst
        go_wp2
        · rename_i hbit
          rw [mask_bit mask k hm] at hbit
          have HT : Hid (turnK (fl.getD i []) bit mask (k + 1) = (turnK (fl.getD i []) bit mask k).set ((bit + k) / 8) (UInt8.ofNat (x.toNat ^^^ 2 ^ ((bit + k) % 8)))) := Lib.hid (by
            rw [turnK, if_pos hbit, turn1, ← HX.out])
          go_region
          go_wp2
          go_roundw
          case rel =>
            refine ⟨k + 1, by omega, by go_num, ?_, ?_⟩
            · have h := (HB1.out.set_ (i * 256 + (bit + k) / 8) (.int .u8 (((UInt8.ofNat (x.toNat ^^^ 2 ^ ((bit + k) % 8))).toNat : Nat) : Int))).drew
              rw [HST.out, ← HT.out] at h
              rw [xor8 _ _ (by omega)]
              exact h
            · exact grown_drew (grown_setCell HG1.out (.inl rfl) _)
          case measure => simp [intOf]; omega
        · rename_i hbit
          rw [mask_bit mask k hm] at hbit
          go_roundw
          case rel =>
            refine ⟨k + 1, by omega, by go_num, ?_, HG1.out⟩
            have e : turnK (fl.getD i []) bit mask (k + 1) = turnK (fl.getD i []) bit mask k := by
              rw [turnK, if_neg (by rw [hbit]; decide)]
            rw [e]
            exact HB1.out
          case measure => simp [intOf]; omega
      · obtain rfl : m = k := by omega
        have HB1 := Lib.hid hb1
        have HG1 := Lib.hid hg1
        clear hb1 hg1
        go_wp2
        go_ret
        exact ⟨rfl, H.out.sectors (by rw [List.length_set]) (set_full H.out.full i (turnK_full H.out.full hi bit mask m)) HG1.out HB1.out, HG1.out⟩
  · have em : (32 : Int) = (m : Int) := by have := HM.out; omega
    rw [em]
    clear hmin
    go_loopw [9, 27] (fun _ z wr => ∃ k : Nat, k ≤ m ∧ z = .int .i64 k ∧ Blk wr f 73 (flatS (fl.set i (turnK (fl.getD i []) bit mask k)) ++ T.tf) ∧ w1.grownBy wr (some f)) (fun _ z _ => m - (intOf z).toNat)
    case atStart =>
      refine ⟨0, Nat.zero_le _, rfl, ?_, grown_refl _ _⟩
      have e : fl.set i (turnK (fl.getD i []) bit mask 0) = fl := by
        show fl.set i (fl.getD i []) = fl
        rw [List.getD_eq_getElem?_getD, List.getElem?_eq_getElem hi]
        exact List.set_getElem_self hi
      rw [e]
      exact H.out.rows
    case round =>
      obtain ⟨k, hk, rfl, hb1, hg1⟩ := hrel
      by_cases hlt : k < m
      · have hd := H.out.head.grown hg1 (fun e => H.out.far.2.2.2.1 (by injection e))
        obtain ⟨c0, -, -, -, -, -, -⟩ := dhead_cells hd
        have hff := set_full H.out.full i (turnK_full H.out.full hi bit mask k)
        obtain ⟨x, hx⟩ : ∃ x, x = (turnK (fl.getD i []) bit mask k).getD ((bit + k) / 8) 0 := ⟨_, rfl⟩
        have hc : wr.cell? ⟨f, i * 256 + (bit + k) / 8, none⟩ = some (.int .u8 (x.toNat : Int)) := by
          rw [sect_cell hb1 hff i ((bit + k) / 8) (by rw [List.length_set]; exact hi) (by omega), getD_set _ _ _ _ _ hi, if_pos rfl, ← hx]
        have hfz := hb1.frozen (i * 256 + (bit + k) / 8)
        have hst := flatS_set1 _ hff T.tf i ((bit + k) / 8) (UInt8.ofNat (x.toNat ^^^ 2 ^ ((bit + k) % 8))) (by rw [List.length_set]; exact hi) (by omega)
        rw [getD_set _ _ _ _ _ hi, if_pos rfl, List.set_set] at hst
        have HST := Lib.hid hst
        have HB1 := Lib.hid hb1
        have HG1 := Lib.hid hg1
        have HX := Lib.hid hx
        have hxl : x.toNat < 256 := x.toNat_lt
        have i0 : (0 : Int) ≤ (i : Int) := by omega
        have i1 : (i : Int) < (fl.length : Int) := by omega
        have k0 : (0 : Int) ≤ ((bit : Int) + (k : Int)) / 8 := by omega
        have k1 : ((bit : Int) + (k : Int)) / 8 < 256 := by omega
        clear hb1 hg1 hx hd hff hst
        go_wp2
        · rename_i hbit
          rw [mask_bit mask k hm] at hbit
          have HT : Hid (turnK (fl.getD i []) bit mask (k + 1) = (turnK (fl.getD i []) bit mask k).set ((bit + k) / 8) (UInt8.ofNat (x.toNat ^^^ 2 ^ ((bit + k) % 8)))) := Lib.hid (by
            rw [turnK, if_pos hbit, turn1, ← HX.out])
          go_region
          go_wp2
          go_roundw
          case rel =>
            refine ⟨k + 1, by omega, by go_num, ?_, ?_⟩
            · have h := (HB1.out.set_ (i * 256 + (bit + k) / 8) (.int .u8 (((UInt8.ofNat (x.toNat ^^^ 2 ^ ((bit + k) % 8))).toNat : Nat) : Int))).drew
              rw [HST.out, ← HT.out] at h
              rw [xor8 _ _ (by omega)]
              exact h
            · exact grown_drew (grown_setCell HG1.out (.inl rfl) _)
          case measure => simp [intOf]; omega
        · rename_i hbit
          rw [mask_bit mask k hm] at hbit
          go_roundw
          case rel =>
            refine ⟨k + 1, by omega, by go_num, ?_, HG1.out⟩
            have e : turnK (fl.getD i []) bit mask (k + 1) = turnK (fl.getD i []) bit mask k := by
              rw [turnK, if_neg (by rw [hbit]; decide)]
            rw [e]
            exact HB1.out
          case measure => simp [intOf]; omega
      · obtain rfl : m = k := by omega
        have HB1 := Lib.hid hb1
        have HG1 := Lib.hid hg1
        clear hb1 hg1
        go_wp2
        go_ret
        exact ⟨rfl, H.out.sectors (by rw [List.length_set]) (set_full H.out.full i (turnK_full H.out.full hi bit mask m)) HG1.out HB1.out, HG1.out⟩
end
end Go.Proofs.YthljcekodlbplaaDoor
