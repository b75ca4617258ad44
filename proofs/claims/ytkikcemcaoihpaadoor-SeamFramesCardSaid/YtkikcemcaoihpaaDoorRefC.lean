/-
  The reference's Check is the program's: bit by bit. Conditions: the bytes are there.
-/
import Derived.Test.YtkikcemcaoihpaaDoorRefB
namespace Go.Proofs.YtkikcemcaoihpaaDoor
open Go.RowKit

theorem all_append (s : Nat) (l : List UInt8) : Crc.dvd (Crc.dvd 4294967295 (Crc.wrd s)) l = Crc.dvd 4294967295 (Crc.wrd s ++ l) := (Crc.dvd_append _ _ _).symm

theorem poly_walk {y : Nat} (hy : y < 4294967296) : bits .xor .u64 ((y : Int) / 2) 3988292384 = ((y / 2 ^^^ 3988292384 : Nat) : Int) := by
  rw [u64_xor _ _ (by omega) (by omega) (by omega) (by omega)]
  have e : ((y : Int) / 2).toNat = y / 2 := by omega
  rw [e]
  rfl

set_option maxHeartbeats 2000000 in
theorem RefCheck_any (s : Nat) (A : Option Addr) (n c B : Nat) (l : List UInt8) (w : World) (hs : s < 4294967296) (hR : Rd w B A l) (hB : B ≤ w.heap.size) (hn : l.length = n) (hm : n ≤ 1000000) :
    Calls Tryd.prog 37 #[.int .u32 s, .slice A n c] w fun e w' => e = .returned (.int .u32 (Crc.chk s l : Nat)) ∧ Below w.heap.size w w' := by
  have HN := Lib.hid hn
  clear hn
  have HR := Lib.hid hR
  clear hR
  go_enter Tryd.func37, Tryd.ntmps37
  go_wp2_with fail
  refine (Word_any s _ hs).mono ?_
  rintro e w1 ⟨A1, c1, rfl, _, _, h1r, h1w⟩
  rw [Crc.wrd_length]
  have H1r := Lib.hid h1r
  have HR1 := Lib.hid (HR.out.below (h1w.mono hB))
  have hs1 := h1w.size
  clear h1r
  go_wp2_with fail
  refine (Join_two _ _ 4 n _ _ _ _ _ _ w1 H1r.out (Nat.le_refl _) HR1.out (by omega) rfl HN.out (by omega)).mono ?_
  rintro e w2 ⟨A2, c2, rfl, _, _, h2r, h2w⟩
  have hb2 := h1w.trans (h2w.mono h1w.size)
  have hjl : (Crc.wrd s ++ l).length = 4 + n := by rw [List.length_append, Crc.wrd_length, HN.out]
  have HE : Hid (Crc.chk s l = 4294967295 ^^^ Crc.dvd 4294967295 (Crc.wrd s ++ l)) := Lib.hid (by rw [← all_append]; rfl)
  rw [hjl]
  clear h1w h2w hs1
  generalize Crc.wrd s ++ l = q at h2r hjl HE
  obtain ⟨m, hqm⟩ : ∃ m, m = 4 + n := ⟨_, rfl⟩
  rw [← hqm] at hjl ⊢
  have hm2 : m ≤ 2000000 := by omega
  have HJ := Lib.hid hjl
  have HQ := Lib.hid h2r
  clear hqm hjl h2r
  go_wp2_with fail
  go_loop [5, 17] (fun t i => ∃ k : Nat, k ≤ m ∧ i = .int .i64 k ∧ t = .int .u64 (Crc.dvd 4294967295 (q.take k) : Nat)) (fun _ i => m - (intOf i).toNat)
  case atStart => exact ⟨0, Nat.zero_le _, rfl, rfl⟩
  case round =>
    obtain ⟨k, hk, rfl, rfl⟩ := hrel
    by_cases hlt : k < m
    · have hkq : k < q.length := by rw [HJ.out]; exact hlt
      obtain ⟨b, o, rfl, _, hc⟩ := HQ.out.at_ hkq
      have hd := Crc.dvd_lt (q.take k) (show 4294967295 < 4294967296 by decide)
      have hu := Crc.u8_lt q[k]
      have HS := Lib.hid (Crc.dvd_take 4294967295 q k hkq)
      generalize (q[k]).toNat = x at hc hu HS
      generalize Crc.dvd 4294967295 (q.take k) = D at hd HS ⊢
      have hX := Crc.xor_lt hd (show x < 4294967296 by omega)
      have HX0 : Hid (D = bitAt (D ^^^ x) x 0) := Lib.hid (by unfold bitAt; simp [Crc.stpN, Nat.xor_assoc])
      generalize D ^^^ x = X at hX HX0 HS
      go_wp2_with fail
      go_loop [5, 8] (fun t i => ∃ j : Nat, j ≤ 8 ∧ i = .int .i64 j ∧ t = .int .u64 (bitAt X x j : Nat)) (fun _ i => 8 - (intOf i).toNat)
      case atStart => exact ⟨0, Nat.zero_le _, rfl, by rw [← HX0.out]⟩
      case round =>
        obtain ⟨j, hj, rfl, rfl⟩ := hrel
        by_cases hjl : j < 8
        · have hy := bitAt_lt (i := j) hX hu
          have hodd := bitAt_odd X x j
          have HB := Lib.hid (bitAt_next X x j)
          have hxj : x / 2 ^ j ≤ x := Nat.div_le_self ..
          have e1 : ((x / 2 ^ j : Nat) : Int) = (x : Int) / 2 ^ j := by simp
          by_cases hb : Crc.stpN j X % 2 = 1
          · rw [hb] at hodd
            rw [if_pos hb] at HB
            generalize bitAt X x j = y at hy hodd HB ⊢
            generalize x / 2 ^ j = z at hodd hxj e1
            have hod : ((y : Int) % 2 + (x : Int) / 2 ^ j) % 2 = 1 := by rw [← e1]; omega
            have hz2 : (x : Int) / 2 ^ j ≤ 255 := by rw [← e1]; omega
            have hz3 : 0 ≤ (x : Int) / 2 ^ j := by rw [← e1]; omega
            clear e1 hodd
            have HP := Lib.hid (poly_walk hy)
            go_wp2_with fail
            go_round
            case rel => exact ⟨j + 1, by omega, by go_num, by rw [HB.out, ← HP.out]⟩
            case measure => simp [intOf]; omega
          · rw [if_neg hb] at HB
            generalize bitAt X x j = y at hy hodd HB ⊢
            generalize x / 2 ^ j = z at hodd hxj e1
            have hod : ((y : Int) % 2 + (x : Int) / 2 ^ j) % 2 = 0 := by rw [← e1]; omega
            have hz2 : (x : Int) / 2 ^ j ≤ 255 := by rw [← e1]; omega
            have hz3 : 0 ≤ (x : Int) / 2 ^ j := by rw [← e1]; omega
            clear e1 hodd
            go_wp2_with fail
            go_round
            case rel => exact ⟨j + 1, by omega, by go_num, by rw [HB.out]; simp⟩
            case measure => simp [intOf]; omega
        · obtain rfl : j = 8 := by omega
          have HE8 := Lib.hid (bitAt_end X x hu)
          go_wp2_with fail
          go_round
          case rel => exact ⟨k + 1, by omega, by go_num, by rw [HS.out, HE8.out]⟩
          case measure => simp [intOf]; omega
    · obtain rfl : k = m := by omega
      rw [List.take_of_length_le (by rw [HJ.out]; exact Nat.le_refl _)]
      have hd := Crc.dvd_lt q (show 4294967295 < 4294967296 by decide)
      have HF : Hid (Crc.chk s l = 4294967295 - Crc.dvd 4294967295 q) := Lib.hid (by rw [HE.out, xor_ones _ hd])
      generalize Crc.dvd 4294967295 q = D at hd HF ⊢
      go_wp2_with fail
      go_ret
      refine ⟨?_, hb2⟩
      rw [HF.out]
      exact congrArg (fun z : Int => Ending.returned (.int .u32 z)) (show 4294967295 - (D : Int) = ((4294967295 - D : Nat) : Int) by omega)
end Go.Proofs.YtkikcemcaoihpaaDoor
