/-
  The reference's Turned: which bytes it leaves. Conditions: the bytes are there, and not too many.
-/
import Derived.Test.YtkikcemcaoihpaaDoorRefA
import Derived.Test.YtkikcemcaoihpaaDoorBurst
import Derived.BigRegion
namespace Go.Proofs.YtkikcemcaoihpaaDoor
open Go.RowKit

/-- Bytes with the first k bits of a mask turned, from a bit on. -/
def turnK (l : List UInt8) (at_ mask : Nat) : Nat → List UInt8
  | 0 => l
  | k + 1 => if (at_ + k) / 8 < l.length ∧ mask / 2 ^ k % 2 = 1 then (turnK l at_ mask k).set ((at_ + k) / 8) (UInt8.ofNat (((turnK l at_ mask k).getD ((at_ + k) / 8) 0).toNat ^^^ 2 ^ ((at_ + k) % 8))) else turnK l at_ mask k
theorem turnK_length (l : List UInt8) (at_ mask k : Nat) : (turnK l at_ mask k).length = l.length := by
  induction k with
  | zero => rfl
  | succ k ih => unfold turnK; split <;> simp [ih]
theorem mod_pow_succ (mask k : Nat) : mask % 2 ^ (k + 1) = mask % 2 ^ k + 2 ^ k * (mask / 2 ^ k % 2) := by
  rw [Nat.pow_succ, Nat.mod_mul]
theorem xor_byte {a b : Nat} (ha : a < 256) (hb : b < 256) : a ^^^ b < 256 := Nat.xor_lt_two_pow (n := 8) ha hb
/-- What is turned, byte by byte. -/
theorem turnK_at (l : List UInt8) (at_ mask k i : Nat) (hi : i < l.length) :
    ((turnK l at_ mask k).getD i 0).toNat = (l.getD i 0).toNat ^^^ ((mask % 2 ^ k) * 2 ^ at_ / 256 ^ i % 256) := by
  induction k with
  | zero => simp [turnK, Nat.mod_one]
  | succ k ih =>
    have hb : (2 : Nat) ^ ((at_ + k) % 8) < 256 := Nat.lt_of_le_of_lt (Nat.pow_le_pow_right (n := 2) (by decide) (show (at_ + k) % 8 ≤ 7 by omega)) (by decide)
    have hmul : (mask % 2 ^ (k + 1)) * 2 ^ at_ = (mask % 2 ^ k) * 2 ^ at_ + 2 ^ (at_ + k) * (mask / 2 ^ k % 2) := by
      rw [mod_pow_succ, Nat.add_mul, Nat.pow_add]
      congr 1
      rw [Nat.mul_right_comm, Nat.mul_comm (2 ^ k)]
    have hlt : (mask % 2 ^ k) * 2 ^ at_ < 2 ^ (at_ + k) := by
      rw [Nat.pow_add, Nat.mul_comm]
      exact Nat.mul_lt_mul_of_pos_left (Nat.mod_lt _ (Nat.pow_pos (by decide))) (Nat.pow_pos (by decide))
    rw [hmul]
    unfold turnK
    rcases Nat.mod_two_eq_zero_or_one (mask / 2 ^ k) with h0 | h1
    · rw [if_neg (by omega), h0, Nat.mul_zero, Nat.add_zero]
      exact ih
    · rw [h1, Nat.mul_one, Crc.add_xor _ _ hlt, Crc.byte_xor, Crc.bit_byte]
      by_cases hin : (at_ + k) / 8 < l.length
      · rw [if_pos ⟨hin, rfl⟩]
        by_cases hj : (at_ + k) / 8 = i
        · rw [if_pos hj, hj]
          have e : ((turnK l at_ mask k).set i (UInt8.ofNat (((turnK l at_ mask k).getD i 0).toNat ^^^ 2 ^ ((at_ + k) % 8)))).getD i 0 = UInt8.ofNat (((turnK l at_ mask k).getD i 0).toNat ^^^ 2 ^ ((at_ + k) % 8)) := by
            simp [List.getD, turnK_length, hi]
          rw [e, Crc.ofNat_toNat, Nat.mod_eq_of_lt (xor_byte (Crc.u8_lt _) hb), ih, Nat.xor_assoc]
        · rw [if_neg hj, Nat.xor_zero]
          have e : ((turnK l at_ mask k).set ((at_ + k) / 8) (UInt8.ofNat (((turnK l at_ mask k).getD ((at_ + k) / 8) 0).toNat ^^^ 2 ^ ((at_ + k) % 8)))).getD i 0 = (turnK l at_ mask k).getD i 0 := by
            simp [List.getD, hj]
          rw [e]
          exact ih
      · rw [if_neg (fun h => hin h.1), if_neg (by omega), Nat.xor_zero]
        exact ih

def TurnRel (g n : Nat) (l' : List UInt8) (wr : World) : Prop := ∃ cs : Array Value, Blk wr g 5 cs ∧ n ≤ cs.size ∧ ∀ i, i < n → cs[i]? = some (.int .u8 ((l'.getD i 0).toNat : Int))
theorem bit_val (w : World) (r : Nat) (hr : r < 8) :
    ((w.alloc (.cells #[.int .u8 1, .int .u8 2, .int .u8 4, .int .u8 8, .int .u8 16, .int .u8 32, .int .u8 64, .int .u8 128] 5)).drew).cell? ⟨w.heap.size, r, none⟩ = some (.int .u8 ((2 ^ r : Nat) : Int)) := by
  rcases (show r = 0 ∨ r = 1 ∨ r = 2 ∨ r = 3 ∨ r = 4 ∨ r = 5 ∨ r = 6 ∨ r = 7 by omega) with rfl | rfl | rfl | rfl | rfl | rfl | rfl | rfl <;> simp [go_sem]

set_option maxHeartbeats 2000000 in
theorem Turned_any (A : Option Addr) (n c B at_ mask : Nat) (l : List UInt8) (w : World) (hR : Rd w B A l) (hB : B ≤ w.heap.size) (hn : l.length = n) (hm : n ≤ 1000000) (h0 : 0 < n) (hat : at_ ≤ 100000000) (hmask : mask < 4294967296) :
    Calls Tryd.prog 40 #[.slice A n c, .int .i64 at_, .int .u32 mask] w (CutPost w.heap.size w (turnK l at_ mask 32)) := by
  have HN := Lib.hid hn
  clear hn
  go_enter Tryd.func40, Tryd.ntmps40
  go_wp2_with fail
  refine (Join_one_own A n c _ l w hR hB HN.out (by omega)).mono ?_
  rintro e w1 ⟨v, rfl, hown, hbw⟩
  rw [HN.out] at hown
  obtain ⟨g, cap, cur, rfl, hgb, hblk, hnc, hcm, hcs, htake⟩ : ∃ g cap cur, v = .slice (some ⟨g, 0, none⟩) n cap ∧ w.heap.size ≤ g ∧ Blk w1 g 5 cur ∧ n ≤ cap ∧ cap ≤ maxLen ∧ cur.size = cap * 1 ∧ cur.toList.take (n * 1) = l.map enc8 := by
    rcases hown.2 with ⟨_, h⟩ | h
    · omega
    · exact h
  have hrel0 : TurnRel g n (turnK l at_ mask 0) w1 := by
    refine ⟨cur, hblk, by omega, fun i hi => ?_⟩
    have h1 : (cur.toList.take (n * 1))[i]? = cur[i]? := by
      rw [Nat.mul_one, List.getElem?_take_of_lt hi, Array.getElem?_toList]
    rw [← h1, htake, List.getElem?_map, List.getElem?_eq_getElem (by rw [HN.out]; exact hi)]
    simp [enc8, turnK, List.getD, List.getElem?_eq_getElem (show i < l.length by rw [HN.out]; exact hi)]
  clear hown hblk hcs htake
  go_wp2_with fail
  go_loopw [8] (fun i wr => ∃ k : Nat, k ≤ 32 ∧ i = .int .i64 k ∧ TurnRel g n (turnK l at_ mask k) wr ∧ Below w.heap.size w wr) (fun i _ => 32 - (intOf i).toNat)
  case atStart => exact ⟨0, Nat.zero_le _, rfl, hrel0, hbw⟩
  case round =>
    obtain ⟨k, hk, rfl, hT, hbl⟩ := hrel
    clear hrel0 hbw
    by_cases hlt : k < 32
    · obtain ⟨j, hj⟩ : ∃ j, j = (at_ + k) / 8 := ⟨_, rfl⟩
      obtain ⟨r, hr⟩ : ∃ r, r = (at_ + k) % 8 := ⟨_, rfl⟩
      have hj' : ((at_ : Int) + (k : Int)) / 8 = (j : Int) := by omega
      have hr' : ((at_ : Int) + (k : Int)) % 8 = (r : Int) := by omega
      have hr8 : r < 8 := by omega
      have hsh : ((mask / 2 ^ k % 2 : Nat) : Int) = (mask : Int) / 2 ^ k % 2 := by simp
      have HU : Hid (turnK l at_ mask (k + 1) = if j < l.length ∧ mask / 2 ^ k % 2 = 1 then (turnK l at_ mask k).set j (UInt8.ofNat (((turnK l at_ mask k).getD j 0).toNat ^^^ 2 ^ r)) else turnK l at_ mask k) := Lib.hid (by rw [hj, hr]; rfl)
      rw [HN.out] at HU
      have HTL : Hid ((turnK l at_ mask k).length = n) := Lib.hid (by rw [turnK_length, HN.out])
      have hq0 : (0 : Int) ≤ (mask : Int) / 2 ^ k := by
        have e : ((mask / 2 ^ k : Nat) : Int) = (mask : Int) / 2 ^ k := by simp
        rw [← e]
        exact Int.natCast_nonneg _
      generalize turnK l at_ mask k = q at hT HU HTL
      generalize mask / 2 ^ k % 2 = b at hsh HU
      clear hj hr
      by_cases hin : j < n
      · by_cases hb : b = 1
        · rw [if_pos ⟨hin, hb⟩] at HU
          obtain ⟨cs, hblk, hcs, hcell⟩ := hT
          have hc1 := hcell j hin
          rw [← hblk.cell] at hc1
          have hx := Crc.u8_lt (q.getD j 0)
          have hpow : (2 : Nat) ^ r < 256 := Nat.lt_of_le_of_lt (Nat.pow_le_pow_right (n := 2) (by decide) (show r ≤ 7 by omega)) (by decide)
          have hlit := bit_val wr r hr8
          have hg : g < wr.heap.size := hblk.lt
          have hc2 : ((wr.alloc (.cells #[.int .u8 1, .int .u8 2, .int .u8 4, .int .u8 8, .int .u8 16, .int .u8 32, .int .u8 64, .int .u8 128] 5)).drew).cell? ⟨g, j, none⟩ = some (.int .u8 ((q.getD j 0).toNat : Int)) := (World.cell?_alloc_lt wr _ ⟨g, j, none⟩ hg).trans hc1
          have hc3 : (wr.drew).cell? ⟨g, j, none⟩ = some (.int .u8 ((q.getD j 0).toNat : Int)) := hc1
          have hfr : ((wr.alloc (.cells #[.int .u8 1, .int .u8 2, .int .u8 4, .int .u8 8, .int .u8 16, .int .u8 32, .int .u8 64, .int .u8 128] 5)).drew).frozen? ⟨g, j, none⟩ = false := (hblk.alloc _).frozen j
          have i1 : (0 : Int) ≤ (j : Int) := by omega
          have i2 : (j : Int) < (n : Int) := by omega
          have i3 : (r : Int) < 8 := by omega
          have ht : ((mask : Int) / 2 ^ k % 2 == 1) = true := by
            rw [← hsh, hb]
            exact beq_self_eq_true _
          have HV : Hid (bits .xor .u8 (((q.getD j 0).toNat : Nat) : Int) ((2 : Int) ^ r) = (((UInt8.ofNat ((q.getD j 0).toNat ^^^ 2 ^ r)).toNat : Nat) : Int)) := Lib.hid (by
            have e : ((2 : Int) ^ r) = ((2 ^ r : Nat) : Int) := by simp
            rw [e, u8_xor_nat _ _ hx hpow, Crc.ofNat_toNat, Nat.mod_eq_of_lt (xor_byte hx hpow)])
          have HB1 := Lib.hid (hblk.set_ j (.int .u8 (((UInt8.ofNat ((q.getD j 0).toNat ^^^ 2 ^ r)).toNat : Nat) : Int)))
          have HCS := Lib.hid hcs
          have HCE := Lib.hid hcell
          clear hblk hcs hcell hsh hb
          go_wp2_with fail
          go_big_region
          go_wp2_with fail
          go_roundw
          case rel =>
            have e0 : (q[j]?.getD 0).toNat = (q.getD j 0).toNat := by rw [List.getD_eq_getElem?_getD]
            rw [e0, HV.out]
            refine ⟨k + 1, by omega, by go_num, ?_, ((hbl.setCell (p := ⟨g, j, none⟩) hgb _).alloc (by have := hbl.size; simpa [World.setCell] using this) _).drew⟩
            rw [HU.out]
            refine ⟨_, (HB1.out.alloc _).drew, by rw [Array.size_setIfInBounds]; exact HCS.out, fun i hi => ?_⟩
            rw [Array.getElem?_setIfInBounds]
            by_cases hij : j = i
            · subst hij
              rw [if_pos rfl, if_pos (by have := HCS.out; omega)]
              simp [List.getD, HTL.out, hi]
            · rw [if_neg hij, HCE.out i hi]
              simp [List.getD, List.getElem?_set, hij]
          case measure => simp [intOf]; omega
        · have hb0 : ((mask : Int) / 2 ^ k % 2 == 1) = false := by
            rw [← hsh, beq_eq_false_iff_ne]
            omega
          rw [if_neg (fun h => hb h.2)] at HU
          clear hsh hb
          go_wp2_with fail
          go_roundw
          case rel => exact ⟨k + 1, by omega, by go_num, by rw [HU.out]; exact hT, hbl⟩
          case measure => simp [intOf]; omega
      · rw [if_neg (fun h => hin h.1)] at HU
        clear hsh
        go_wp2_with fail
        go_roundw
        case rel => exact ⟨k + 1, by omega, by go_num, by rw [HU.out]; exact hT, hbl⟩
        case measure => simp [intOf]; omega
    · obtain rfl : k = 32 := by omega
      have HT := Lib.hid hT
      clear hT
      go_wp2_with fail
      go_ret
      obtain ⟨cs, hblk, hcs, hcell⟩ := HT.out
      have hlen : (turnK l at_ mask 32).length = n := by rw [turnK_length, HN.out]
      refine ⟨some ⟨g, 0, none⟩, cap, by rw [hlen]; rfl, by rw [hlen]; exact hnc, hcm, ?_, hbl⟩
      refine hblk.rd hblk.lt fun i u hu => ?_
      have hi : i < n := by
        rcases Nat.lt_or_ge i n with h | h
        · exact h
        · rw [List.getElem?_eq_none (by rw [hlen]; exact h)] at hu; cases hu
      rw [Nat.zero_add, hcell i hi, List.getD_eq_getElem?_getD, hu]
      rfl
end Go.Proofs.YtkikcemcaoihpaaDoor
