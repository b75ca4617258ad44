/-
The reference's Word. Conditions: a number of 32 bits.
The reference's Check is the program's: bit by bit. Conditions: the bytes are there.
The reference's Frame is the program's. Conditions: the bytes are there, and not too many.
The reference's marked and Head. Conditions: the bytes are there; a generation of 32 bits.
-/
import Derived.Test.YtbaenpgjggojaaaJoinRZ9
import Derived.Test.YtbaenpgjggojaaaFrmZ9
import Derived.Test.YtbaenpgjggojaaaRlGaZ9
namespace Go.Proofs.Ytbaenpgjggojaaa
open Go.RowKit

/-- Four bytes in a block of their own. -/
theorem four_rdR (w : World) (a b c d : UInt8) : Rd (w.alloc (.cells #[.int .u8 (a.toNat : Int), .int .u8 (b.toNat : Int), .int .u8 (c.toNat : Int), .int .u8 (d.toNat : Int)] 5)) (w.heap.size + 1) (some ⟨w.heap.size, 0, none⟩) [a, b, c, d] := fun _ =>
  ⟨w.heap.size, 0, rfl, by omega, fun j u hu => by
    rcases j with _ | _ | _ | _ | j
    all_goals first
      | (simp only [List.getElem?_cons_zero, List.getElem?_cons_succ, Option.some.injEq] at hu; subst hu; simp [go_sem]; done)
      | (simp at hu; done)⟩

set_option maxHeartbeats 1000000 in
theorem Word_any (n : Nat) (w : World) (hn : n < 4294967296) : Calls Try.prog 50 #[.int .u64 n] w (CutPost w.heap.size w (Crc.wrd n)) := by
  have h0 : ((UInt8.ofNat n).toNat : Int) = (n : Int) % 256 := by rw [Crc.ofNat_toNat]; omega
  have h1 : ((UInt8.ofNat (n / 256)).toNat : Int) = (n : Int) / 256 % 256 := by rw [Crc.ofNat_toNat]; omega
  have h2 : ((UInt8.ofNat (n / 65536)).toNat : Int) = (n : Int) / 65536 % 256 := by rw [Crc.ofNat_toNat]; omega
  have h3 : ((UInt8.ofNat (n / 16777216)).toNat : Int) = (n : Int) / 16777216 % 256 := by rw [Crc.ofNat_toNat]; omega
  have HR := Lib.hid (four_rdR w (UInt8.ofNat n) (UInt8.ofNat (n / 256)) (UInt8.ofNat (n / 65536)) (UInt8.ofNat (n / 16777216)))
  rw [h0, h1, h2, h3] at HR
  clear h0 h1 h2 h3
  go_enter Try.func50, Try.ntmps50
  go_wp2
  go_ret
  refine ⟨some ⟨w.heap.size, 0, none⟩, 4, rfl, by rw [Crc.wrd_length]; decide, by decide, ?_, (Below.refl _ w).alloc (Nat.le_refl _) _⟩
  exact HR.out.more (by simp)

theorem xor_onesR (d : Nat) (hd : d < 4294967296) : 4294967295 ^^^ d = 4294967295 - d := by
  have e : (4294967295 : Nat) - d = 2 ^ 32 - (d + 1) := by omega
  apply Nat.eq_of_testBit_eq
  intro i
  rw [e, Nat.testBit_two_pow_sub_succ hd, Nat.testBit_xor, show (4294967295 : Nat) = 2 ^ 32 - 1 from rfl, Nat.testBit_two_pow_sub_one]
  rcases Nat.lt_or_ge i 32 with h | h
  · simp [h]
  · have : d.testBit i = false := Nat.testBit_lt_two_pow (Nat.lt_of_lt_of_le hd (Nat.pow_le_pow_right (n := 2) (by decide) h))
    simp [this, show ¬ i < 32 by omega]

/-- The reference's register behind i of a byte's bits. -/
def bitRf (X b i : Nat) : Nat := Crc.stpN i X ^^^ b / 2 ^ i
theorem bitRf_lt {X b i : Nat} (hX : X < 4294967296) (hb : b < 256) : bitRf X b i < 4294967296 :=
  Crc.xor_lt (Crc.stpN_lt i hX) (Nat.lt_of_le_of_lt (Nat.div_le_self ..) (by omega))
theorem bitRf_end (X b : Nat) (hb : b < 256) : bitRf X b 8 = Crc.stpN 8 X := by
  unfold bitRf
  rw [show b / 2 ^ 8 = 0 from by omega, Nat.xor_zero]
theorem xor_halfR (a b : Nat) : (a ^^^ b) / 2 = a / 2 ^^^ b / 2 := by
  have := Nat.xor_div_two_pow (a := a) (b := b) (n := 1)
  simpa using this
theorem xor_oddR (a b : Nat) : (a ^^^ b) % 2 = (a % 2 + b % 2) % 2 := by
  have := Nat.xor_mod_two_pow (a := a) (b := b) (n := 1)
  rw [show (2 : Nat) ^ 1 = 2 from rfl] at this
  rw [this]
  rcases Nat.mod_two_eq_zero_or_one a with ha | ha <;> rcases Nat.mod_two_eq_zero_or_one b with hb | hb <;> simp [ha, hb]
/-- One bit: whether the polynomial comes in, and what is left. -/
theorem bitRf_odd (X b i : Nat) : (bitRf X b i % 2 + b / 2 ^ i) % 2 = Crc.stpN i X % 2 := by
  unfold bitRf
  rw [xor_oddR]
  omega
theorem bitRf_next (X b i : Nat) : bitRf X b (i + 1) = if Crc.stpN i X % 2 = 1 then bitRf X b i / 2 ^^^ 3988292384 else bitRf X b i / 2 := by
  unfold bitRf
  rw [Crc.stpN_succ', xor_halfR, Nat.div_div_eq_div_mul, ← Nat.pow_succ]
  unfold Crc.stp
  split
  · simp [Nat.xor_comm, Crc.xor_lc]
  · simp
end Go.Proofs.Ytbaenpgjggojaaa
namespace Go.Proofs.Ytbaenpgjggojaaa
open Go.RowKit

theorem all_appendR (s : Nat) (l : List UInt8) : Crc.dvd (Crc.dvd 4294967295 (Crc.wrd s)) l = Crc.dvd 4294967295 (Crc.wrd s ++ l) := (Crc.dvd_append _ _ _).symm

theorem poly_walkR {y : Nat} (hy : y < 4294967296) : bits .xor .u64 ((y : Int) / 2) 3988292384 = ((y / 2 ^^^ 3988292384 : Nat) : Int) := by
  rw [u64_xor _ _ (by omega) (by omega) (by omega) (by omega)]
  have e : ((y : Int) / 2).toNat = y / 2 := by omega
  rw [e]
  rfl

set_option maxHeartbeats 2000000 in
theorem RefCheck_any (s : Nat) (A : Option Addr) (n c B : Nat) (l : List UInt8) (w : World) (hs : s < 4294967296) (hR : Rd w B A l) (hB : B ≤ w.heap.size) (hn : l.length = n) (hm : n ≤ 1000000) :
    Calls Try.prog 66 #[.int .u32 s, .slice A n c] w fun e w' => e = .returned (.int .u32 (Crc.chk s l : Nat)) ∧ Below w.heap.size w w' := by
  have HN := Lib.hid hn
  clear hn
  have HR := Lib.hid hR
  clear hR
  go_enter Try.func66, Try.ntmps66
  go_wp2_with fail
  refine (Word_any s _ hs).mono ?_
  rintro e w1 ⟨A1, c1, rfl, _, _, h1r, h1w⟩
  rw [Crc.wrd_length]
  have H1r := Lib.hid h1r
  have HR1 := Lib.hid (HR.out.below (h1w.mono hB))
  have hs1 := h1w.size
  clear h1r
  go_wp2_with fail
  refine (Join_two _ _ 4 n _ _ _ _ _ _ w1 H1r.out (Nat.le_refl _) HR1.out (by omega) rfl HN.out (by omega)).mono ?_
  rintro e w2 ⟨A2, c2, rfl, _, _, h2r, h2w⟩
  have hb2 := h1w.trans (h2w.mono h1w.size)
  have hjl : (Crc.wrd s ++ l).length = 4 + n := by rw [List.length_append, Crc.wrd_length, HN.out]
  have HE : Hid (Crc.chk s l = 4294967295 ^^^ Crc.dvd 4294967295 (Crc.wrd s ++ l)) := Lib.hid (by rw [← all_appendR]; rfl)
  rw [hjl]
  clear h1w h2w hs1
  generalize Crc.wrd s ++ l = q at h2r hjl HE
  obtain ⟨m, hqm⟩ : ∃ m, m = 4 + n := ⟨_, rfl⟩
  rw [← hqm] at hjl ⊢
  have hm2 : m ≤ 2000000 := by omega
  have HJ := Lib.hid hjl
  have HQ := Lib.hid h2r
  clear hqm hjl h2r
  go_wp2_with fail
  go_loop [5, 17] (fun t i => ∃ k : Nat, k ≤ m ∧ i = .int .i64 k ∧ t = .int .u64 (Crc.dvd 4294967295 (q.take k) : Nat)) (fun _ i => m - (intOf i).toNat)
  case atStart => exact ⟨0, Nat.zero_le _, rfl, rfl⟩
  case round =>
    obtain ⟨k, hk, rfl, rfl⟩ := hrel
    by_cases hlt : k < m
    · have hkq : k < q.length := by rw [HJ.out]; exact hlt
      obtain ⟨b, o, rfl, _, hc⟩ := HQ.out.at_ hkq
      have hd := Crc.dvd_lt (q.take k) (show 4294967295 < 4294967296 by decide)
      have hu := Crc.u8_lt q[k]
      have HS := Lib.hid (Crc.dvd_take 4294967295 q k hkq)
      generalize (q[k]).toNat = x at hc hu HS
      generalize Crc.dvd 4294967295 (q.take k) = D at hd HS ⊢
      have hX := Crc.xor_lt hd (show x < 4294967296 by omega)
      have HX0 : Hid (D = bitRf (D ^^^ x) x 0) := Lib.hid (by unfold bitRf; simp [Crc.stpN, Nat.xor_assoc])
      generalize D ^^^ x = X at hX HX0 HS
      go_wp2_with fail
      go_loop [5, 8] (fun t i => ∃ j : Nat, j ≤ 8 ∧ i = .int .i64 j ∧ t = .int .u64 (bitRf X x j : Nat)) (fun _ i => 8 - (intOf i).toNat)
      case atStart => exact ⟨0, Nat.zero_le _, rfl, by rw [← HX0.out]⟩
      case round =>
        obtain ⟨j, hj, rfl, rfl⟩ := hrel
        by_cases hjl : j < 8
        · have hy := bitRf_lt (i := j) hX hu
          have hodd := bitRf_odd X x j
          have HB := Lib.hid (bitRf_next X x j)
          have hxj : x / 2 ^ j ≤ x := Nat.div_le_self ..
          have e1 : ((x / 2 ^ j : Nat) : Int) = (x : Int) / 2 ^ j := by simp
          by_cases hb : Crc.stpN j X % 2 = 1
          · rw [hb] at hodd
            rw [if_pos hb] at HB
            generalize bitRf X x j = y at hy hodd HB ⊢
            generalize x / 2 ^ j = z at hodd hxj e1
            have hod : ((y : Int) % 2 + (x : Int) / 2 ^ j) % 2 = 1 := by rw [← e1]; omega
            have hz2 : (x : Int) / 2 ^ j ≤ 255 := by rw [← e1]; omega
            have hz3 : 0 ≤ (x : Int) / 2 ^ j := by rw [← e1]; omega
            clear e1 hodd
            have HP := Lib.hid (poly_walkR hy)
            go_wp2_with fail
            go_round
            case rel => exact ⟨j + 1, by omega, by go_num, by rw [HB.out, ← HP.out]⟩
            case measure => simp [intOf]; omega
          · rw [if_neg hb] at HB
            generalize bitRf X x j = y at hy hodd HB ⊢
            generalize x / 2 ^ j = z at hodd hxj e1
            have hod : ((y : Int) % 2 + (x : Int) / 2 ^ j) % 2 = 0 := by rw [← e1]; omega
            have hz2 : (x : Int) / 2 ^ j ≤ 255 := by rw [← e1]; omega
            have hz3 : 0 ≤ (x : Int) / 2 ^ j := by rw [← e1]; omega
            clear e1 hodd
            go_wp2_with fail
            go_round
            case rel => exact ⟨j + 1, by omega, by go_num, by rw [HB.out]; simp⟩
            case measure => simp [intOf]; omega
        · obtain rfl : j = 8 := by omega
          have HE8 := Lib.hid (bitRf_end X x hu)
          go_wp2_with fail
          go_round
          case rel => exact ⟨k + 1, by omega, by go_num, by rw [HS.out, HE8.out]⟩
          case measure => simp [intOf]; omega
    · obtain rfl : k = m := by omega
      rw [List.take_of_length_le (by rw [HJ.out]; exact Nat.le_refl _)]
      have hd := Crc.dvd_lt q (show 4294967295 < 4294967296 by decide)
      have HF : Hid (Crc.chk s l = 4294967295 - Crc.dvd 4294967295 q) := Lib.hid (by rw [HE.out, xor_onesR _ hd])
      generalize Crc.dvd 4294967295 q = D at hd HF ⊢
      go_wp2_with fail
      go_ret
      refine ⟨?_, hb2⟩
      rw [HF.out]
      exact congrArg (fun z : Int => Ending.returned (.int .u32 z)) (show 4294967295 - (D : Int) = ((4294967295 - D : Nat) : Int) by omega)
end Go.Proofs.Ytbaenpgjggojaaa
namespace Go.Proofs.Ytbaenpgjggojaaa
open Go.RowKit

set_option maxHeartbeats 2000000 in
theorem RefFrame_any (s : Nat) (A : Option Addr) (n c B : Nat) (l : List UInt8) (w : World) (hs : s < 4294967296) (hR : Rd w B A l) (hB : B ≤ w.heap.size) (hn : l.length = n) (hm : n ≤ 900000) :
    Calls Try.prog 49 #[.int .u32 s, .slice A n c] w (CutPost w.heap.size w (Crc.frm s l)) := by
  have HN := Lib.hid hn
  clear hn
  have HR := Lib.hid hR
  clear hR
  have HF : Hid (Crc.frm s l = (Crc.wrd n ++ l) ++ Crc.wrd (Crc.chk s (Crc.wrd n ++ l))) := Lib.hid (by rw [← HN.out]; rfl)
  go_enter Try.func49, Try.ntmps49
  go_wp2_with fail
  refine (Word_any n _ (by omega)).mono ?_
  rintro e w1 ⟨A1, c1, rfl, _, _, h1r, h1w⟩
  rw [Crc.wrd_length]
  have H1r := Lib.hid h1r
  have HR1 := Lib.hid (HR.out.below (h1w.mono hB))
  have hs1 := h1w.size
  clear h1r
  go_wp2_with fail
  refine (Join_two _ _ 4 n _ _ _ _ _ _ w1 H1r.out (Nat.le_refl _) HR1.out (by omega) rfl HN.out (by omega)).mono ?_
  rintro e w2 ⟨A2, c2, rfl, h2a, _, h2r, h2w⟩
  have hb2 := h1w.trans (h2w.mono h1w.size)
  have hjl : (Crc.wrd n ++ l).length = 4 + n := by rw [List.length_append, Crc.wrd_length, HN.out]
  rw [hjl] at h2a ⊢
  clear h1w h2w hs1
  generalize Crc.wrd n ++ l = q at h2r hjl HF
  obtain ⟨m, hqm⟩ : ∃ m, m = 4 + n := ⟨_, rfl⟩
  rw [← hqm] at hjl h2a ⊢
  have hm2 : m ≤ 1000000 := by omega
  have HJ := Lib.hid hjl
  have HQ := Lib.hid h2r
  clear hqm hjl h2r
  go_wp2_with fail
  refine (RefCheck_any s _ _ _ _ q _ hs HQ.out (Nat.le_refl _) HJ.out hm2).mono ?_
  rintro e w3 ⟨rfl, h3w⟩
  have hck := Crc.chk_lt s q
  have HQ3 := Lib.hid (HQ.out.below h3w)
  have hb3 := hb2.trans (h3w.mono hb2.size)
  have hs23 := h3w.size
  clear h3w hb2
  generalize Crc.chk s q = C at hck HF
  go_wp2_with fail
  refine (Word_any C _ hck).mono ?_
  rintro e w4 ⟨A4, c4, rfl, _, _, h4r, h4w⟩
  rw [Crc.wrd_length]
  have H4r := Lib.hid h4r
  have HQ4 := Lib.hid (HQ3.out.below (h4w.mono hs23))
  have hb4 := hb3.trans (h4w.mono hb3.size)
  have hs34 := h4w.size
  clear h4r h4w hb3
  go_wp2_with fail
  refine (Join_two _ _ m 4 _ _ _ _ _ _ w4 HQ4.out (by omega) H4r.out (Nat.le_refl _) HJ.out rfl (by omega)).mono ?_
  rintro e w5 ⟨A5, c5, rfl, h5a, h5b, h5r, h5w⟩
  have hb5 := hb4.trans (h5w.mono hb4.size)
  have H5r := Lib.hid h5r
  have H5a := Lib.hid h5a
  clear h5r h5w hb4 h5a
  go_wp2_with fail
  go_ret
  exact ⟨A5, c5, by rw [HF.out, List.length_append]; rfl, by rw [HF.out]; exact H5a.out, h5b, by rw [HF.out]; exact H5r.out, hb5⟩
end Go.Proofs.Ytbaenpgjggojaaa
namespace Go.Proofs.Ytbaenpgjggojaaa
open Go.ChangeShapes Go.WideShapes Go.RowKit

theorem full_sector (m : UInt8) (l : List UInt8) (h : l.length ≤ 254) : (((full (m :: l)).map enc8).toArray.setIfInBounds 255 (.int .u8 (m.toNat : Int))) = ((sector m l).map enc8).toArray := by
  rw [List.setIfInBounds_toArray, show (Value.int .u8 (m.toNat : Int)) = enc8 m from rfl, ← List.map_set]
  congr 2
  unfold full sector
  rw [List.take_of_length_le h, List.length_cons, show 256 - (l.length + 1) = (254 - l.length) + 1 from by omega, List.replicate_succ', ← List.append_assoc, List.set_append_right _ _ (by simp; omega)]
  have e : 255 - (m :: l ++ List.replicate (254 - l.length) 0).length = 0 := by simp; omega
  rw [e]
  simp
/-- A block of bytes is a row of its own. -/
theorem own_blk {w : World} {B b n : Nat} {l : List UInt8} (h : Blk w b 5 (l.map enc8).toArray) (hB : B ≤ b) (hn : l.length = n) (hm : n ≤ maxLen) : OwnB w B (.slice (some ⟨b, 0, none⟩) n n) n l := by
  unfold OwnB
  refine ⟨by simp [hn], .inr ⟨b, n, _, rfl, hB, h, Nat.le_refl _, hm, by simp [hn], ?_⟩⟩
  show List.take (n * 1) (l.map enc8) = l.map enc8
  exact List.take_of_length_le (by simp [hn])
set_option maxRecDepth 20000 in
set_option maxHeartbeats 400000 in
theorem RMarked_any (m : UInt8) (A : Option Addr) (n c B : Nat) (l : List UInt8) (w : World) (hR : Rd w B A l) (hB : B ≤ w.heap.size) (hn : l.length = n) (hm : n ≤ 254) :
    Calls Try.prog 48 #[.int .u8 (m.toNat : Int), .slice A n c] w fun e w' => ∃ b, e = .returned (.slice (some ⟨b, 0, none⟩) 256 256) ∧ OwnB w' w.heap.size (.slice (some ⟨b, 0, none⟩) 256 256) 256 (sector m l) ∧ Below w.heap.size w w' := by
  have h1 := rd_one w m
  have hb1 : Below w.heap.size w (w.alloc (.cells #[.int .u8 (m.toNat : Int)] 5)) := (Below.refl _ _).alloc (Nat.le_refl _) _
  have h2 := hR.below (hb1.mono hB)
  have cJ := Join_two (some ⟨w.heap.size, 0, none⟩) A 1 n 1 c (w.heap.size + 1) B [m] l (w.alloc (.cells #[.int .u8 (m.toNat : Int)] 5)) h1 (by simp) h2 (by simp; omega) rfl hn (by omega)
  rw [World.size_alloc] at cJ
  have HN := Lib.hid (And.intro hn (And.intro hm hb1))
  clear hR hB hn hm h1 h2 hb1
  go_enter Try.func48, Try.ntmps48
  go_wp2_with fail
  refine cJ.mono ?_
  rintro e w2 ⟨A2, c2, rfl, hc2, -, hr2, hb2⟩
  have hl : ([m] ++ l).length = n + 1 := by rw [List.length_append, HN.out.1]; simp; omega
  rw [hl]
  have cF := Full_any A2 (n + 1) c2 w2.heap.size ([m] ++ l) w2 hr2 (Nat.le_refl _) hl (by have := HN.out.2.1; omega)
  have H2 := Lib.hid (And.intro hb2 hl)
  clear cJ hc2 hr2 hb2 hl
  go_wp2_with fail
  refine cF.mono ?_
  rintro e w3 ⟨rfl, hB3, hb3⟩
  obtain ⟨b, hb⟩ : ∃ b, w2.heap.size = b := ⟨_, rfl⟩
  have hw2 := H2.out.1.size
  rw [World.size_alloc] at hw2
  have hn3 := hB3.set_ 255 (.int .u8 (m.toNat : Int))
  rw [show [m] ++ l = m :: l from rfl, full_sector m l (by rw [HN.out.1]; exact HN.out.2.1)] at hn3
  have f255 := hB3.frozen 255
  have c255 : ∃ v, w3.cell? ⟨w2.heap.size, 255, none⟩ = some v := by
    rw [hB3.cell 255, List.getElem?_toArray]
    exact ⟨_, List.getElem?_eq_getElem (by rw [List.length_map, full_length _ (by rw [H2.out.2]; have := HN.out.2.1; omega)]; decide)⟩
  obtain ⟨v0, c255⟩ := c255
  have hb23 : Below w.heap.size w (w3.setCell ⟨w2.heap.size, 255, none⟩ (.int .u8 (m.toNat : Int))) := by
    have k1 := HN.out.2.2.trans (H2.out.1.mono (by omega))
    exact (k1.trans (hb3.mono k1.size)).setCell (p := ⟨w2.heap.size, 255, none⟩) k1.size _
  rw [hb] at hn3 f255 c255 hb23 ⊢
  have HE := Lib.hid (And.intro hn3 (And.intro hb23 (show w.heap.size ≤ b by omega)))
  clear cF hB3 hb3 hn3 hb23 hw2 hb
  go_wp2_with fail
  go_ret
  exact ⟨b, rfl, own_blk HE.out.1 HE.out.2.2 (sector_len m l) (by decide), HE.out.2.1⟩
set_option maxRecDepth 20000 in
theorem RHead_any (g : Nat) (hg : g < 4294967296) (w : World) :
    Calls Try.prog 17 #[.int .u32 (g : Int)] w fun e w' => ∃ b, e = .returned (.slice (some ⟨b, 0, none⟩) 256 256) ∧ OwnB w' w.heap.size (.slice (some ⟨b, 0, none⟩) 256 256) 256 (headL g) ∧ Below w.heap.size w w' := by
  have cW := Word_any g w hg
  have hm : ((UInt8.ofNat (markN g)).toNat : Int) = (g : Int) % 251 + 1 := by
    unfold markN
    rw [UInt8.toNat_ofNat']
    omega
  go_enter Try.func17, Try.ntmps17
  go_wp2_with fail
  refine cW.mono ?_
  rintro e w1 ⟨A1, c1, rfl, -, -, hr1, hb1⟩
  have cF := RefFrame_any 0 A1 (Crc.wrd g).length c1 w1.heap.size (Crc.wrd g) w1 (by decide) hr1 (Nat.le_refl _) rfl (by rw [Crc.wrd_length]; decide)
  have H1 := Lib.hid hb1
  clear cW hr1 hb1
  go_wp2_with fail
  refine cF.mono ?_
  rintro e w2 ⟨A2, c2, rfl, -, -, hr2, hb2⟩
  have hl : (Crc.frm 0 (Crc.wrd g)).length = 12 := by unfold Crc.frm; simp [Crc.wrd_length]
  have cM := RMarked_any (UInt8.ofNat (markN g)) A2 (Crc.frm 0 (Crc.wrd g)).length c2 w2.heap.size (Crc.frm 0 (Crc.wrd g)) w2 hr2 (Nat.le_refl _) rfl (by rw [hl]; decide)
  rw [hm] at cM
  have H2 := Lib.hid (H1.out.trans (hb2.mono H1.out.size))
  clear cF hr2 hb2 hl hm
  go_wp2_with fail
  refine cM.mono ?_
  rintro e w3 ⟨b, rfl, ho, hb3⟩
  have H3 := Lib.hid (And.intro (ho.low H2.out.size) (H2.out.trans (hb3.mono H2.out.size)))
  clear cM ho hb3
  go_wp2_with fail
  go_ret
  exact ⟨b, rfl, H3.out.1, H3.out.2⟩
end Go.Proofs.Ytbaenpgjggojaaa
