/-
  The walk of SeamShows: it returns true, whatever comes in. Conditions: the bytes are there, and not more than memory bears.
-/
import Derived.Test.YtkikcemcaoihpaaDoorTakes
import Derived.Test.YtkikcemcaoihpaaDoorTurned
namespace Go.Proofs.YtkikcemcaoihpaaDoor
open Go.RowKit

theorem wrd_headOf (t : List UInt8) (h : t.length = 4) : Crc.wrd (headOf t) = t := by
  match t, h with
  | [a, b, c, d], _ =>
    have ha := Crc.u8_lt a
    have hb := Crc.u8_lt b
    have hc := Crc.u8_lt c
    have hd := Crc.u8_lt d
    have e : headOf [a, b, c, d] = a.toNat + 256 * b.toNat + 65536 * c.toNat + 16777216 * d.toNat := by
      simp only [headOf, valK, List.getD_cons_zero, List.getD_cons_succ]
      omega
    simp only [Crc.wrd, List.cons.injEq, and_true]
    rw [e]
    refine ⟨?_, ?_, ?_, ?_⟩ <;> (apply UInt8.toNat_inj.1; rw [Crc.ofNat_toNat]; omega)
/-- Bytes whose check is right leave one register. -/
theorem right_residue (S : Nat) (q t : List UInt8) (hS : S < 4294967296) (ht : t.length = 4) (h : 4294967295 ^^^ Crc.dvd S q = headOf t) : Crc.dvd S (q ++ t) = Crc.stpN 32 4294967295 := by
  rw [Crc.dvd_append, ← wrd_headOf t ht, ← h, Crc.dvd_wrd _ _ (Crc.xor_lt (by decide) (Crc.dvd_lt q hS))]
  congr 1
  rw [Crc.xor_lc, Nat.xor_self, Nat.xor_zero]
theorem isBlank_zeros' {l : List UInt8} (h : isBlank l = true) : l = List.replicate l.length 0 := by
  unfold isBlank at h
  rw [List.all_eq_true] at h
  exact List.eq_replicate_iff.2 ⟨rfl, fun u hu => UInt8.toNat_inj.1 (by simpa using h u hu)⟩
theorem headOf_zero {t : List UInt8} (h : isBlank t = true) : headOf t = 0 := by
  have e := isBlank_zeros' h
  have g : ∀ i, (t.getD i 0).toNat = 0 := fun i => by
    rw [e]
    simp [List.getD, List.getElem?_replicate]
    split <;> rfl
  simp only [headOf, valK, g, Nat.zero_mul, Nat.add_zero]
theorem low_bytes (mask at_ i : Nat) (h32 : 32 ≤ at_) (hi : i < 4) : mask * 2 ^ at_ / 256 ^ i % 256 = 0 := by
  obtain ⟨X, hX⟩ : ∃ X, mask * 2 ^ at_ = 4294967296 * X := ⟨mask * 2 ^ (at_ - 32), by
    rw [show at_ = 32 + (at_ - 32) from by omega, Nat.pow_add, show 32 + (at_ - 32) - 32 = at_ - 32 from by omega, show (2 : Nat) ^ 32 = 4294967296 from rfl]
    rw [Nat.mul_left_comm]⟩
  rw [hX]
  rcases (show i = 0 ∨ i = 1 ∨ i = 2 ∨ i = 3 by omega) with rfl | rfl | rfl | rfl <;> omega
theorem ext_toNat {a b : List UInt8} (hl : a.length = b.length) (h : ∀ i, i < a.length → (a.getD i 0).toNat = (b.getD i 0).toNat) : a = b := by
  apply List.ext_getElem hl
  intro i h1 h2
  have := UInt8.toNat_inj.1 (h i h1)
  simpa [List.getD, h1, h2] using this

theorem shows_err (s at_ mask : Nat) (l : List UInt8) (hl : l.length ≤ 100000) (hmask : mask < 4294967296) (h32 : 32 ≤ at_) (hle : at_ ≤ 8 * (l.length + 8))
    (hne : Crc.frm s l ≠ turnK (Crc.frm s l) at_ mask 32) : nxtErr s (turnK (Crc.frm s l) at_ mask 32) = 5 ∨ (nxtErr s (turnK (Crc.frm s l) at_ mask 32) = 3 ∧ l.length = 0) := by
  have hmm : mask % 2 ^ 32 = mask := Nat.mod_eq_of_lt hmask
  have hlen : (turnK (Crc.frm s l) at_ mask 32).length = l.length + 8 := by rw [turnK_length, Crc.frm_length]
  have hat := fun i (hi : i < l.length + 8) => turnK_at (Crc.frm s l) at_ mask 32 i (by rw [Crc.frm_length]; exact hi)
  rw [hmm] at hat
  generalize hbt : turnK (Crc.frm s l) at_ mask 32 = bent at hlen hat hne ⊢
  have hhead : headOf bent = l.length := by
    have h0 := hat 0 (by omega)
    have h1 := hat 1 (by omega)
    have h2 := hat 2 (by omega)
    have h3 := hat 3 (by omega)
    rw [low_bytes mask at_ _ h32 (by decide), Nat.xor_zero] at h0 h1 h2 h3
    have := frm_head s l (by omega)
    simp only [headOf, valK] at this ⊢
    rw [h0, h1, h2, h3]
    exact this
  unfold nxtErr
  by_cases hb : isBlank bent = true
  · rw [if_pos hb]
    exact .inr ⟨rfl, by rw [← hhead, headOf_zero hb]⟩
  · rw [if_neg hb, hhead, hlen, if_neg (by omega), if_neg (by omega)]
    left
    rw [if_pos]
    intro heq
    refine hne ?_
    have hS : Crc.dvd 4294967295 (Crc.wrd s) < 4294967296 := Crc.dvd_lt _ (by decide)
    have hrb : Crc.dvd (Crc.dvd 4294967295 (Crc.wrd s)) bent = Crc.stpN 32 4294967295 := by
      have h := right_residue (Crc.dvd 4294967295 (Crc.wrd s)) (bent.take (4 + l.length)) (bent.drop (4 + l.length)) hS (by rw [List.length_drop]; omega) heq
      rw [List.take_append_drop] at h
      exact h
    have hrf : Crc.dvd (Crc.dvd 4294967295 (Crc.wrd s)) (Crc.frm s l) = Crc.stpN 32 4294967295 := by
      have h := right_residue (Crc.dvd 4294967295 (Crc.wrd s)) ((Crc.frm s l).take (4 + l.length)) ((Crc.frm s l).drop (4 + l.length)) hS (by rw [List.length_drop, Crc.frm_length]; omega) (by
        have e1 : headOf ((Crc.frm s l).drop (4 + l.length)) = sumOf s l := by
          have := headOf_wrd (sumOf s l) [] (Crc.chk_lt _ _)
          rw [frm_post]
          simpa using this
        rw [e1, frm_pre]
        rfl)
      rw [List.take_append_drop] at h
      exact h
    have ht := Crc.dvd_turned (Crc.frm s l) bent (Crc.bytesN (mask * 2 ^ at_) (l.length + 8)) (by rw [hlen, Crc.frm_length]) (by rw [Crc.bytesN_length, Crc.frm_length]) (fun i u u' x hu hu' hx => by
      have hi : i < l.length + 8 := by
        rcases Nat.lt_or_ge i (l.length + 8) with h | h
        · exact h
        · rw [List.getElem?_eq_none (by rw [hlen]; exact h)] at hu'; cases hu'
      rw [Crc.bytesN_at _ _ _ hi] at hx
      injection hx with hx
      have h := hat i hi
      rw [List.getD_eq_getElem?_getD, hu', List.getD_eq_getElem?_getD, hu, hx] at h
      exact h) (Crc.dvd 4294967295 (Crc.wrd s)) 0
    rw [Nat.xor_zero, hrb, hrf] at ht
    have hz : Crc.dvdN 0 (Crc.bytesN (mask * 2 ^ at_) (l.length + 8)) = 0 := by
      have := congrArg (Crc.stpN 32 4294967295 ^^^ ·) ht
      simpa [← Nat.xor_assoc] using this.symm
    have hM := Crc.burst mask at_ (l.length + 8) hmask hle hz
    refine (ext_toNat (by rw [hlen, Crc.frm_length]) fun i hi => ?_).symm
    rw [hlen] at hi
    rw [hat i hi]
    have hb0 := Crc.bytesN_at (l.length + 8) (mask * 2 ^ at_) i hi
    rw [← Crc.bytesN_mod, hM, Crc.bytesN_at _ _ _ hi] at hb0
    injection hb0 with hb0
    rw [← hb0]
    simp

section
variable (A : Option Addr) (n c : Nat) (l : List UInt8) (w : World)
set_option maxHeartbeats 4000000 in
theorem Shows_any (s at_ mask : Nat) (hs : s < 4294967296) (hat : at_ < 65536) (hmask : mask < 4294967296) (hw : Laid w) (hR : Rd w w.heap.size A l) (hn : l.length = n) (hm : n ≤ 140737488355328) :
    Calls Tryd.prog 8 #[.int .u32 s, .slice A n c, .int .u16 at_, .int .u32 mask] w fun e w' => e = .returned (.bool true) ∧ Below w.heap.size w w' := by
  have HN := Lib.hid hn
  clear hn
  have HR := Lib.hid hR
  clear hR
  have HW := Lib.hid hw
  clear hw
  go_enter Tryd.func8, Tryd.ntmps8
  go_wp2_with fail
  refine (awake2_any _).mono ?_
  rintro e w1 ⟨rfl, hb1⟩
  go_wp2_with fail
  refine (Cut_any _ _ _ _ 200 _ _ (HR.out.below hb1) HN.out hm (by decide) hb1.size).mono ?_
  rintro e w2 ⟨A1, c1, rfl, h2a, h2b, h2r, h2w⟩
  have hb2 := hb1.trans (h2w.mono hb1.size)
  have hl1 : (l.take 200).length ≤ 200 := by rw [List.length_take]; omega
  generalize l.take 200 = l1 at h2a h2r hl1 ⊢
  have H2r := Lib.hid h2r
  clear h2r h2w hb1
  obtain ⟨n1, hn1⟩ : ∃ n1, l1.length = n1 := ⟨_, rfl⟩
  rw [hn1] at h2a hl1 ⊢
  have HN1 := Lib.hid hn1
  clear hn1
  go_wp2_with fail
  refine (Frame_any s _ _ _ _ _ _ hs H2r.out (Nat.le_refl _) HN1.out (by omega) h2a).mono ?_
  rintro e w3 ⟨rfl, h3k, h3w⟩
  have hb3 := hb2.trans (h3w.mono hb2.size)
  have hg3 : w2.heap.size < w3.heap.size := h3k.lt
  have HF3 := Lib.hid (blk_rd h3k hg3)
  have HL := Lib.hid (show (Crc.frm s l1).length = n1 + 8 by rw [Crc.frm_length, HN1.out])
  clear h3k h3w hb2
  obtain ⟨k, hk⟩ : ∃ k, k = at_ % (8 * (n1 + 8) - 32) := ⟨_, rfl⟩
  have hkl : k < 8 * (n1 + 8) - 32 := by rw [hk]; exact Nat.mod_lt _ (by omega)
  have hke : (at_ : Int) % (8 * ((n1 : Int) + 8) - 32) = (k : Int) := by
    rw [hk]
    have e : (8 * ((n1 : Int) + 8) - 32) = ((8 * (n1 + 8) - 32 : Nat) : Int) := by omega
    rw [e]
    simp
  clear hk
  obtain ⟨a, ha⟩ : ∃ a : Nat, a = 32 + k := ⟨_, rfl⟩
  have hak : 32 + (k : Int) = (a : Int) := by omega
  have ha1 : 32 ≤ a := by omega
  have ha2 : a ≤ 8 * (n1 + 8) := by omega
  clear ha hkl
  go_wp2_with fail
  refine (Turned_any _ (n1 + 8) _ _ a mask _ w3 HF3.out (Nat.le_refl _) HL.out (by omega) (by omega) (by omega) hmask).mono ?_
  rintro e w4 ⟨A4, c4, rfl, h4a, h4b, h4r, h4w⟩
  have hb4 := hb3.trans (h4w.mono hb3.size)
  have hs34 := h4w.size
  have HF4 := Lib.hid (HF3.out.below h4w)
  have htl : (turnK (Crc.frm s l1) a mask 32).length = n1 + 8 := by rw [turnK_length, HL.out]
  have HSE := Lib.hid (fun h => shows_err s a mask l1 (by rw [HN1.out]; omega) hmask (by omega) (by rw [HN1.out]; omega) h)
  rw [htl] at h4a ⊢
  generalize turnK (Crc.frm s l1) a mask 32 = bent at h4r htl HSE
  have H4r := Lib.hid h4r
  have HTL := Lib.hid htl
  clear h4r htl h4w hb3 hke hak
  go_wp2_with fail
  refine (Same_any _ _ _ _ _ _ _ _ _ _ _ HF4.out HL.out (small_len (by omega)) H4r.out HTL.out (small_len (by omega))).mono ?_
  intro e w5 h5
  obtain ⟨rfl, h5w⟩ := below_all h5
  have hb5 := hb4.trans (h5w.mono hb4.size)
  have H5r := Lib.hid (H4r.out.below h5w)
  have hs45 := h5w.size
  clear h5 h5w
  by_cases hsame : Crc.frm s l1 = bent
  · rw [decide_eq_true hsame]
    clear hsame
    go_wp2_with fail
    go_ret
    exact ⟨rfl, hb5⟩
  · rw [decide_eq_false hsame]
    have herr := HSE.out hsame
    clear hsame
    have HX := Lib.hid (Next_no s _ (n1 + 8) c4 _ bent w5 hs H5r.out hs45 HTL.out (by omega) h4a h4b (by rcases herr with h | h <;> rw [show nxtErr s bent = _ from by first | exact h | exact h.1] <;> decide))
    go_wp2_with fail
    rcases herr with h | ⟨h, hz⟩
    · rw [h] at HX
      clear h
      refine HX.out.mono ?_
      rintro e w6 ⟨rfl, h6w⟩
      have hb6 := hb5.trans (h6w.mono hb5.size)
      have HW6 := Lib.hid (HW.out.below hb6)
      clear h6w
      go_wp2_with fail
      refine (Code_errno _ _ HW6.out).mono ?_
      rintro e w7 ⟨rfl, h7w⟩
      have hb7 := hb6.trans (h7w.mono hb6.size)
      clear h7w
      go_wp2_with fail
      go_ret
      exact ⟨rfl, hb7⟩
    · rw [h] at HX
      have hz1 : n1 = 0 := by rw [← HN1.out]; exact hz
      clear h hz
      subst hz1
      refine HX.out.mono ?_
      rintro e w6 ⟨rfl, h6w⟩
      have hb6 := hb5.trans (h6w.mono hb5.size)
      have HW6 := Lib.hid (HW.out.below hb6)
      clear h6w
      go_wp2_with fail
      refine (Code_errno _ _ HW6.out).mono ?_
      rintro e w7 ⟨rfl, h7w⟩
      have hb7 := hb6.trans (h7w.mono hb6.size)
      have HW7 := Lib.hid (HW6.out.below h7w)
      clear h7w
      go_wp2_with fail
      refine (Code_errno _ _ HW7.out).mono ?_
      rintro e w8 ⟨rfl, h8w⟩
      have hb8 := hb7.trans (h8w.mono hb7.size)
      clear h8w
      go_wp2_with fail
      go_ret
      exact ⟨rfl, hb8⟩
end
end Go.Proofs.YtkikcemcaoihpaaDoor
