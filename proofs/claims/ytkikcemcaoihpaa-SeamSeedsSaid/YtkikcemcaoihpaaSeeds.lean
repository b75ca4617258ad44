/-
  The walk of SeamSeeds: it returns true, whatever comes in. Conditions: the bytes are there, and not more than memory bears.
-/
import Derived.Test.YtkikcemcaoihpaaFrm
import Derived.Test.YtkikcemcaoihpaaSame
namespace Go.Proofs.Ytkikcemcaoihpaa
open Go.RowKit

theorem blk_rd {w : World} {g B : Nat} {l : List UInt8} (h : Blk w g 5 (l.map enc8).toArray) (hB : g < B) : Rd w B (some ⟨g, 0, none⟩) l :=
  h.rd hB fun j u hu => by rw [Nat.zero_add]; simp [hu, enc8]
theorem below_all {w w' : World} {v : Value} {e : Ending} (h : QuietPost v w e w') : e = .returned v ∧ Below w.heap.size w w' := by
  obtain ⟨he, q, rfl⟩ := h
  exact ⟨he, below_drewN (Below.refl _ _) q⟩

section
variable (A : Option Addr) (n c : Nat) (l : List UInt8) (w : World)
set_option maxHeartbeats 2000000 in
theorem Seeds_same (a : Nat) (ha : a < 4294967296) (hR : Rd w w.heap.size A l) (hn : l.length = n) (hm : n ≤ 140737488355328) :
    Calls Try.prog 6 #[.int .u32 a, .int .u32 a, .slice A n c] w fun e w' => e = .returned (.bool true) ∧ Below w.heap.size w w' := by
  have HN := Lib.hid hn
  clear hn
  have HR := Lib.hid hR
  clear hR
  go_enter Try.func6, Try.ntmps6
  go_wp2_with fail
  refine (awake2_any _).mono ?_
  rintro e w1 ⟨rfl, hb1⟩
  go_wp2_with fail
  refine (Cut_any _ _ _ _ 100 _ _ (HR.out.below hb1) HN.out hm (by decide) hb1.size).mono ?_
  rintro e w2 ⟨A1, c1, rfl, h2a, h2b, h2r, h2w⟩
  have hb2 := hb1.trans (h2w.mono hb1.size)
  have hl1 : (l.take 100).length ≤ 100 := by rw [List.length_take]; omega
  generalize l.take 100 = l1 at h2a h2r hl1 ⊢
  have H2r := Lib.hid h2r
  clear h2r h2w hb1
  obtain ⟨n1, hn1⟩ : ∃ n1, l1.length = n1 := ⟨_, rfl⟩
  rw [hn1] at h2a hl1 ⊢
  have HN1 := Lib.hid hn1
  clear hn1
  go_wp2_with fail
  refine (Frame_any a _ _ _ _ _ _ ha H2r.out (Nat.le_refl _) HN1.out (by omega) h2a).mono ?_
  rintro e w3 ⟨rfl, h3k, h3w⟩
  have HK3 := Lib.hid h3k
  have H3r := Lib.hid (H2r.out.below h3w)
  have hb3 := hb2.trans (h3w.mono hb2.size)
  have hg3 : w2.heap.size < w3.heap.size := h3k.lt
  have hs23 := h3w.size
  clear h3k h3w hb2
  go_wp2_with fail
  refine (Frame_any a _ _ _ _ _ _ ha H3r.out hs23 HN1.out (by omega) h2a).mono ?_
  rintro e w4 ⟨rfl, h4k, h4w⟩
  have HK4 := Lib.hid h4k
  have HK34 := Lib.hid (HK3.out.below h4w hg3)
  have hb4 := hb3.trans (h4w.mono hb3.size)
  have hg4 : w3.heap.size < w4.heap.size := h4k.lt
  clear h4k h4w hb3
  have HL := Lib.hid (show (Crc.frm a l1).length = n1 + 8 by rw [Crc.frm_length, HN1.out])
  have hfr : Rd w4 w4.heap.size (some ⟨w2.heap.size, 0, none⟩) (Crc.frm a l1) := blk_rd HK34.out (by omega)
  have hfs : Rd w4 w4.heap.size (some ⟨w3.heap.size, 0, none⟩) (Crc.frm a l1) := blk_rd HK4.out (by omega)
  have HS := Lib.hid hfs
  have HF := Lib.hid hfr
  clear hfr hfs
  go_wp2_with fail
  rcases Decidable.em (nxtErr a (Crc.frm a l1) = 0) with h0 | h0
  · refine (Next_yes a _ _ _ _ _ _ ha HF.out (Nat.le_refl _) HL.out (by omega) (Nat.le_refl _) (by unfold maxLen; omega) h0).mono ?_
    rintro e w5 ⟨A5, c5, rfl, _, _, _, _, h5w⟩
    have H5 := Lib.hid h5w
    clear h5w h0
    have hb5 := hb4.trans (H5.out.mono hb4.size)
    go_wp2_with fail
    refine (Same_any _ _ _ _ _ _ _ _ _ _ _ (HF.out.below H5.out) HL.out (by unfold maxLen; omega) (HS.out.below H5.out) HL.out (by unfold maxLen; omega)).mono ?_
    intro e w6 h6
    obtain ⟨rfl, h6w⟩ := below_all h6
    have hb6 := hb5.trans (h6w.mono hb5.size)
    clear h6 h6w
    rw [show decide (Crc.frm a l1 = Crc.frm a l1) = true from decide_eq_true rfl]
    go_wp2_with fail
    go_ret
    exact ⟨rfl, hb6⟩
  · refine (Next_no a _ _ _ _ _ _ ha HF.out (Nat.le_refl _) HL.out (by omega) (Nat.le_refl _) (by unfold maxLen; omega) h0).mono ?_
    rintro e w5 ⟨rfl, h5w⟩
    have H5 := Lib.hid h5w
    clear h5w h0
    have hb5 := hb4.trans (H5.out.mono hb4.size)
    go_wp2_with fail
    refine (Same_any _ _ _ _ _ _ _ _ _ _ _ (HF.out.below H5.out) HL.out (by unfold maxLen; omega) (HS.out.below H5.out) HL.out (by unfold maxLen; omega)).mono ?_
    intro e w6 h6
    obtain ⟨rfl, h6w⟩ := below_all h6
    have hb6 := hb5.trans (h6w.mono hb5.size)
    clear h6 h6w
    rw [show decide (Crc.frm a l1 = Crc.frm a l1) = true from decide_eq_true rfl]
    go_wp2_with fail
    go_ret
    exact ⟨rfl, hb6⟩

set_option maxHeartbeats 2000000 in
theorem Seeds_apart (a b : Nat) (ha : a < 4294967296) (hb : b < 4294967296) (hab : a ≠ b) (hR : Rd w w.heap.size A l) (hn : l.length = n) (hm : n ≤ 140737488355328) :
    Calls Try.prog 6 #[.int .u32 a, .int .u32 b, .slice A n c] w fun e w' => e = .returned (.bool true) ∧ Below w.heap.size w w' := by
  have hbe : (((a : Nat) : Int) == ((b : Nat) : Int)) = false := by rw [beq_eq_false_iff_ne]; omega
  have HAB := Lib.hid hab
  clear hab
  have HN := Lib.hid hn
  clear hn
  have HR := Lib.hid hR
  clear hR
  go_enter Try.func6, Try.ntmps6
  go_wp2_with fail
  refine (awake2_any _).mono ?_
  rintro e w1 ⟨rfl, hb1⟩
  go_wp2_with fail
  refine (Cut_any _ _ _ _ 100 _ _ (HR.out.below hb1) HN.out hm (by decide) hb1.size).mono ?_
  rintro e w2 ⟨A1, c1, rfl, h2a, h2b, h2r, h2w⟩
  have hb2 := hb1.trans (h2w.mono hb1.size)
  have hl1 : (l.take 100).length ≤ 100 := by rw [List.length_take]; omega
  generalize l.take 100 = l1 at h2a h2r hl1 ⊢
  have H2r := Lib.hid h2r
  clear h2r h2w hb1
  obtain ⟨n1, hn1⟩ : ∃ n1, l1.length = n1 := ⟨_, rfl⟩
  rw [hn1] at h2a hl1 ⊢
  have HN1 := Lib.hid hn1
  clear hn1
  go_wp2_with fail
  refine (Frame_any a _ _ _ _ _ _ ha H2r.out (Nat.le_refl _) HN1.out (by omega) h2a).mono ?_
  rintro e w3 ⟨rfl, h3k, h3w⟩
  have HK3 := Lib.hid h3k
  have H3r := Lib.hid (H2r.out.below h3w)
  have hb3 := hb2.trans (h3w.mono hb2.size)
  have hg3 : w2.heap.size < w3.heap.size := h3k.lt
  have hs23 := h3w.size
  clear h3k h3w hb2
  go_wp2_with fail
  refine (Frame_any b _ _ _ _ _ _ hb H3r.out hs23 HN1.out (by omega) h2a).mono ?_
  rintro e w4 ⟨rfl, h4k, h4w⟩
  have HK4 := Lib.hid h4k
  have HK34 := Lib.hid (HK3.out.below h4w hg3)
  have hb4 := hb3.trans (h4w.mono hb3.size)
  have hg4 : w3.heap.size < w4.heap.size := h4k.lt
  clear h4k h4w hb3
  have HLb := Lib.hid (show (Crc.frm b l1).length = n1 + 8 by rw [Crc.frm_length, HN1.out])
  have HL := Lib.hid (show (Crc.frm a l1).length = n1 + 8 by rw [Crc.frm_length, HN1.out])
  have hfr : Rd w4 w4.heap.size (some ⟨w2.heap.size, 0, none⟩) (Crc.frm a l1) := blk_rd HK34.out (by omega)
  have hfs : Rd w4 w4.heap.size (some ⟨w3.heap.size, 0, none⟩) (Crc.frm b l1) := blk_rd HK4.out (by omega)
  have HS := Lib.hid hfs
  have HF := Lib.hid hfr
  clear hfr hfs
  go_wp2_with fail
  have h0 : nxtErr b (Crc.frm a l1) ≠ 0 := by
    have h := nxt_frm b a l1 [] (by rw [HN1.out]; omega)
    rw [List.append_nil] at h
    rw [h]
    split
    · decide
    · have hne : sumOf b l1 ≠ sumOf a l1 := fun h => HAB.out (Crc.chk_seed hb ha h).symm
      rw [if_pos hne]
      decide
  refine (Next_no b _ _ _ _ _ _ hb HF.out (Nat.le_refl _) HL.out (by omega) (Nat.le_refl _) (by unfold maxLen; omega) h0).mono ?_
  rintro e w5 ⟨rfl, h5w⟩
  have H5 := Lib.hid h5w
  clear h5w h0
  have hb5 := hb4.trans (H5.out.mono hb4.size)
  have HQ1 : Hid (∀ q : Nat, Calls Try.prog 15 #[.slice (some ⟨w2.heap.size, 0, none⟩) (n1 + 4) (n1 + 8), .slice (some ⟨w3.heap.size, 0, none⟩) (n1 + 4) (n1 + 8)] (w5.drewN q) fun e w' => e = .returned (.bool true) ∧ ∃ m, w' = (w5.drewN q).drewN m) := Lib.hid (fun q => by
    have h := Same_any (some ⟨w2.heap.size, 0, none⟩) (some ⟨w3.heap.size, 0, none⟩) (n1 + 4) (n1 + 8) _ (n1 + 4) (n1 + 8) _ ((Crc.frm a l1).take (n1 + 4)) ((Crc.frm b l1).take (n1 + 4)) (w5.drewN q) (((HF.out.below H5.out).drewN q).take _) (by rw [List.length_take, HL.out]; omega) (by unfold maxLen; omega) (((HS.out.below H5.out).drewN q).take _) (by rw [List.length_take, HLb.out]; omega) (by unfold maxLen; omega)
    rw [show decide ((Crc.frm a l1).take (n1 + 4) = (Crc.frm b l1).take (n1 + 4)) = true from decide_eq_true (by
      rw [← HN1.out, Nat.add_comm, frm_pre, frm_pre])] at h
    exact h)
  have HQ2 : Hid (∀ q : Nat, Calls Try.prog 15 #[.slice (some ⟨w2.heap.size, 0, none⟩) (n1 + 8) (n1 + 8), .slice (some ⟨w3.heap.size, 0, none⟩) (n1 + 8) (n1 + 8)] (w5.drewN q) fun e w' => e = .returned (.bool false) ∧ ∃ m, w' = (w5.drewN q).drewN m) := Lib.hid (fun q => by
    have h := Same_any (some ⟨w2.heap.size, 0, none⟩) (some ⟨w3.heap.size, 0, none⟩) (n1 + 8) (n1 + 8) _ (n1 + 8) (n1 + 8) _ (Crc.frm a l1) (Crc.frm b l1) (w5.drewN q) ((HF.out.below H5.out).drewN q) HL.out (by unfold maxLen; omega) ((HS.out.below H5.out).drewN q) HLb.out (by unfold maxLen; omega)
    rw [show decide (Crc.frm a l1 = Crc.frm b l1) = false from decide_eq_false (fun he => HAB.out (by
      have h1 := frm_post a l1
      rw [he, frm_post b l1] at h1
      exact Crc.chk_seed ha hb (Crc.wrd_inj (Crc.chk_lt _ _) (Crc.chk_lt _ _) h1.symm)))] at h
    exact h)
  have i1 : IntKind.i64.wrap ((n1 : Int) + 8 - 4) = (n1 : Int) + 4 := by rw [IntKind.wrap_i64]; omega
  have i2 : ((n1 : Int) + 4).toNat = n1 + 4 := by omega
  have i3 : (0 : Int) ≤ (n1 : Int) + 4 := by omega
  have i4 : (n1 : Int) + 4 ≤ (n1 : Int) + 8 := by omega
  clear hb4 hg3 hg4 hs23 h2a hl1 hm
  go_wp2_with fail
  go_quiet ((go_at_call 15; first | (with_reducible exact Calls.quiet_of (HQ1.out _)) | (with_reducible exact Calls.quiet_of (HQ2.out _))))
  go_wp2
  go_ret
  exact ⟨rfl, below_drewN hb5 _⟩
end
end Go.Proofs.Ytkikcemcaoihpaa
