/-
The reference's Frame is the program's. Conditions: the bytes are there, and not too many.
The reference's marked and Head. Conditions: the bytes are there; a generation of 32 bits.
-/
import Derived.Test.YtbaenpgjggojaaaDoorRfCZ9
import Derived.Test.YtbaenpgjggojaaaDoorRlGaZ9
namespace Go.Proofs.YtbaenpgjggojaaaDoor
open Go.RowKit

set_option maxHeartbeats 2000000 in
theorem RefFrame_any (s : Nat) (A : Option Addr) (n c B : Nat) (l : List UInt8) (w : World) (hs : s < 4294967296) (hR : Rd w B A l) (hB : B ≤ w.heap.size) (hn : l.length = n) (hm : n ≤ 900000) :
    Calls Tryd.prog 29 #[.int .u32 s, .slice A n c] w (CutPost w.heap.size w (Crc.frm s l)) := by
  have HN := Lib.hid hn
  clear hn
  have HR := Lib.hid hR
  clear hR
  have HF : Hid (Crc.frm s l = (Crc.wrd n ++ l) ++ Crc.wrd (Crc.chk s (Crc.wrd n ++ l))) := Lib.hid (by rw [← HN.out]; rfl)
  go_enter Tryd.func29, Tryd.ntmps29
  go_wp2_with fail
  refine (Word_any n _ (by omega)).mono ?_
  rintro e w1 ⟨A1, c1, rfl, _, _, h1r, h1w⟩
  rw [Crc.wrd_length]
  have H1r := Lib.hid h1r
  have HR1 := Lib.hid (HR.out.below (h1w.mono hB))
  have hs1 := h1w.size
  clear h1r
  go_wp2_with fail
  refine (Join_two _ _ 4 n _ _ _ _ _ _ w1 H1r.out (Nat.le_refl _) HR1.out (by omega) rfl HN.out (by omega)).mono ?_
  rintro e w2 ⟨A2, c2, rfl, h2a, _, h2r, h2w⟩
  have hb2 := h1w.trans (h2w.mono h1w.size)
  have hjl : (Crc.wrd n ++ l).length = 4 + n := by rw [List.length_append, Crc.wrd_length, HN.out]
  rw [hjl] at h2a ⊢
  clear h1w h2w hs1
  generalize Crc.wrd n ++ l = q at h2r hjl HF
  obtain ⟨m, hqm⟩ : ∃ m, m = 4 + n := ⟨_, rfl⟩
  rw [← hqm] at hjl h2a ⊢
  have hm2 : m ≤ 1000000 := by omega
  have HJ := Lib.hid hjl
  have HQ := Lib.hid h2r
  clear hqm hjl h2r
  go_wp2_with fail
  refine (RefCheck_any s _ _ _ _ q _ hs HQ.out (Nat.le_refl _) HJ.out hm2).mono ?_
  rintro e w3 ⟨rfl, h3w⟩
  have hck := Crc.chk_lt s q
  have HQ3 := Lib.hid (HQ.out.below h3w)
  have hb3 := hb2.trans (h3w.mono hb2.size)
  have hs23 := h3w.size
  clear h3w hb2
  generalize Crc.chk s q = C at hck HF
  go_wp2_with fail
  refine (Word_any C _ hck).mono ?_
  rintro e w4 ⟨A4, c4, rfl, _, _, h4r, h4w⟩
  rw [Crc.wrd_length]
  have H4r := Lib.hid h4r
  have HQ4 := Lib.hid (HQ3.out.below (h4w.mono hs23))
  have hb4 := hb3.trans (h4w.mono hb3.size)
  have hs34 := h4w.size
  clear h4r h4w hb3
  go_wp2_with fail
  refine (Join_two _ _ m 4 _ _ _ _ _ _ w4 HQ4.out (by omega) H4r.out (Nat.le_refl _) HJ.out rfl (by omega)).mono ?_
  rintro e w5 ⟨A5, c5, rfl, h5a, h5b, h5r, h5w⟩
  have hb5 := hb4.trans (h5w.mono hb4.size)
  have H5r := Lib.hid h5r
  have H5a := Lib.hid h5a
  clear h5r h5w hb4 h5a
  go_wp2_with fail
  go_ret
  exact ⟨A5, c5, by rw [HF.out, List.length_append]; rfl, by rw [HF.out]; exact H5a.out, h5b, by rw [HF.out]; exact H5r.out, hb5⟩
end Go.Proofs.YtbaenpgjggojaaaDoor
namespace Go.Proofs.YtbaenpgjggojaaaDoor
open Go.ChangeShapes Go.WideShapes Go.RowKit

theorem full_sector (m : UInt8) (l : List UInt8) (h : l.length ≤ 254) : (((full (m :: l)).map enc8).toArray.setIfInBounds 255 (.int .u8 (m.toNat : Int))) = ((sector m l).map enc8).toArray := by
  rw [List.setIfInBounds_toArray, show (Value.int .u8 (m.toNat : Int)) = enc8 m from rfl, ← List.map_set]
  congr 2
  unfold full sector
  rw [List.take_of_length_le h, List.length_cons, show 256 - (l.length + 1) = (254 - l.length) + 1 from by omega, List.replicate_succ', ← List.append_assoc, List.set_append_right _ _ (by simp; omega)]
  have e : 255 - (m :: l ++ List.replicate (254 - l.length) 0).length = 0 := by simp; omega
  rw [e]
  simp
/-- A block of bytes is a row of its own. -/
theorem own_blk {w : World} {B b n : Nat} {l : List UInt8} (h : Blk w b 5 (l.map enc8).toArray) (hB : B ≤ b) (hn : l.length = n) (hm : n ≤ maxLen) : OwnB w B (.slice (some ⟨b, 0, none⟩) n n) n l := by
  unfold OwnB
  refine ⟨by simp [hn], .inr ⟨b, n, _, rfl, hB, h, Nat.le_refl _, hm, by simp [hn], ?_⟩⟩
  show List.take (n * 1) (l.map enc8) = l.map enc8
  exact List.take_of_length_le (by simp [hn])
set_option maxRecDepth 20000 in
set_option maxHeartbeats 400000 in
theorem RMarked_any (m : UInt8) (A : Option Addr) (n c B : Nat) (l : List UInt8) (w : World) (hR : Rd w B A l) (hB : B ≤ w.heap.size) (hn : l.length = n) (hm : n ≤ 254) :
    Calls Tryd.prog 32 #[.int .u8 (m.toNat : Int), .slice A n c] w fun e w' => ∃ b, e = .returned (.slice (some ⟨b, 0, none⟩) 256 256) ∧ OwnB w' w.heap.size (.slice (some ⟨b, 0, none⟩) 256 256) 256 (sector m l) ∧ Below w.heap.size w w' := by
  have h1 := rd_one w m
  have hb1 : Below w.heap.size w (w.alloc (.cells #[.int .u8 (m.toNat : Int)] 5)) := (Below.refl _ _).alloc (Nat.le_refl _) _
  have h2 := hR.below (hb1.mono hB)
  have cJ := Join_two (some ⟨w.heap.size, 0, none⟩) A 1 n 1 c (w.heap.size + 1) B [m] l (w.alloc (.cells #[.int .u8 (m.toNat : Int)] 5)) h1 (by simp) h2 (by simp; omega) rfl hn (by omega)
  rw [World.size_alloc] at cJ
  have HN := Lib.hid (And.intro hn (And.intro hm hb1))
  clear hR hB hn hm h1 h2 hb1
  go_enter Tryd.func32, Tryd.ntmps32
  go_wp2_with fail
  refine cJ.mono ?_
  rintro e w2 ⟨A2, c2, rfl, hc2, -, hr2, hb2⟩
  have hl : ([m] ++ l).length = n + 1 := by rw [List.length_append, HN.out.1]; simp; omega
  rw [hl]
  have cF := Full_any A2 (n + 1) c2 w2.heap.size ([m] ++ l) w2 hr2 (Nat.le_refl _) hl (by have := HN.out.2.1; omega)
  have H2 := Lib.hid (And.intro hb2 hl)
  clear cJ hc2 hr2 hb2 hl
  go_wp2_with fail
  refine cF.mono ?_
  rintro e w3 ⟨rfl, hB3, hb3⟩
  obtain ⟨b, hb⟩ : ∃ b, w2.heap.size = b := ⟨_, rfl⟩
  have hw2 := H2.out.1.size
  rw [World.size_alloc] at hw2
  have hn3 := hB3.set_ 255 (.int .u8 (m.toNat : Int))
  rw [show [m] ++ l = m :: l from rfl, full_sector m l (by rw [HN.out.1]; exact HN.out.2.1)] at hn3
  have f255 := hB3.frozen 255
  have c255 : ∃ v, w3.cell? ⟨w2.heap.size, 255, none⟩ = some v := by
    rw [hB3.cell 255, List.getElem?_toArray]
    exact ⟨_, List.getElem?_eq_getElem (by rw [List.length_map, full_length _ (by rw [H2.out.2]; have := HN.out.2.1; omega)]; decide)⟩
  obtain ⟨v0, c255⟩ := c255
  have hb23 : Below w.heap.size w (w3.setCell ⟨w2.heap.size, 255, none⟩ (.int .u8 (m.toNat : Int))) := by
    have k1 := HN.out.2.2.trans (H2.out.1.mono (by omega))
    exact (k1.trans (hb3.mono k1.size)).setCell (p := ⟨w2.heap.size, 255, none⟩) k1.size _
  rw [hb] at hn3 f255 c255 hb23 ⊢
  have HE := Lib.hid (And.intro hn3 (And.intro hb23 (show w.heap.size ≤ b by omega)))
  clear cF hB3 hb3 hn3 hb23 hw2 hb
  go_wp2_with fail
  go_ret
  exact ⟨b, rfl, own_blk HE.out.1 HE.out.2.2 (sector_len m l) (by decide), HE.out.2.1⟩
set_option maxRecDepth 20000 in
theorem RHead_any (g : Nat) (hg : g < 4294967296) (w : World) :
    Calls Tryd.prog 10 #[.int .u32 (g : Int)] w fun e w' => ∃ b, e = .returned (.slice (some ⟨b, 0, none⟩) 256 256) ∧ OwnB w' w.heap.size (.slice (some ⟨b, 0, none⟩) 256 256) 256 (headL g) ∧ Below w.heap.size w w' := by
  have cW := Word_any g w hg
  have hm : ((UInt8.ofNat (markN g)).toNat : Int) = (g : Int) % 251 + 1 := by
    unfold markN
    rw [UInt8.toNat_ofNat']
    omega
  go_enter Tryd.func10, Tryd.ntmps10
  go_wp2_with fail
  refine cW.mono ?_
  rintro e w1 ⟨A1, c1, rfl, -, -, hr1, hb1⟩
  have cF := RefFrame_any 0 A1 (Crc.wrd g).length c1 w1.heap.size (Crc.wrd g) w1 (by decide) hr1 (Nat.le_refl _) rfl (by rw [Crc.wrd_length]; decide)
  have H1 := Lib.hid hb1
  clear cW hr1 hb1
  go_wp2_with fail
  refine cF.mono ?_
  rintro e w2 ⟨A2, c2, rfl, -, -, hr2, hb2⟩
  have hl : (Crc.frm 0 (Crc.wrd g)).length = 12 := by unfold Crc.frm; simp [Crc.wrd_length]
  have cM := RMarked_any (UInt8.ofNat (markN g)) A2 (Crc.frm 0 (Crc.wrd g)).length c2 w2.heap.size (Crc.frm 0 (Crc.wrd g)) w2 hr2 (Nat.le_refl _) rfl (by rw [hl]; decide)
  rw [hm] at cM
  have H2 := Lib.hid (H1.out.trans (hb2.mono H1.out.size))
  clear cF hr2 hb2 hl hm
  go_wp2_with fail
  refine cM.mono ?_
  rintro e w3 ⟨b, rfl, ho, hb3⟩
  have H3 := Lib.hid (And.intro (ho.low H2.out.size) (H2.out.trans (hb3.mono H2.out.size)))
  clear cM ho hb3
  go_wp2_with fail
  go_ret
  exact ⟨b, rfl, H3.out.1, H3.out.2⟩
end Go.Proofs.YtbaenpgjggojaaaDoor
