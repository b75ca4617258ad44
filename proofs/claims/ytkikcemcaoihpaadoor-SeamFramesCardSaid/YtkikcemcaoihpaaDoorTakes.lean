/-
  The walk of SeamTakes: it returns true, whatever comes in. Conditions: the bytes are there, and not more than memory bears.
-/
import Derived.Test.YtkikcemcaoihpaaDoorRefD
import Derived.Test.YtkikcemcaoihpaaDoorCodeC
namespace Go.Proofs.YtkikcemcaoihpaaDoor
open Go.RowKit

section
variable (A : Option Addr) (n c : Nat) (l : List UInt8) (w : World)
set_option maxHeartbeats 2000000 in
theorem Takes_any (s : Nat) (hs : s < 4294967296) (hw : Laid w) (hR : Rd w w.heap.size A l) (hn : l.length = n) (hm : n ≤ 140737488355328) :
    Calls Tryd.prog 7 #[.int .u32 s, .slice A n c] w fun e w' => e = .returned (.bool true) ∧ Below w.heap.size w w' := by
  have HN := Lib.hid hn
  clear hn
  have HR := Lib.hid hR
  clear hR
  have HW := Lib.hid hw
  clear hw
  go_enter Tryd.func7, Tryd.ntmps7
  go_wp2_with fail
  refine (awake2_any _).mono ?_
  rintro e w1 ⟨rfl, hb1⟩
  go_wp2_with fail
  refine (Cut_any _ _ _ _ 80 _ _ (HR.out.below hb1) HN.out hm (by decide) hb1.size).mono ?_
  rintro e w2 ⟨A1, c1, rfl, h2a, h2b, h2r, h2w⟩
  have hb2 := hb1.trans (h2w.mono hb1.size)
  have hl1 : (l.take 80).length ≤ 80 := by rw [List.length_take]; omega
  generalize l.take 80 = l1 at h2a h2r hl1 ⊢
  have H2r := Lib.hid h2r
  clear h2r h2w hb1
  obtain ⟨n1, hn1⟩ : ∃ n1, l1.length = n1 := ⟨_, rfl⟩
  rw [hn1] at h2a hl1 ⊢
  have HN1 := Lib.hid hn1
  have HW2 := Lib.hid (HW.out.below hb2)
  clear hn1
  go_wp2_with fail
  rcases Decidable.em (nxtErr s l1 = 0) with h0 | h0
  · refine (Next_yes s _ _ _ _ _ _ hs H2r.out (Nat.le_refl _) HN1.out (by omega) h2a h2b h0).mono ?_
    rintro e w3 ⟨A3, c3, rfl, h3a, h3b, h3r, h3l, h3w⟩
    have H0 := Lib.hid h0
    have hb3 := hb2.trans (h3w.mono hb2.size)
    have H3r := Lib.hid h3r
    have H3l := Lib.hid h3l
    have H2r3 := Lib.hid (H2r.out.below h3w)
    have hs23 := h3w.size
    clear h3r h3l h3w h0 hb2
    go_wp2_with fail
    refine (RefNext_any s _ _ _ _ _ _ hs H2r3.out hs23 HN1.out (by omega) h2a).mono ?_
    intro e w4 hp
    obtain ⟨A4, c4, rfl, h4a, h4b, h4r, h4l, h4w⟩ := hp.2 H0.out
    clear hp
    have hb4 := hb3.trans (h4w.mono hb3.size)
    have H4r := Lib.hid h4r
    have H4l := Lib.hid h4l
    have H3r4 := Lib.hid (H3r.out.below h4w)
    clear h4r h4l h4w hb3
    go_wp2_with fail
    refine (Code_nil _).mono ?_
    rintro e w5 ⟨rfl, rfl⟩
    go_wp2_with fail
    have hlen := headOf_lt l1
    refine (Same_any _ _ _ _ _ _ _ _ _ _ _ H3r4.out H3l.out (small_len (by omega)) H4r.out H4l.out (small_len (by omega))).mono ?_
    intro e w6 h6
    obtain ⟨rfl, h6w⟩ := below_all h6
    have hb6 := hb4.trans (h6w.mono hb4.size)
    clear h6 h6w
    rw [show decide (nxtBody l1 = nxtBody l1) = true from decide_eq_true rfl]
    go_wp2_with fail
    go_ret
    exact ⟨rfl, hb6⟩
  · refine (Next_no s _ _ _ _ _ _ hs H2r.out (Nat.le_refl _) HN1.out (by omega) h2a h2b h0).mono ?_
    rintro e w3 ⟨rfl, h3w⟩
    have H0 := Lib.hid h0
    have hb3 := hb2.trans (h3w.mono hb2.size)
    have H2r3 := Lib.hid (H2r.out.below h3w)
    have hs23 := h3w.size
    clear h3w h0 hb2
    go_wp2_with fail
    refine (RefNext_any s _ _ _ _ _ _ hs H2r3.out hs23 HN1.out (by omega) h2a).mono ?_
    intro e w4 hp
    obtain ⟨rfl, h4w⟩ := hp.1 H0.out
    clear hp
    have hb4 := hb3.trans (h4w.mono hb3.size)
    have HW4 := Lib.hid (HW.out.below hb4)
    clear h4w hb3
    go_wp2_with fail
    refine (Code_errno _ _ HW4.out).mono ?_
    rintro e w5 ⟨rfl, h5w⟩
    have hb5 := hb4.trans (h5w.mono hb4.size)
    clear h5w
    generalize nxtErr s l1 = err
    go_wp2_with fail
    refine (Same_any Option.none Option.none 0 0 0 0 0 0 [] [] _ Rd.nil_ rfl (by decide) Rd.nil_ rfl (by decide)).mono ?_
    intro e w6 h6
    obtain ⟨rfl, h6w⟩ := below_all h6
    have hb6 := hb5.trans (h6w.mono hb5.size)
    clear h6 h6w
    rw [show decide (([] : List UInt8) = []) = true from decide_eq_true rfl]
    go_wp2_with fail
    go_ret
    exact ⟨rfl, hb6⟩
end
end Go.Proofs.YtkikcemcaoihpaaDoor
