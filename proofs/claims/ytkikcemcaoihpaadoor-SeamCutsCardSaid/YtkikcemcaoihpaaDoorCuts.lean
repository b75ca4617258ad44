/-
  The walk of SeamCuts: it returns true, whatever comes in. Conditions: the bytes are there, and not more than memory bears.
-/
import Derived.Test.YtkikcemcaoihpaaDoorFrm
import Derived.Test.YtkikcemcaoihpaaDoorSame
import Derived.Test.YtkikcemcaoihpaaDoorCodeC
namespace Go.Proofs.YtkikcemcaoihpaaDoor
open Go.RowKit

theorem Size_neg (n : Int) (w : World) (hn : n < 0) : Calls Tryd.prog 38 #[.int .i64 n] w fun e w' => e = .returned (.int .i64 0) ∧ w = w' := by
  go_enter Tryd.func38, Tryd.ntmps38
  go_wp2
  go_ret
  exact ⟨rfl, rfl⟩
/-- A frame that is cut off. -/
theorem nxt_cut (s : Nat) (l : List UInt8) (k : Nat) (hl : l.length < 4294967296) (hk : k < l.length + 8) : nxtErr s ((Crc.frm s l).take k) = 3 ∨ nxtErr s ((Crc.frm s l).take k) = 2 := by
  unfold nxtErr
  by_cases h1 : isBlank ((Crc.frm s l).take k) = true
  · rw [if_pos h1]; exact .inl rfl
  · rw [if_neg h1]
    have hlen : ((Crc.frm s l).take k).length = k := by rw [List.length_take, Crc.frm_length]; omega
    rw [hlen]
    by_cases h2 : k < 8
    · rw [if_pos (.inl h2)]; exact .inr rfl
    · have hh : headOf ((Crc.frm s l).take k) = l.length := by
        have e : (Crc.frm s l).take k = Crc.wrd l.length ++ ((l ++ Crc.wrd (sumOf s l)).take (k - 4)) := by
          rw [frm_eq, List.append_assoc, List.take_append, Crc.wrd_length, List.take_of_length_le (by rw [Crc.wrd_length]; omega)]
        rw [e]
        exact headOf_wrd _ _ hl
      rw [hh, if_pos (.inr (by omega))]
      exact .inr rfl

section
variable (A : Option Addr) (n c : Nat) (l : List UInt8) (w : World)
set_option maxHeartbeats 2000000 in
theorem Cuts_any (s cut : Nat) (m : Int) (hs : s < 4294967296) (hcut : cut < 65536) (hw : Laid w) (hR : Rd w w.heap.size A l) (hn : l.length = n) (hm : n ≤ 140737488355328) :
    Calls Tryd.prog 9 #[.int .u32 s, .slice A n c, .int .u16 cut, .int .i64 m] w fun e w' => e = .returned (.bool true) ∧ Below w.heap.size w w' := by
  have HN := Lib.hid hn
  clear hn
  have HR := Lib.hid hR
  clear hR
  have HW := Lib.hid hw
  clear hw
  go_enter Tryd.func9, Tryd.ntmps9
  go_wp2_with fail
  refine (awake2_any _).mono ?_
  rintro e w1 ⟨rfl, hb1⟩
  go_wp2_with fail
  refine (Cut_any _ _ _ _ 100 _ _ (HR.out.below hb1) HN.out hm (by decide) hb1.size).mono ?_
  rintro e w2 ⟨A1, c1, rfl, h2a, h2b, h2r, h2w⟩
  have hb2 := hb1.trans (h2w.mono hb1.size)
  have hl1 : (l.take 100).length ≤ 100 := by rw [List.length_take]; omega
  generalize l.take 100 = l1 at h2a h2r hl1 ⊢
  have H2r := Lib.hid h2r
  clear h2r h2w hb1
  obtain ⟨n1, hn1⟩ : ∃ n1, l1.length = n1 := ⟨_, rfl⟩
  rw [hn1] at h2a hl1 ⊢
  have HN1 := Lib.hid hn1
  clear hn1
  go_wp2_with fail
  refine (Frame_any s _ _ _ _ _ _ hs H2r.out (Nat.le_refl _) HN1.out (by omega) h2a).mono ?_
  rintro e w3 ⟨rfl, h3k, h3w⟩
  have HK3 := Lib.hid h3k
  have hb3 := hb2.trans (h3w.mono hb2.size)
  have hg3 : w2.heap.size < w3.heap.size := h3k.lt
  clear h3k h3w hb2
  obtain ⟨k, hk⟩ : ∃ k, k = cut % (n1 + 8) := ⟨_, rfl⟩
  have hkl : k < n1 + 8 := by rw [hk]; exact Nat.mod_lt _ (by omega)
  have hke : (cut : Int) % ((n1 : Int) + 8) = (k : Int) := by rw [hk]; simp
  clear hk
  go_wp2_with fail
  have HF : Hid (Rd w3 w3.heap.size (some ⟨w2.heap.size, 0, none⟩) ((Crc.frm s l1).take k)) := Lib.hid ((blk_rd HK3.out hg3).take k)
  have HL : Hid (((Crc.frm s l1).take k).length = k) := Lib.hid (by rw [List.length_take, Crc.frm_length, HN1.out]; omega)
  have hW3 := Lib.hid (HW.out.below hb3)
  have h32 := nxt_cut s l1 k (by rw [HN1.out]; omega) (by rw [HN1.out]; exact hkl)
  have HX := Lib.hid (Next_no s _ k (n1 + 8) _ ((Crc.frm s l1).take k) w3 hs HF.out (Nat.le_refl _) HL.out (by omega) (by omega) (by unfold maxLen; omega) (by rcases h32 with h | h <;> rw [h] <;> decide))
  clear hke hg3
  rcases h32 with h | h
  all_goals
    rw [h] at HX
    clear h
    refine HX.out.mono ?_
    rintro e w4 ⟨rfl, h4w⟩
    have hb4 := hb3.trans (h4w.mono hb3.size)
    have HW4 := Lib.hid (hW3.out.below h4w)
    clear h4w
  · go_wp2_with fail
    refine (Code_errno _ _ HW4.out).mono ?_
    rintro e w5 ⟨rfl, h5w⟩
    have hb5 := hb4.trans (h5w.mono hb4.size)
    have HW5 := Lib.hid (HW4.out.below h5w)
    clear h5w
    go_wp2_with fail
    refine (Code_errno _ _ HW5.out).mono ?_
    rintro e w6 ⟨rfl, h6w⟩
    have hb6 := hb5.trans (h6w.mono hb5.size)
    clear h6w
    by_cases hm0 : 0 ≤ m
    · go_wp2_with fail
      go_ret
      exact ⟨rfl, hb6⟩
    · have hm1 : m < 0 := by omega
      go_wp2_with fail
      refine (Size_neg _ _ hm1).mono ?_
      rintro e w7 ⟨rfl, rfl⟩
      go_wp2_with fail
      go_ret
      exact ⟨rfl, hb6⟩
  · go_wp2_with fail
    refine (Code_errno _ _ HW4.out).mono ?_
    rintro e w5 ⟨rfl, h5w⟩
    have hb5 := hb4.trans (h5w.mono hb4.size)
    clear h5w
    by_cases hm0 : 0 ≤ m
    · go_wp2_with fail
      go_ret
      exact ⟨rfl, hb5⟩
    · have hm1 : m < 0 := by omega
      go_wp2_with fail
      refine (Size_neg _ _ hm1).mono ?_
      rintro e w7 ⟨rfl, rfl⟩
      go_wp2_with fail
      go_ret
      exact ⟨rfl, hb5⟩
end
end Go.Proofs.YtkikcemcaoihpaaDoor
