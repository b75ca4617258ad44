/-
  What Next tells of a frame; Next for any bytes; the packages' own example. Conditions: sizes.
-/
import Derived.Test.YtbfekonlgbolcabDoorNextB
namespace Go.Proofs.YtbfekonlgbolcabDoor
open Go.RowKit

theorem headOf_wrd (x : Nat) (m : List UInt8) (hx : x < 4294967296) : headOf (Crc.wrd x ++ m) = x := by
  have e0 : (Crc.wrd x ++ m).getD 0 0 = UInt8.ofNat x := rfl
  have e1 : (Crc.wrd x ++ m).getD 1 0 = UInt8.ofNat (x / 256) := rfl
  have e2 : (Crc.wrd x ++ m).getD 2 0 = UInt8.ofNat (x / 65536) := rfl
  have e3 : (Crc.wrd x ++ m).getD 3 0 = UInt8.ofNat (x / 16777216) := rfl
  simp only [headOf, valK, e0, e1, e2, e3, Crc.ofNat_toNat]
  omega
/-- The check of a frame's bytes. -/
def sumOf (s : Nat) (l : List UInt8) : Nat := Crc.chk s (Crc.wrd l.length ++ l)
theorem frm_eq (s : Nat) (l : List UInt8) : Crc.frm s l = (Crc.wrd l.length ++ l) ++ Crc.wrd (sumOf s l) := rfl
theorem take_front {α : Type} (a b : List α) (k : Nat) (h : k = a.length) : (a ++ b).take k = a := by subst h; exact List.take_left
theorem drop_front {α : Type} (a b : List α) (k : Nat) (h : k = a.length) : (a ++ b).drop k = b := by subst h; exact List.drop_left
theorem frm_head (s : Nat) (l : List UInt8) (hl : l.length < 4294967296) : headOf (Crc.frm s l) = l.length := by
  rw [frm_eq, List.append_assoc]
  exact headOf_wrd _ _ hl
theorem frm_pre (s : Nat) (l : List UInt8) : (Crc.frm s l).take (4 + l.length) = Crc.wrd l.length ++ l := by
  rw [frm_eq]
  exact take_front _ _ _ (by rw [List.length_append, Crc.wrd_length])
theorem frm_post (s : Nat) (l : List UInt8) : (Crc.frm s l).drop (4 + l.length) = Crc.wrd (sumOf s l) := by
  rw [frm_eq]
  exact drop_front _ _ _ (by rw [List.length_append, Crc.wrd_length])
/-- What Next tells of a frame, with whatever behind it. -/
theorem nxt_frm (t s : Nat) (l m : List UInt8) (hl : l.length ≤ 100000) :
    nxtErr t (Crc.frm s l ++ m) = if isBlank (Crc.frm s l ++ m) then 3 else if sumOf t l ≠ sumOf s l then 5 else 0 := by
  have h1 : headOf (Crc.frm s l ++ m) = l.length := by
    rw [frm_eq, List.append_assoc, List.append_assoc]
    exact headOf_wrd _ _ (by omega)
  have h2 : (Crc.frm s l ++ m).length = l.length + 8 + m.length := by rw [List.length_append, Crc.frm_length]
  have h3 : (Crc.frm s l ++ m).take (4 + l.length) = Crc.wrd l.length ++ l := by
    rw [List.take_append_of_le_length (by rw [Crc.frm_length]; omega)]
    exact frm_pre s l
  have h4 : headOf ((Crc.frm s l ++ m).drop (4 + l.length)) = sumOf s l := by
    rw [List.drop_append_of_le_length (by rw [Crc.frm_length]; omega), frm_post]
    exact headOf_wrd _ _ (Crc.chk_lt _ _)
  unfold nxtErr
  rw [h1, h2, h3, h4]
  by_cases hb : isBlank (Crc.frm s l ++ m) = true
  · rw [if_pos hb, if_pos hb]
  · rw [if_neg hb, if_neg hb, if_neg (by omega), if_neg (by omega)]
    rfl
theorem nxt_frm_body (s : Nat) (l m : List UInt8) (hl : l.length ≤ 100000) : headOf (Crc.frm s l ++ m) = l.length ∧ nxtBody (Crc.frm s l ++ m) = l := by
  have h1 : headOf (Crc.frm s l ++ m) = l.length := by
    rw [frm_eq, List.append_assoc, List.append_assoc]
    exact headOf_wrd _ _ (by omega)
  refine ⟨h1, ?_⟩
  unfold nxtBody
  rw [h1, frm_eq, List.append_assoc, List.append_assoc, drop_front (Crc.wrd l.length) _ 4 rfl]
  exact take_front _ _ _ rfl

section
variable (s : Nat) (A : Option Addr) (n c B : Nat) (l : List UInt8) (w : World)
/-- Next, where it tells an error. -/
theorem Next_no (hs : s < 4294967296) (hR : Rd w B A l) (hB : B ≤ w.heap.size) (hn : l.length = n) (hm : n ≤ 140737488355328) (hnc : n ≤ c) (hc : c ≤ maxLen) (h : nxtErr s l ≠ 0) :
    Calls Tryd.prog 30 #[.int .u32 s, .slice A n c] w (NextNo (nxtErr s l) w) := by
  unfold nxtErr at h ⊢
  subst hn
  by_cases h1 : isBlank l = true
  · rw [if_pos h1]
    exact Next_blank s A _ c B l w hR rfl (small_len hm) h1
  have h1' : isBlank l = false := by simpa using h1
  rw [if_neg h1] at h ⊢
  by_cases h2 : l.length < 8
  · rw [if_pos (.inl h2)]
    exact Next_short s A _ c B l w hR rfl (small_len hm) h1' h2
  by_cases h3 : l.length - 8 < headOf l
  · rw [if_pos (.inr h3)]
    exact Next_part s A _ c B l w hR rfl (small_len hm) h1' (by omega) h3
  rw [if_neg (fun h => h.elim h2 h3)] at h ⊢
  by_cases h4 : 100000 < headOf l
  · rw [if_pos h4]
    exact Next_long s A _ c B l w hR rfl (small_len hm) h1' (by omega) (by omega) h4
  rw [if_neg h4] at h ⊢
  by_cases h5 : Crc.chk s (l.take (4 + headOf l)) ≠ headOf (l.drop (4 + headOf l))
  · rw [if_pos h5]
    exact Next_sum s A _ c B l w hs hR hB rfl hm hnc hc h1' (by omega) (by omega) (by omega) h5
  · rw [if_neg h5] at h
    exact absurd rfl h
/-- Next, where it tells bytes. -/
theorem Next_yes (hs : s < 4294967296) (hR : Rd w B A l) (hB : B ≤ w.heap.size) (hn : l.length = n) (hm : n ≤ 140737488355328) (hnc : n ≤ c) (hc : c ≤ maxLen) (h : nxtErr s l = 0) :
    Calls Tryd.prog 30 #[.int .u32 s, .slice A n c] w (NextYes (headOf l) (nxtBody l) w) := by
  unfold nxtErr at h
  subst hn
  by_cases h1 : isBlank l = true
  · rw [if_pos h1] at h
    exact absurd h (by decide)
  have h1' : isBlank l = false := by simpa using h1
  rw [if_neg h1] at h
  by_cases h2 : l.length < 8 ∨ l.length - 8 < headOf l
  · rw [if_pos h2] at h
    exact absurd h (by decide)
  rw [if_neg h2] at h
  by_cases h4 : 100000 < headOf l
  · rw [if_pos h4] at h
    exact absurd h (by decide)
  rw [if_neg h4] at h
  by_cases h5 : Crc.chk s (l.take (4 + headOf l)) = headOf (l.drop (4 + headOf l))
  · exact Next_ok s A _ c B l w hs hR hB rfl hm hnc hc h1' (by omega) (by omega) (by omega) h5
  · rw [if_pos h5] at h
    exact absurd h (by decide)
end

theorem chk_example : Crc.chk 0 [] = 558161692 := by decide +kernel
set_option maxHeartbeats 400000 in
theorem awake2_any (w : World) : Calls Tryd.prog 27 #[] w fun e w' => e = .returned (.bool true) ∧ Below w.heap.size w w' := by
  have HC := Lib.hid (Check_any 0 Option.none 0 0 w.heap.size [] w (by decide) Rd.nil_ (Nat.le_refl _) rfl (by decide))
  rw [chk_example] at HC
  go_enter Tryd.func27, Tryd.ntmps27
  go_wp2_with fail
  refine HC.out.mono ?_
  rintro e w1 ⟨rfl, hb⟩
  go_wp2_with fail
  refine (Size_any 3 _ (by decide)).mono ?_
  rintro e w2 ⟨rfl, rfl⟩
  go_wp2_with fail
  go_ret
  exact ⟨rfl, hb⟩
end Go.Proofs.YtbfekonlgbolcabDoor
