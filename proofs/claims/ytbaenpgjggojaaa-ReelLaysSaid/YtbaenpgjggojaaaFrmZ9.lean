/-
seam.Next, its check: an error of the sum, or the bytes. Conditions: as in Next.
What Next tells of a frame; Next for any bytes; the packages' own example. Conditions: sizes.
-/
import Derived.Test.YtbaenpgjggojaaaNextZ9
namespace Go.Proofs.Ytbaenpgjggojaaa
open Go.RowKit

theorem toInt_len {n k : Nat} (h : k ≤ n) : ((n - k : Nat) : Int) = (n : Int) - (k : Int) := by omega

theorem headOf_lt (l : List UInt8) : headOf l < 4294967296 := valK_lt l 4
section
variable (A : Option Addr) (n c B : Nat) (l : List UInt8) (w : World)
theorem head_any (hR : Rd w B A l) (hn : l.length = n) (hm : n ≤ maxLen) (h4 : 4 ≤ n) :
    Calls Try.prog 77 #[.slice A n c] w fun e w' => e = .returned (.int .u32 (headOf l : Nat)) ∧ w = w' := get_any A n c B l w hR hn hm h4
theorem small_len {k : Nat} (h : k ≤ 140737488355328) : k ≤ maxLen := by unfold maxLen; omega

/-- The check of what stands ahead of the frame's end, in whatever world is alike. -/
theorem pre_check (s v b o : Nat) (hs : s < 4294967296) (hR : Rd w B (some ⟨b, o, none⟩) l) (hB : B ≤ w.heap.size) (hv : 4 + v ≤ l.length) (hl : l.length ≤ 140737488355328) (W : World) (hW : W.heap = w.heap) :
    Calls Try.prog 64 #[.int .u32 s, .slice (some ⟨b, o, none⟩) (4 + v) c] W fun e w' => e = .returned (.int .u32 (Crc.chk s (l.take (4 + v)) : Nat)) ∧ Below w.heap.size W w' := by
  have h1 : Rd W W.heap.size (some ⟨b, o, none⟩) l := (hR.keep (w' := W) (fun p _ => by simp [World.cell?, hW])).more (by rw [hW]; exact hB)
  rw [← hW]
  exact Check_any s _ _ _ W.heap.size _ W hs (h1.take _) (Nat.le_refl _) (by rw [List.length_take]; omega) (small_len (by omega))
/-- What stands in a check's place, behind the call. -/
theorem post_get (v b o : Nat) (hR : Rd w B (some ⟨b, o, none⟩) l) (hB : B ≤ w.heap.size) (hn : l.length = n) (hv : v + 8 ≤ n) (hm : n ≤ 140737488355328) (hc : n ≤ c) (W : World) (hb : Below w.heap.size w W) :
    Calls Try.prog 77 #[.slice (some ⟨b, o + (4 + v), none⟩) (n - (4 + v)) (c - (4 + v))] W fun e w' => e = .returned (.int .u32 (headOf (l.drop (4 + v)) : Nat)) ∧ W = w' := by
  have h1 := ((hR.more hB).below hb).cut (k := 4 + v) (cap := c) (by omega)
  rw [if_neg (by omega)] at h1
  have h2 : Rd W w.heap.size (some ⟨b, o + (4 + v), none⟩) (l.drop (4 + v)) := by simpa [go_sem] using h1
  exact head_any _ _ _ _ _ W h2 (by rw [List.length_drop]; omega) (small_len (by omega)) (by omega)
theorem mid_clone (v b o : Nat) (hR : Rd w B (some ⟨b, o, none⟩) l) (hB : B ≤ w.heap.size) (hn : l.length = n) (hv : v + 8 ≤ n) (hm : n ≤ 140737488355328) (hc : n ≤ c) (W : World) (hb : Below w.heap.size w W) :
    Calls Try.prog 36 #[.slice (some ⟨b, o + 4, none⟩) v (c - 4)] W (CutPost W.heap.size W ((l.drop 4).take v)) := by
  have h1 := ((hR.more hB).below hb).cut (k := 4) (cap := c) (by omega)
  rw [if_neg (by omega)] at h1
  have h2 : Rd W w.heap.size (some ⟨b, o + 4, none⟩) (l.drop 4) := by simpa [go_sem] using h1
  exact Clone_any _ _ _ _ _ W (h2.take v) (by rw [List.length_take, List.length_drop]; omega) (by omega) hb.size
end

section
variable (s : Nat) (A : Option Addr) (n c B : Nat) (l : List UInt8) (w : World)

set_option maxHeartbeats 2000000 in
theorem Next_sum (hs : s < 4294967296) (hR : Rd w B A l) (hB : B ≤ w.heap.size) (hn : l.length = n) (hm : n ≤ 140737488355328) (hnc : n ≤ c) (_hc : c ≤ maxLen) (h : isBlank l = false) (h8 : 8 ≤ n) (hp : headOf l ≤ n - 8) (hg : headOf l ≤ 100000)
    (hck : Crc.chk s (l.take (4 + headOf l)) ≠ headOf (l.drop (4 + headOf l))) :
    Calls Try.prog 72 #[.int .u32 s, .slice A n c] w (NextNo 5 w) := by
  obtain ⟨b, o, rfl, _, hx⟩ := hR.at_ (k := 0) (by omega)
  clear hx
  have HB := Lib.hid (blank_any _ n c B l w hR hn (small_len hm))
  rw [h] at HB
  have HG := Lib.hid (head_any _ n c B l w hR hn (small_len hm) (by omega))
  have hv := headOf_lt l
  generalize headOf l = v at hp hg hck HG hv
  have HCk := Lib.hid (pre_check c B l w s v b o hs hR hB (by omega) (by omega))
  have HG2 := Lib.hid (post_get n c B l w v b o hR hB hn (by omega) hm hnc)
  generalize Crc.chk s (l.take (4 + v)) = C at HCk hck
  generalize headOf (l.drop (4 + v)) = D at HG2 hck
  have hbne : (((C : Nat) : Int) != ((D : Nat) : Int)) = true := by rw [bne_iff_ne]; omega
  clear h hR hn hck
  have b1 : (0 : Int) ≤ 4 + (v : Int) := by omega
  have b2 : 4 + (v : Int) ≤ (n : Int) := by omega
  have b2' : 4 + (v : Int) ≤ (c : Int) := by omega
  have b3 : (4 + (v : Int)).toNat = 4 + v := by omega
  have b4 : ¬ (c = 4 + v) := by omega
  go_enter Try.func72, Try.ntmps72
  go_wp2_with fail
  refine HB.out.mono ?_
  rintro e w1 ⟨rfl, rfl⟩
  go_wp2_with fail
  refine (Size0_any _).mono ?_
  rintro e w1 ⟨rfl, rfl⟩
  go_wp2_with fail
  refine HG.out.mono ?_
  rintro e w1 ⟨rfl, rfl⟩
  go_wp2_with fail
  refine (Size0_any _).mono ?_
  rintro e w1 ⟨rfl, rfl⟩
  go_wp2_with fail
  refine HG.out.mono ?_
  rintro e w1 ⟨rfl, rfl⟩
  go_wp2_with fail
  go_region_held3 (fun w' => True) (trivial)
    (first
      | (go_at_call 64; refine (HCk.out w.drew rfl).mono ?_; rintro e w3 ⟨rfl, hb3⟩)
      | (go_at_call 77; go_must (refine (HG2.out _ ((Below.refl _ w).drew.trans hb3)).mono ?_); rintro e w4 ⟨rfl, rfl⟩))
  go_wp2_with fail
  go_ret3
  exact ⟨rfl, (Below.refl _ w).drew.trans hb3⟩

set_option maxHeartbeats 2000000 in
theorem Next_ok (hs : s < 4294967296) (hR : Rd w B A l) (hB : B ≤ w.heap.size) (hn : l.length = n) (hm : n ≤ 140737488355328) (hnc : n ≤ c) (_hc : c ≤ maxLen) (h : isBlank l = false) (h8 : 8 ≤ n) (hp : headOf l ≤ n - 8) (hg : headOf l ≤ 100000)
    (hck : Crc.chk s (l.take (4 + headOf l)) = headOf (l.drop (4 + headOf l))) :
    Calls Try.prog 72 #[.int .u32 s, .slice A n c] w (NextYes (headOf l) (nxtBody l) w) := by
  obtain ⟨b, o, rfl, _, hx⟩ := hR.at_ (k := 0) (by omega)
  clear hx
  have HB := Lib.hid (blank_any _ n c B l w hR hn (small_len hm))
  rw [h] at HB
  have HG := Lib.hid (head_any _ n c B l w hR hn (small_len hm) (by omega))
  have hv := headOf_lt l
  unfold nxtBody
  generalize headOf l = v at hp hg hck HG hv ⊢
  have HCl := Lib.hid (mid_clone n c B l w v b o hR hB hn (by omega) hm hnc)
  have HBL : Hid (((l.drop 4).take v).length = v) := Lib.hid (by rw [List.length_take, List.length_drop]; omega)
  generalize (l.drop 4).take v = body at HCl HBL ⊢
  have HCk := Lib.hid (pre_check c B l w s v b o hs hR hB (by omega) (by omega))
  have HG2 := Lib.hid (post_get n c B l w v b o hR hB hn (by omega) hm hnc)
  generalize Crc.chk s (l.take (4 + v)) = C at HCk hck
  generalize headOf (l.drop (4 + v)) = D at HG2 hck
  have hbne : (((C : Nat) : Int) != ((D : Nat) : Int)) = false := by rw [hck]; simp
  clear h hR hn hck
  have b1 : (0 : Int) ≤ 4 + (v : Int) := by omega
  have b2 : 4 + (v : Int) ≤ (n : Int) := by omega
  have b2' : 4 + (v : Int) ≤ (c : Int) := by omega
  have b3 : (4 + (v : Int)).toNat = 4 + v := by omega
  have b4 : ¬ (c = 4 + v) := by omega
  go_enter Try.func72, Try.ntmps72
  go_wp2_with fail
  refine HB.out.mono ?_
  rintro e w1 ⟨rfl, rfl⟩
  go_wp2_with fail
  refine (Size0_any _).mono ?_
  rintro e w1 ⟨rfl, rfl⟩
  go_wp2_with fail
  refine HG.out.mono ?_
  rintro e w1 ⟨rfl, rfl⟩
  go_wp2_with fail
  refine (Size0_any _).mono ?_
  rintro e w1 ⟨rfl, rfl⟩
  go_wp2_with fail
  refine HG.out.mono ?_
  rintro e w1 ⟨rfl, rfl⟩
  go_wp2_with fail
  go_region_held3 (fun w' => True) (trivial)
    (first
      | (go_at_call 64; refine (HCk.out w.drew rfl).mono ?_; rintro e w3 ⟨rfl, hb3⟩)
      | (go_at_call 77; go_must (refine (HG2.out _ ((Below.refl _ w).drew.trans hb3)).mono ?_); rintro e w4 ⟨rfl, rfl⟩))
  have hb4 := (Below.refl w.heap.size w).drew.trans hb3
  clear hb3
  have c1 : (4 : Int) ≤ 4 + (v : Int) := by omega
  have c2 : ¬ (c = 4) := by omega
  have c3 : 4 + v - 4 = v := by omega
  have HG8 := Lib.hid hg
  clear hp hg hm hnc h8 hv hs hB hbne
  go_wp2_with fail
  refine (HCl.out _ hb4).mono ?_
  rintro e w5 ⟨A5, c5, rfl, h5a, h5b, h5r, h5w⟩
  rw [HBL.out] at h5a ⊢
  have hb5 := hb4.trans (h5w.mono hb4.size)
  have H5r := Lib.hid h5r
  clear h5r
  go_wp2_with fail
  refine (Size_any v _ (by have := HG8.out; omega)).mono ?_
  rintro e w6 ⟨rfl, rfl⟩
  go_wp2_with fail
  go_ret3
  exact ⟨A5, c5, rfl, h5a, h5b, H5r.out, HBL.out, hb5⟩
end
end Go.Proofs.Ytbaenpgjggojaaa
namespace Go.Proofs.Ytbaenpgjggojaaa
open Go.RowKit

theorem headOf_wrd (x : Nat) (m : List UInt8) (hx : x < 4294967296) : headOf (Crc.wrd x ++ m) = x := by
  have e0 : (Crc.wrd x ++ m).getD 0 0 = UInt8.ofNat x := rfl
  have e1 : (Crc.wrd x ++ m).getD 1 0 = UInt8.ofNat (x / 256) := rfl
  have e2 : (Crc.wrd x ++ m).getD 2 0 = UInt8.ofNat (x / 65536) := rfl
  have e3 : (Crc.wrd x ++ m).getD 3 0 = UInt8.ofNat (x / 16777216) := rfl
  simp only [headOf, valK, e0, e1, e2, e3, Crc.ofNat_toNat]
  omega
/-- The check of a frame's bytes. -/
def sumOf (s : Nat) (l : List UInt8) : Nat := Crc.chk s (Crc.wrd l.length ++ l)
theorem frm_eq (s : Nat) (l : List UInt8) : Crc.frm s l = (Crc.wrd l.length ++ l) ++ Crc.wrd (sumOf s l) := rfl
theorem take_front {α : Type} (a b : List α) (k : Nat) (h : k = a.length) : (a ++ b).take k = a := by subst h; exact List.take_left
theorem drop_front {α : Type} (a b : List α) (k : Nat) (h : k = a.length) : (a ++ b).drop k = b := by subst h; exact List.drop_left
theorem frm_head (s : Nat) (l : List UInt8) (hl : l.length < 4294967296) : headOf (Crc.frm s l) = l.length := by
  rw [frm_eq, List.append_assoc]
  exact headOf_wrd _ _ hl
theorem frm_pre (s : Nat) (l : List UInt8) : (Crc.frm s l).take (4 + l.length) = Crc.wrd l.length ++ l := by
  rw [frm_eq]
  exact take_front _ _ _ (by rw [List.length_append, Crc.wrd_length])
theorem frm_post (s : Nat) (l : List UInt8) : (Crc.frm s l).drop (4 + l.length) = Crc.wrd (sumOf s l) := by
  rw [frm_eq]
  exact drop_front _ _ _ (by rw [List.length_append, Crc.wrd_length])
/-- What Next tells of a frame, with whatever behind it. -/
theorem nxt_frm (t s : Nat) (l m : List UInt8) (hl : l.length ≤ 100000) :
    nxtErr t (Crc.frm s l ++ m) = if isBlank (Crc.frm s l ++ m) then 3 else if sumOf t l ≠ sumOf s l then 5 else 0 := by
  have h1 : headOf (Crc.frm s l ++ m) = l.length := by
    rw [frm_eq, List.append_assoc, List.append_assoc]
    exact headOf_wrd _ _ (by omega)
  have h2 : (Crc.frm s l ++ m).length = l.length + 8 + m.length := by rw [List.length_append, Crc.frm_length]
  have h3 : (Crc.frm s l ++ m).take (4 + l.length) = Crc.wrd l.length ++ l := by
    rw [List.take_append_of_le_length (by rw [Crc.frm_length]; omega)]
    exact frm_pre s l
  have h4 : headOf ((Crc.frm s l ++ m).drop (4 + l.length)) = sumOf s l := by
    rw [List.drop_append_of_le_length (by rw [Crc.frm_length]; omega), frm_post]
    exact headOf_wrd _ _ (Crc.chk_lt _ _)
  unfold nxtErr
  rw [h1, h2, h3, h4]
  by_cases hb : isBlank (Crc.frm s l ++ m) = true
  · rw [if_pos hb, if_pos hb]
  · rw [if_neg hb, if_neg hb, if_neg (by omega), if_neg (by omega)]
    rfl
theorem nxt_frm_body (s : Nat) (l m : List UInt8) (hl : l.length ≤ 100000) : headOf (Crc.frm s l ++ m) = l.length ∧ nxtBody (Crc.frm s l ++ m) = l := by
  have h1 : headOf (Crc.frm s l ++ m) = l.length := by
    rw [frm_eq, List.append_assoc, List.append_assoc]
    exact headOf_wrd _ _ (by omega)
  refine ⟨h1, ?_⟩
  unfold nxtBody
  rw [h1, frm_eq, List.append_assoc, List.append_assoc, drop_front (Crc.wrd l.length) _ 4 rfl]
  exact take_front _ _ _ rfl

section
variable (s : Nat) (A : Option Addr) (n c B : Nat) (l : List UInt8) (w : World)
/-- Next, where it tells an error. -/
theorem Next_no (hs : s < 4294967296) (hR : Rd w B A l) (hB : B ≤ w.heap.size) (hn : l.length = n) (hm : n ≤ 140737488355328) (hnc : n ≤ c) (hc : c ≤ maxLen) (h : nxtErr s l ≠ 0) :
    Calls Try.prog 72 #[.int .u32 s, .slice A n c] w (NextNo (nxtErr s l) w) := by
  unfold nxtErr at h ⊢
  subst hn
  by_cases h1 : isBlank l = true
  · rw [if_pos h1]
    exact Next_blank s A _ c B l w hR rfl (small_len hm) h1
  have h1' : isBlank l = false := by simpa using h1
  rw [if_neg h1] at h ⊢
  by_cases h2 : l.length < 8
  · rw [if_pos (.inl h2)]
    exact Next_short s A _ c B l w hR rfl (small_len hm) h1' h2
  by_cases h3 : l.length - 8 < headOf l
  · rw [if_pos (.inr h3)]
    exact Next_part s A _ c B l w hR rfl (small_len hm) h1' (by omega) h3
  rw [if_neg (fun h => h.elim h2 h3)] at h ⊢
  by_cases h4 : 100000 < headOf l
  · rw [if_pos h4]
    exact Next_long s A _ c B l w hR rfl (small_len hm) h1' (by omega) (by omega) h4
  rw [if_neg h4] at h ⊢
  by_cases h5 : Crc.chk s (l.take (4 + headOf l)) ≠ headOf (l.drop (4 + headOf l))
  · rw [if_pos h5]
    exact Next_sum s A _ c B l w hs hR hB rfl hm hnc hc h1' (by omega) (by omega) (by omega) h5
  · rw [if_neg h5] at h
    exact absurd rfl h
/-- Next, where it tells bytes. -/
theorem Next_yes (hs : s < 4294967296) (hR : Rd w B A l) (hB : B ≤ w.heap.size) (hn : l.length = n) (hm : n ≤ 140737488355328) (hnc : n ≤ c) (hc : c ≤ maxLen) (h : nxtErr s l = 0) :
    Calls Try.prog 72 #[.int .u32 s, .slice A n c] w (NextYes (headOf l) (nxtBody l) w) := by
  unfold nxtErr at h
  subst hn
  by_cases h1 : isBlank l = true
  · rw [if_pos h1] at h
    exact absurd h (by decide)
  have h1' : isBlank l = false := by simpa using h1
  rw [if_neg h1] at h
  by_cases h2 : l.length < 8 ∨ l.length - 8 < headOf l
  · rw [if_pos h2] at h
    exact absurd h (by decide)
  rw [if_neg h2] at h
  by_cases h4 : 100000 < headOf l
  · rw [if_pos h4] at h
    exact absurd h (by decide)
  rw [if_neg h4] at h
  by_cases h5 : Crc.chk s (l.take (4 + headOf l)) = headOf (l.drop (4 + headOf l))
  · exact Next_ok s A _ c B l w hs hR hB rfl hm hnc hc h1' (by omega) (by omega) (by omega) h5
  · rw [if_pos h5] at h
    exact absurd h (by decide)
end

theorem chk_example : Crc.chk 0 [] = 558161692 := by decide +kernel
end Go.Proofs.Ytbaenpgjggojaaa
