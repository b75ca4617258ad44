/-
  The walk of SeamFrames: it returns true, whatever comes in. Conditions: the bytes are there, and not more than memory bears.
-/
import Derived.Test.YtkikcemcaoihpaaDoorTakes
import Derived.Deep.RegionWith
import Derived.Lib.QuietBelow
import Derived.BigQuiet
namespace Go.Proofs.YtkikcemcaoihpaaDoor
open Go.RowKit Go.BigFrame

theorem isBlank_append (a b : List UInt8) : isBlank (a ++ b) = (isBlank a && isBlank b) := by simp [isBlank]
theorem isBlank_zeros {l : List UInt8} (h : isBlank l = true) : l = List.replicate l.length 0 := by
  unfold isBlank at h
  rw [List.all_eq_true] at h
  exact List.eq_replicate_iff.2 ⟨rfl, fun u hu => UInt8.toNat_inj.1 (by simpa using h u hu)⟩
theorem isBlank_replicate (n : Nat) : isBlank (List.replicate n 0) = true := by simp [isBlank]
theorem isBlank_iff (l : List UInt8) : isBlank l = decide (l = List.replicate l.length 0) := by
  by_cases h : isBlank l = true
  · rw [h, decide_eq_true (isBlank_zeros h)]
  · have h' : isBlank l = false := by simpa using h
    rw [h', decide_eq_false (fun he => h (by rw [he]; exact isBlank_replicate _))]
theorem wrd_blank (x : Nat) (hx : x < 4294967296) : isBlank (Crc.wrd x) = decide (x = 0) := by
  by_cases h : x = 0
  · subst h; decide
  · rw [decide_eq_false h]
    simp only [isBlank, Crc.wrd, List.all_cons, List.all_nil, Bool.and_true, Crc.ofNat_toNat]
    by_cases h0 : x % 256 = 0 <;> by_cases h1 : x / 256 % 256 = 0 <;> by_cases h2 : x / 65536 % 256 = 0 <;> by_cases h3 : x / 16777216 % 256 = 0 <;> simp [h0, h1, h2, h3]
    omega
/-- A frame with bytes in it is no blank. -/
theorem frm_some (s : Nat) (l m : List UInt8) (h : l.length ≠ 0) (hl : l.length < 4294967296) : isBlank (Crc.frm s l ++ m) = false := by
  rw [frm_eq, List.append_assoc, List.append_assoc, isBlank_append, wrd_blank _ hl, decide_eq_false h]
  rfl
theorem frm_void (s : Nat) (m : List UInt8) : isBlank (Crc.frm s [] ++ m) = (decide (Crc.chk s (Crc.wrd 0) = 0) && isBlank m) := by
  have e : Crc.frm s [] = Crc.wrd 0 ++ Crc.wrd (Crc.chk s (Crc.wrd 0)) := rfl
  rw [e, List.append_assoc, isBlank_append, isBlank_append, wrd_blank 0 (by decide), wrd_blank _ (Crc.chk_lt _ _)]
  rfl

theorem makeB8 (n : Nat) (hn : n ≤ 1000000) (u : World) :
    (Instr.makeSlice 31 (.int .i64 (8 + (n : Int))) (.int .i64 (8 + (n : Int)))).run Tryd.prog u = .ok (.slice (some ⟨u.heap.size, 0, none⟩) (n + 8) (n + 8)) (u.alloc (.cells (madeCells #[.int .u8 0] (n + 8)) 5)) := by
  rw [Int.add_comm 8]
  exact makeB n (by omega) u
/-- A made row of noughts. -/
theorem madeB (n : Nat) (w : World) : Rd (w.alloc (.cells (madeCells #[.int .u8 0] n) 5)) (w.heap.size + 1) (some ⟨w.heap.size, 0, none⟩) (List.replicate n 0) := by
  refine (Blk.new w 5 (madeCells #[.int .u8 0] n)).rd (by omega) fun j u hu => ?_
  rw [List.getElem?_replicate] at hu
  split at hu
  · rename_i hj
    injection hu with hu
    subst hu
    rw [Nat.zero_add, ← Array.getElem?_toList, toList_madeCells_one, List.getElem?_replicate, if_pos hj]
    rfl
  · cases hu

theorem isBlank_iff' (s : Nat) (l : List UInt8) (n : Nat) (hn : l.length = n) : isBlank (Crc.frm s [] ++ l) = decide (Crc.frm s [] ++ l = List.replicate (n + 8) 0) := by
  rw [isBlank_iff]
  have e : (Crc.frm s [] ++ l).length = n + 8 := by
    rw [List.length_append, Crc.frm_length, hn, Nat.add_comm]
    rfl
  rw [e]
theorem frame_check (s g : Nat) (w : World) (hs : s < 4294967296) (hF : Rd w w.heap.size (some ⟨g, 0, none⟩) (Crc.frm s [])) (W : World) (hb : Below w.heap.size w W) :
    Calls Tryd.prog 35 #[.int .u32 s, .slice (some ⟨g, 0, none⟩) 4 8] W fun e w' => e = .returned (.int .u32 (Crc.chk s (Crc.wrd 0) : Nat)) ∧ Below w.heap.size W w' := by
  have h := (hF.below hb).take 4
  rw [show (Crc.frm s []).take 4 = Crc.wrd 0 from rfl] at h
  exact (Check_any s _ 4 8 _ (Crc.wrd 0) W hs h hb.size rfl (by decide)).mono fun e w' hp => ⟨hp.1, hp.2.mono hb.size⟩
/-- The check of a frame's length, met where the order is drawn. -/
theorem frame_check_q (w6 : World) (s g C : Nat) (h : ∀ W, Below w6.heap.size w6 W → Calls Tryd.prog 35 #[.int .u32 s, .slice (some ⟨g, 0, none⟩) 4 8] W fun e w' => e = .returned (.int .u32 C) ∧ Below w6.heap.size W w') (d : Nat) (os : Array Obj) :
    Calls Tryd.prog 35 #[.int .u32 s, .slice (some ⟨g, 0, none⟩) 4 8] (Go.Sort.grow (redrawn w6 d) os) fun e w'' => e = .returned (.int .u32 C) ∧ ∃ p : Regrown, w'' = Go.Sort.grow (redrawn w6 p.d) p.os :=
  (h _ (below_regrown w6 d os)).mono fun _ _ hp => ⟨hp.1, regrown_of_below ((below_regrown w6 d os).trans hp.2)⟩
theorem frame_same (s n2 : Nat) (l2 : List UInt8) (bv : Bool) (h : decide (Crc.frm s [] ++ l2 = List.replicate (n2 + 8) 0) = bv) (hn : l2.length = n2) (hl : n2 ≤ 20) (W : World) (A' : Option Addr) (c' B g : Nat) (hr : Rd W B A' (Crc.frm s [] ++ l2)) (B' : Nat) (hz : Rd W B' (some ⟨g, 0, none⟩) (List.replicate (n2 + 8) 0)) :
    Calls Tryd.prog 26 #[.slice A' (8 + n2) c', .slice (some ⟨g, 0, none⟩) (n2 + 8) (n2 + 8)] W (QuietPost (.bool bv) W) := by
  have e : (Crc.frm s [] ++ l2).length = 8 + n2 := by rw [List.length_append, Crc.frm_length, hn]; rfl
  have h' := Same_any A' (some ⟨g, 0, none⟩) (8 + n2) c' B (n2 + 8) (n2 + 8) B' (Crc.frm s [] ++ l2) (List.replicate (n2 + 8) 0) W hr e (small_len (by omega)) hz (by rw [List.length_replicate]) (small_len (by omega))
  rw [h] at h'
  exact h'

theorem Join_two_z (A1 A2 : Option Addr) (n1 n2 c1 c2 B1 B2 : Nat) (l1 l2 : List UInt8) (w : World) (h1 : Rd w B1 A1 l1) (hB1 : B1 ≤ w.heap.size) (h2 : Rd w B2 A2 l2) (hB2 : B2 ≤ w.heap.size) (hn1 : l1.length = n1) (hn2 : l2.length = n2) (hm : n1 + n2 ≤ 140737488355328) (o : Obj) :
    Calls Tryd.prog 24 #[.slice (some ⟨w.heap.size, 0, none⟩) 2 2] ((w.alloc (.cells #[.slice A1 n1 c1, .slice A2 n2 c2] 31)).alloc o) (CutPost (w.heap.size + 2) ((w.alloc (.cells #[.slice A1 n1 c1, .slice A2 n2 c2] 31)).alloc o) (l1 ++ l2)) := by
  subst hn1 hn2
  have hs1 : (w.alloc (.cells #[.slice A1 l1.length c1, .slice A2 l2.length c2] 31)).heap.size = w.heap.size + 1 := by simp
  have hs2 : ((w.alloc (.cells #[.slice A1 l1.length c1, .slice A2 l2.length c2] 31)).alloc o).heap.size = w.heap.size + 2 := by simp
  have h := Join_any w.heap.size 0 2 (w.heap.size + 1) [⟨A1, c1, l1⟩, ⟨A2, c2, l2⟩] 2 ((w.alloc (.cells #[.slice A1 l1.length c1, .slice A2 l2.length c2] 31)).alloc o) (fun j g hg => by
      rcases j with _ | _ | j
      · simp only [List.getElem?_cons_zero, Option.some.injEq] at hg
        subst hg
        exact ⟨by rw [World.cell?_alloc_lt _ _ _ (by rw [hs1]; exact Nat.lt_succ_self _)]; simp [go_sem], (seg_rd h1 hB1 _).alloc (by rw [hs1]; exact Nat.le_refl _) _⟩
      · simp only [List.getElem?_cons_succ, List.getElem?_cons_zero, Option.some.injEq] at hg
        subst hg
        exact ⟨by rw [World.cell?_alloc_lt _ _ _ (by rw [hs1]; exact Nat.lt_succ_self _)]; simp [go_sem], (seg_rd h2 hB2 _).alloc (by rw [hs1]; exact Nat.le_refl _) _⟩
      · simp at hg) (by omega) (by rw [hs2]; omega) rfl (by decide) (by simp [glue]; omega)
  have e1 : glue [⟨A1, c1, l1⟩, ⟨A2, c2, l2⟩] = l1 ++ l2 := by simp [glue]
  rw [e1, hs2] at h
  exact h
theorem join_z (n2 : Nat) (w7 w8 : World) (o : Obj) (h : Below (w7.heap.size + 2) ((w7.alloc o).alloc (.cells (madeCells #[.int .u8 0] (n2 + 8)) 5)) w8) : Rd w8 (w7.heap.size + 2) (some ⟨w7.heap.size + 1, 0, none⟩) (List.replicate (n2 + 8) 0) := by
  have hz := madeB (n2 + 8) (w7.alloc o)
  rw [show (w7.alloc o).heap.size = w7.heap.size + 1 by simp] at hz
  exact hz.below h
theorem Join_two_y (A1 A2 : Option Addr) (n1 n2 c1 c2 B1 B2 : Nat) (l1 l2 : List UInt8) (w : World) (h1 : Rd w B1 A1 l1) (hB1 : B1 ≤ w.heap.size) (h2 : Rd w B2 A2 l2) (hB2 : B2 ≤ w.heap.size) (hn1 : l1.length = n1) (hn2 : l2.length = n2) (hm : n1 + n2 ≤ 140737488355328) (o : Obj) :
    Calls Tryd.prog 24 #[.slice (some ⟨w.heap.size + 1, 0, none⟩) 2 2] ((w.alloc o).alloc (.cells #[.slice A1 n1 c1, .slice A2 n2 c2] 31)) (CutPost (w.heap.size + 1) (w.alloc o) (l1 ++ l2)) := by
  have hs : (w.alloc o).heap.size = w.heap.size + 1 := by simp
  have h := Join_two A1 A2 n1 n2 c1 c2 B1 B2 l1 l2 (w.alloc o) (h1.alloc hB1 o) (by omega) (h2.alloc hB2 o) (by omega) hn1 hn2 hm
  rw [hs] at h
  exact h
theorem join_y (n2 : Nat) (w7 w8 : World) (h : Below (w7.heap.size + 1) (w7.alloc (.cells (madeCells #[.int .u8 0] (n2 + 8)) 5)) w8) : Rd w8 (w7.heap.size + 1) (some ⟨w7.heap.size, 0, none⟩) (List.replicate (n2 + 8) 0) :=
  (madeB (n2 + 8) w7).below h
theorem join_b {w6 w7 w8 : World} {o o' : Obj} (hb : Below w6.heap.size w6 w7) (h : Below (w7.heap.size + 2) ((w7.alloc o).alloc o') w8) : Below w6.heap.size w6 w8 :=
  ((hb.alloc hb.size o).alloc (by have := hb.size; simp; omega) o').trans (h.mono (by have := hb.size; omega))

section
variable (A Am : Option Addr) (n c nm cm : Nat) (l lm : List UInt8) (w : World)

set_option maxHeartbeats 4000000 in
theorem Frames_any (s : Nat) (hs : s < 4294967296) (hw : Laid w) (hR : Rd w w.heap.size A l) (hn : l.length = n) (hm : n ≤ 140737488355328) (hRm : Rd w w.heap.size Am lm) (hnm : lm.length = nm) (hmm : nm ≤ 140737488355328) :
    Calls Tryd.prog 6 #[.int .u32 s, .slice A n c, .slice Am nm cm] w fun e w' => e = .returned (.bool true) ∧ Below w.heap.size w w' := by
  have HN := Lib.hid hn
  have HNm := Lib.hid hnm
  have HR := Lib.hid hR
  have HRm := Lib.hid hRm
  have HW := Lib.hid hw
  clear hw hn hnm hR hRm
  go_enter Tryd.func6, Tryd.ntmps6
  go_wp2_with fail
  refine (awake2_any _).mono ?_
  rintro e w1 ⟨rfl, hb1⟩
  go_wp2_with fail
  refine (Cut_any _ _ _ _ 200 _ _ (HR.out.below hb1) HN.out hm (by decide) hb1.size).mono ?_
  rintro e w2 ⟨A1, c1, rfl, h2a, h2b, h2r, h2w⟩
  have hb2 := hb1.trans (h2w.mono hb1.size)
  have hl1 : (l.take 200).length ≤ 200 := by rw [List.length_take]; omega
  generalize l.take 200 = l1 at h2a h2r hl1 ⊢
  have H2r := Lib.hid h2r
  clear h2r h2w hb1
  obtain ⟨n1, hn1⟩ : ∃ n1, l1.length = n1 := ⟨_, rfl⟩
  rw [hn1] at h2a hl1 ⊢
  have HN1 := Lib.hid hn1
  clear hn1
  go_wp2_with fail
  refine (Cut_any _ _ _ _ 20 _ _ (HRm.out.below hb2) HNm.out hmm (by decide) hb2.size).mono ?_
  rintro e w3 ⟨A2, c2, rfl, h3a, h3b, h3r, h3w⟩
  have hb3 := hb2.trans (h3w.mono hb2.size)
  have hs23 := h3w.size
  have H2r3 := Lib.hid (H2r.out.below h3w)
  have hl2 : (lm.take 20).length ≤ 20 := by rw [List.length_take]; omega
  generalize lm.take 20 = l2 at h3a h3r hl2 ⊢
  have H3r := Lib.hid h3r
  clear h3r h3w hb2
  obtain ⟨n2, hn2⟩ : ∃ n2, l2.length = n2 := ⟨_, rfl⟩
  rw [hn2] at h3a hl2 ⊢
  have HN2 := Lib.hid hn2
  clear hn2
  go_wp2_with fail
  refine (Frame_any s _ _ _ _ _ _ hs H2r3.out hs23 HN1.out (by omega) h2a).mono ?_
  rintro e w4 ⟨rfl, h4k, h4w⟩
  have hb4 := hb3.trans (h4w.mono hb3.size)
  have hg4 : w3.heap.size < w4.heap.size := h4k.lt
  have HF4 := Lib.hid (blk_rd h4k hg4)
  have H3r4 := Lib.hid (H3r.out.below h4w)
  have H2r4 := Lib.hid (H2r3.out.below (h4w.mono hs23))
  have HL := Lib.hid (show (Crc.frm s l1).length = n1 + 8 by rw [Crc.frm_length, HN1.out])
  clear h4k h4w hb3
  go_wp2_with fail
  refine (Join_two _ _ (n1 + 8) n2 _ _ _ _ _ _ w4 HF4.out (Nat.le_refl _) H3r4.out (by omega) HL.out HN2.out (by omega)).mono ?_
  rintro e w5 ⟨A5, c5, rfl, h5a, h5b, h5r, h5w⟩
  have hb5 := hb4.trans (h5w.mono hb4.size)
  have hs45 := h5w.size
  have HF5 := Lib.hid (HF4.out.below h5w)
  have H3r5 := Lib.hid (H3r4.out.below (h5w.mono (by omega)))
  have H2r5 := Lib.hid (H2r4.out.below (h5w.mono (by omega)))
  have hjl : (Crc.frm s l1 ++ l2).length = n1 + 8 + n2 := by rw [List.length_append, HL.out, HN2.out]
  have HJ := Lib.hid hjl
  have H5r := Lib.hid h5r
  rw [hjl] at h5a ⊢
  clear h5r h5w hb4 hjl
  have hsz5 : w3.heap.size < w5.heap.size := by omega
  have hs45' := hs45
  have hs25 : w2.heap.size ≤ w5.heap.size := by omega
  clear hg4 hs45 hs23
  go_wp2_with fail
  have HX := nxt_frm s s l1 l2 (by rw [HN1.out]; omega)
  rw [if_neg (show ¬ (sumOf s l1 ≠ sumOf s l1) from fun h => h rfl)] at HX
  cases hbl : isBlank (Crc.frm s l1 ++ l2)
  · rw [hbl] at HX
    have h0 : nxtErr s (Crc.frm s l1 ++ l2) = 0 := HX
    have hbd := nxt_frm_body s l1 l2 (by rw [HN1.out]; omega)
    refine (Next_yes s _ _ _ _ _ _ hs H5r.out (Nat.le_refl _) HJ.out (by omega) h5a h5b h0).mono ?_
    rw [hbd.1, hbd.2, HN1.out]
    rintro e w6 ⟨A6, c6, rfl, h6a, h6b, h6r, h6l, h6w⟩
    have hb6 := hb5.trans (h6w.mono hb5.size)
    have hs56 := h6w.size
    have HF6 := Lib.hid ((HF5.out.below (h6w.mono hs45')).more (Nat.le_trans hs45' h6w.size))
    have HM6 := Lib.hid ((H3r5.out.below (h6w.mono (Nat.le_of_lt hsz5))).more (Nat.le_trans (Nat.le_of_lt hsz5) h6w.size))
    have HP6 := Lib.hid ((H2r5.out.below (h6w.mono hs25)).more (Nat.le_trans hs25 h6w.size))
    have H6r := Lib.hid h6r
    have HBL := Lib.hid hbl
    clear h6r h6w HX h0 hbd hbl
    by_cases hz : n1 = 0
    · obtain rfl : l1 = [] := List.eq_nil_of_length_eq_zero (by rw [HN1.out]; exact hz)
      subst hz
      have hC := Crc.chk_lt s (Crc.wrd 0)
      have HCk := Lib.hid (frame_check s w3.heap.size w6 hs HF6.out)
      have hvb := frm_void s l2
      rw [HBL.out] at hvb
      by_cases hc0 : Crc.chk s (Crc.wrd 0) = 0
      · have HSm := Lib.hid (frame_same s n2 l2 false (by rw [← isBlank_iff' s l2 n2 HN2.out]; exact HBL.out) HN2.out hl2)
        rw [hc0] at HCk
        have HJ8 : Hid ((Crc.frm s [] ++ l2).length = 8 + n2) := Lib.hid (by rw [HJ.out, Nat.zero_add])
        have hmk := makeB8 n2 (by omega)
        have h8n : 8 + n2 ≤ 140737488355328 := by omega
        have H80 : Hid ((Crc.frm s []).length = 8) := Lib.hid rfl
        have i1 : IntKind.i64.wrap (8 + (n2 : Int)) = 8 + (n2 : Int) := by rw [IntKind.wrap_i64]; omega
        clear hvb hc0 hC
        go_wp2_with fail
        go_region_held3 (fun w' => True) (trivial)
          (first
            | (go_at_call 35; go_must (refine (HCk.out _ (Below.refl _ w6).drew).mono ?_); rintro e w7 ⟨rfl, hb7⟩; have hb67 := (Below.refl w6.heap.size w6).drew.trans hb7)
            | (go_at_call 24; first
                | ((with_reducible refine (Join_two _ _ 8 n2 8 c2 _ _ _ _ w7 (HF6.out.below hb67) hb67.size (HM6.out.below hb67) hb67.size H80.out HN2.out h8n).mono ?_); rintro e w8 ⟨A8, c8, rfl, h8a, h8b, h8r, h8w⟩; rw [HJ8.out] at h8a ⊢; have H8r := Lib.hid h8r; have H8b : Hid (Below w6.heap.size w6 w8) := Lib.hid (hb67.trans (h8w.mono hb67.size)); clear h8r h8w)
                | ((with_reducible refine (Join_two_y _ _ 8 n2 8 c2 _ _ _ _ w7 (HF6.out.below hb67) hb67.size (HM6.out.below hb67) hb67.size H80.out HN2.out h8n _).mono ?_); rintro e w8 ⟨A8, c8, rfl, h8a, h8b, h8r, h8w⟩; rw [HJ8.out] at h8a ⊢; have H8r := Lib.hid h8r; have H8z := Lib.hid (join_y n2 w7 w8 h8w); have H8b : Hid (Below w6.heap.size w6 w8) := Lib.hid ((hb67.alloc hb67.size _).trans (h8w.mono (Nat.le_succ_of_le hb67.size))); clear h8r h8w)
                | ((with_reducible refine (Join_two_z _ _ 8 n2 8 c2 _ _ _ _ w7 (HF6.out.below hb67) hb67.size (HM6.out.below hb67) hb67.size H80.out HN2.out h8n _).mono ?_); rintro e w8 ⟨A8, c8, rfl, h8a, h8b, h8r, h8w⟩; rw [HJ8.out] at h8a ⊢; have H8r := Lib.hid h8r; have H8z := Lib.hid (join_z n2 w7 w8 _ h8w); have H8b : Hid (Below w6.heap.size w6 w8) := Lib.hid (join_b hb67 h8w); clear h8r h8w))
            | (go_at_call 26; first
                | ((with_reducible refine (HSm.out _ A8 c8 _ _ (H8r.out.alloc (Nat.le_refl _) _) _ (madeB (n2 + 8) w8)).mono ?_); intro e w9 hq9; obtain ⟨rfl, hb9⟩ := below_all hq9; have hb68 : Below w6.heap.size w6 w9 := (H8b.out.alloc H8b.out.size _).trans (hb9.mono (by have := H8b.out.size; simp; omega)); clear hq9 hb9)
                | ((with_reducible refine (HSm.out _ A8 c8 _ _ H8r.out _ H8z.out).mono ?_); intro e w9 hq9; obtain ⟨rfl, hb9⟩ := below_all hq9; have hb68 : Below w6.heap.size w6 w9 := H8b.out.trans (hb9.mono H8b.out.size); clear hq9 hb9)))
        all_goals
          clear hb67 hb7 hmk i1
          have hbt := hb6.trans (hb68.mono hb6.size)
          have hst := hb68.size
          have HP9 := Lib.hid (HP6.out.below hb68)
          have HF9 := Lib.hid (HF6.out.below hb68)
          have HQ9 := Lib.hid (H6r.out.below hb68)
          go_wp2_with fail
          refine (RefFrame_any s _ _ _ _ _ _ hs HP9.out hst HN1.out (by omega)).mono ?_
          rintro e w10 ⟨A10, c10, rfl, h10a, h10b, h10r, h10w⟩
          rw [HL.out] at h10a ⊢
          have H10r := Lib.hid h10r
          have hs10 := h10w.size
          have HP10 := Lib.hid (HP9.out.below (h10w.mono hst))
          have HF10 := Lib.hid (HF9.out.below (h10w.mono hst))
          have HQ10 := Lib.hid (HQ9.out.below (h10w.mono hst))
          have hb10 := hbt.trans (h10w.mono hbt.size)
          clear h10r h10w
          go_wp2_with fail
          refine (Same_any _ _ _ _ _ _ _ _ _ _ _ HF10.out HL.out (small_len (by omega)) H10r.out HL.out (small_len (by omega))).mono ?_
          intro e w11 hq
          obtain ⟨rfl, h11w⟩ := below_all hq
          rw [decide_eq_true rfl]
          have hs11 := h11w.size
          have hb11 := hb10.trans (h11w.mono hb10.size)
          have HP11 := Lib.hid (HP10.out.below (h11w.mono (Nat.le_trans hst hs10)))
          have HQ11 := Lib.hid (HQ10.out.below (h11w.mono (Nat.le_trans hst hs10)))
          clear hq h11w
          go_wp2_with fail
          refine (Check_any s _ _ _ _ _ _ hs HP11.out (by omega) HN1.out (small_len (by omega))).mono ?_
          rintro e w12 ⟨rfl, h12w⟩
          have hs12 := h12w.size
          have hb12 := hb11.trans (h12w.mono hb11.size)
          have HP12 := Lib.hid (HP11.out.below (h12w.mono (by omega)))
          have HQ12 := Lib.hid (HQ11.out.below (h12w.mono (by omega)))
          clear h12w
          go_wp2_with fail
          refine (RefCheck_any s _ _ _ _ _ _ hs HP12.out (by omega) HN1.out (by omega)).mono ?_
          rintro e w13 ⟨rfl, h13w⟩
          have hs13 := h13w.size
          have hb13 := hb12.trans (h13w.mono hb12.size)
          have HP13 := Lib.hid (HP12.out.below (h13w.mono (by omega)))
          have HQ13 := Lib.hid (HQ12.out.below (h13w.mono (by omega)))
          clear h13w
          generalize Crc.chk s [] = ck
          go_wp2_with fail
          refine (Size0_any _).mono ?_
          rintro e w14 ⟨rfl, rfl⟩
          go_wp2_with fail
          refine (Same_any _ _ _ _ _ _ _ _ _ _ _ HQ13.out HN1.out (small_len (by omega)) HP13.out HN1.out (small_len (by omega))).mono ?_
          intro e w15 hq
          obtain ⟨rfl, h15w⟩ := below_all hq
          rw [decide_eq_true rfl]
          have hb15 := hb13.trans (h15w.mono hb13.size)
          clear hq h15w
          go_wp2_with fail
          go_ret
          exact ⟨rfl, hb15⟩
      · have hcn : (((Crc.chk s (Crc.wrd 0) : Nat) : Int) == 0) = false := by rw [beq_eq_false_iff_ne]; omega
        have hcn2 : (Crc.chk s (Crc.wrd 0) == 0) = false := by rw [beq_eq_false_iff_ne]; omega
        have hcn3 : decide (((Crc.chk s (Crc.wrd 0) : Nat) : Int) = 0) = false := decide_eq_false (by omega)
        generalize Crc.chk s (Crc.wrd 0) = C at HCk hcn hcn2 hcn3
        clear hvb hc0 hC
        go_wp2_with fail
        have HQk := frame_check_q w6 s w3.heap.size C HCk.out
        refine wp_region_quiet_below (by kernel_rfl) (by kernel_rfl) ?_
        repeat (go_big_quiet_step (exact HQk _ _))
        refine wpQuiet_nil ?_
        intro w9 hw'
        have hb68 : Below w6.heap.size w6 w9 := by
          obtain ⟨p, rfl⟩ := hw'
          exact below_regrown _ _ _
        clear hw' HQk
        have hbt := hb6.trans (hb68.mono hb6.size)
        have hst := hb68.size
        have HP9 := Lib.hid (HP6.out.below hb68)
        have HF9 := Lib.hid (HF6.out.below hb68)
        have HQ9 := Lib.hid (H6r.out.below hb68)
        go_wp2_with fail
        refine (RefFrame_any s _ _ _ _ _ _ hs HP9.out hst HN1.out (by omega)).mono ?_
        rintro e w10 ⟨A10, c10, rfl, h10a, h10b, h10r, h10w⟩
        rw [HL.out] at h10a ⊢
        have H10r := Lib.hid h10r
        have hs10 := h10w.size
        have HP10 := Lib.hid (HP9.out.below (h10w.mono hst))
        have HF10 := Lib.hid (HF9.out.below (h10w.mono hst))
        have HQ10 := Lib.hid (HQ9.out.below (h10w.mono hst))
        have hb10 := hbt.trans (h10w.mono hbt.size)
        clear h10r h10w
        go_wp2_with fail
        refine (Same_any _ _ _ _ _ _ _ _ _ _ _ HF10.out HL.out (small_len (by omega)) H10r.out HL.out (small_len (by omega))).mono ?_
        intro e w11 hq
        obtain ⟨rfl, h11w⟩ := below_all hq
        rw [decide_eq_true rfl]
        have hs11 := h11w.size
        have hb11 := hb10.trans (h11w.mono hb10.size)
        have HP11 := Lib.hid (HP10.out.below (h11w.mono (Nat.le_trans hst hs10)))
        have HQ11 := Lib.hid (HQ10.out.below (h11w.mono (Nat.le_trans hst hs10)))
        clear hq h11w
        go_wp2_with fail
        refine (Check_any s _ _ _ _ _ _ hs HP11.out (by omega) HN1.out (small_len (by omega))).mono ?_
        rintro e w12 ⟨rfl, h12w⟩
        have hs12 := h12w.size
        have hb12 := hb11.trans (h12w.mono hb11.size)
        have HP12 := Lib.hid (HP11.out.below (h12w.mono (by omega)))
        have HQ12 := Lib.hid (HQ11.out.below (h12w.mono (by omega)))
        clear h12w
        go_wp2_with fail
        refine (RefCheck_any s _ _ _ _ _ _ hs HP12.out (by omega) HN1.out (by omega)).mono ?_
        rintro e w13 ⟨rfl, h13w⟩
        have hs13 := h13w.size
        have hb13 := hb12.trans (h13w.mono hb12.size)
        have HP13 := Lib.hid (HP12.out.below (h13w.mono (by omega)))
        have HQ13 := Lib.hid (HQ12.out.below (h13w.mono (by omega)))
        clear h13w
        generalize Crc.chk s [] = ck
        go_wp2_with fail
        refine (Size0_any _).mono ?_
        rintro e w14 ⟨rfl, rfl⟩
        go_wp2_with fail
        refine (Same_any _ _ _ _ _ _ _ _ _ _ _ HQ13.out HN1.out (small_len (by omega)) HP13.out HN1.out (small_len (by omega))).mono ?_
        intro e w15 hq
        obtain ⟨rfl, h15w⟩ := below_all hq
        rw [decide_eq_true rfl]
        have hb15 := hb13.trans (h15w.mono hb13.size)
        clear hq h15w
        go_wp2_with fail
        go_ret
        exact ⟨rfl, hb15⟩
    · have hzn : ((n1 : Int) == 0) = false := by rw [beq_eq_false_iff_ne]; omega
      go_wp2_with fail
      refine wp_region_quiet_below (by kernel_rfl) (by kernel_rfl) ?_
      repeat (go_big_quiet_step (fail))
      refine wpQuiet_nil ?_
      intro w9 hw'
      have hbx : Below w6.heap.size w6 w9 := by
        obtain ⟨p, rfl⟩ := hw'
        exact below_regrown _ _ _
      clear hw'
      clear hzn hz
      have hbt := hb6.trans (hbx.mono hb6.size)
      have hst := hbx.size
      have HP9 := Lib.hid (HP6.out.below hbx)
      have HF9 := Lib.hid (HF6.out.below hbx)
      have HQ9 := Lib.hid (H6r.out.below hbx)
      go_wp2_with fail
      refine (RefFrame_any s _ _ _ _ _ _ hs HP9.out hst HN1.out (by omega)).mono ?_
      rintro e w10 ⟨A10, c10, rfl, h10a, h10b, h10r, h10w⟩
      rw [HL.out] at h10a ⊢
      have H10r := Lib.hid h10r
      have hs10 := h10w.size
      have HP10 := Lib.hid (HP9.out.below (h10w.mono hst))
      have HF10 := Lib.hid (HF9.out.below (h10w.mono hst))
      have HQ10 := Lib.hid (HQ9.out.below (h10w.mono hst))
      have hb10 := hbt.trans (h10w.mono hbt.size)
      clear h10r h10w
      go_wp2_with fail
      refine (Same_any _ _ _ _ _ _ _ _ _ _ _ HF10.out HL.out (small_len (by omega)) H10r.out HL.out (small_len (by omega))).mono ?_
      intro e w11 hq
      obtain ⟨rfl, h11w⟩ := below_all hq
      rw [decide_eq_true rfl]
      have hs11 := h11w.size
      have hb11 := hb10.trans (h11w.mono hb10.size)
      have HP11 := Lib.hid (HP10.out.below (h11w.mono (Nat.le_trans hst hs10)))
      have HQ11 := Lib.hid (HQ10.out.below (h11w.mono (Nat.le_trans hst hs10)))
      clear hq h11w
      go_wp2_with fail
      refine (Check_any s _ _ _ _ _ _ hs HP11.out (by omega) HN1.out (small_len (by omega))).mono ?_
      rintro e w12 ⟨rfl, h12w⟩
      have hs12 := h12w.size
      have hb12 := hb11.trans (h12w.mono hb11.size)
      have HP12 := Lib.hid (HP11.out.below (h12w.mono (by omega)))
      have HQ12 := Lib.hid (HQ11.out.below (h12w.mono (by omega)))
      clear h12w
      go_wp2_with fail
      refine (RefCheck_any s _ _ _ _ _ _ hs HP12.out (by omega) HN1.out (by omega)).mono ?_
      rintro e w13 ⟨rfl, h13w⟩
      have hs13 := h13w.size
      have hb13 := hb12.trans (h13w.mono hb12.size)
      have HP13 := Lib.hid (HP12.out.below (h13w.mono (by omega)))
      have HQ13 := Lib.hid (HQ12.out.below (h13w.mono (by omega)))
      clear h13w
      generalize Crc.chk s l1 = ck
      go_wp2_with fail
      refine (Size_any n1 _ (by omega)).mono ?_
      rintro e w14 ⟨rfl, rfl⟩
      go_wp2_with fail
      refine (Same_any _ _ _ _ _ _ _ _ _ _ _ HQ13.out HN1.out (small_len (by omega)) HP13.out HN1.out (small_len (by omega))).mono ?_
      intro e w15 hq
      obtain ⟨rfl, h15w⟩ := below_all hq
      rw [decide_eq_true rfl]
      have hb15 := hb13.trans (h15w.mono hb13.size)
      clear hq h15w
      go_wp2_with fail
      go_ret
      exact ⟨rfl, hb15⟩
  · rw [hbl] at HX
    have h3 : nxtErr s (Crc.frm s l1 ++ l2) = 3 := HX
    refine (Next_no s _ _ _ _ _ _ hs H5r.out (Nat.le_refl _) HJ.out (by omega) h5a h5b (by rw [h3]; decide)).mono ?_
    rw [h3]
    rintro e w6 ⟨rfl, h6w⟩
    have hb6 := hb5.trans (h6w.mono hb5.size)
    have hz : n1 = 0 := by
      rcases Nat.eq_zero_or_pos n1 with h | h
      · exact h
      · have := frm_some s l1 l2 (by rw [HN1.out]; omega) (by rw [HN1.out]; omega)
        rw [hbl] at this
        cases this
    obtain rfl : l1 = [] := List.eq_nil_of_length_eq_zero (by rw [HN1.out]; exact hz)
    subst hz
    have hvb := frm_void s l2
    rw [hbl] at hvb
    have hC : Crc.chk s (Crc.wrd 0) = 0 := by
      by_cases h : Crc.chk s (Crc.wrd 0) = 0
      · exact h
      · rw [decide_eq_false h] at hvb; cases hvb
    have HF6 := Lib.hid ((HF5.out.below (h6w.mono hs45')).more (Nat.le_trans hs45' h6w.size))
    have HM6 := Lib.hid ((H3r5.out.below (h6w.mono (Nat.le_of_lt hsz5))).more (Nat.le_trans (Nat.le_of_lt hsz5) h6w.size))
    have HCk := Lib.hid (frame_check s w3.heap.size w6 hs HF6.out)
    rw [hC] at HCk
    have HSm := Lib.hid (frame_same s n2 l2 true (by rw [← isBlank_iff' s l2 n2 HN2.out]; exact hbl) HN2.out hl2)
    have hs56 := h6w.size
    have HJ8 : Hid ((Crc.frm s [] ++ l2).length = 8 + n2) := Lib.hid (by rw [HJ.out, Nat.zero_add])
    have hmk := makeB8 n2 (by omega)
    have h8n : 8 + n2 ≤ 140737488355328 := by omega
    have H80 : Hid ((Crc.frm s []).length = 8) := Lib.hid rfl
    have i1 : IntKind.i64.wrap (8 + (n2 : Int)) = 8 + (n2 : Int) := by rw [IntKind.wrap_i64]; omega
    clear hvb hbl HX h3 hC h6w
    go_wp2_with fail
    go_region_held3 (fun w' => True) (trivial)
      (first
        | (go_at_call 35; go_must (refine (HCk.out _ (Below.refl _ w6).drew).mono ?_); rintro e w7 ⟨rfl, hb7⟩; have hb67 := (Below.refl w6.heap.size w6).drew.trans hb7)
        | (go_at_call 24; first
            | ((with_reducible refine (Join_two _ _ 8 n2 8 c2 _ _ _ _ w7 (HF6.out.below hb67) hb67.size (HM6.out.below hb67) hb67.size H80.out HN2.out h8n).mono ?_); rintro e w8 ⟨A8, c8, rfl, h8a, h8b, h8r, h8w⟩; rw [HJ8.out] at h8a ⊢; have H8r := Lib.hid h8r; have H8b : Hid (Below w6.heap.size w6 w8) := Lib.hid (hb67.trans (h8w.mono hb67.size)); clear h8r h8w)
            | ((with_reducible refine (Join_two_y _ _ 8 n2 8 c2 _ _ _ _ w7 (HF6.out.below hb67) hb67.size (HM6.out.below hb67) hb67.size H80.out HN2.out h8n _).mono ?_); rintro e w8 ⟨A8, c8, rfl, h8a, h8b, h8r, h8w⟩; rw [HJ8.out] at h8a ⊢; have H8r := Lib.hid h8r; have H8z := Lib.hid (join_y n2 w7 w8 h8w); have H8b : Hid (Below w6.heap.size w6 w8) := Lib.hid ((hb67.alloc hb67.size _).trans (h8w.mono (Nat.le_succ_of_le hb67.size))); clear h8r h8w)
            | ((with_reducible refine (Join_two_z _ _ 8 n2 8 c2 _ _ _ _ w7 (HF6.out.below hb67) hb67.size (HM6.out.below hb67) hb67.size H80.out HN2.out h8n _).mono ?_); rintro e w8 ⟨A8, c8, rfl, h8a, h8b, h8r, h8w⟩; rw [HJ8.out] at h8a ⊢; have H8r := Lib.hid h8r; have H8z := Lib.hid (join_z n2 w7 w8 _ h8w); have H8b : Hid (Below w6.heap.size w6 w8) := Lib.hid (join_b hb67 h8w); clear h8r h8w))
        | (go_at_call 26; first
            | ((with_reducible refine (HSm.out _ A8 c8 _ _ (H8r.out.alloc (Nat.le_refl _) _) _ (madeB (n2 + 8) w8)).mono ?_); intro e w9 hq9; obtain ⟨rfl, hb9⟩ := below_all hq9; have hb68 : Below w6.heap.size w6 w9 := (H8b.out.alloc H8b.out.size _).trans (hb9.mono (by have := H8b.out.size; simp; omega)); clear hq9 hb9)
            | ((with_reducible refine (HSm.out _ A8 c8 _ _ H8r.out _ H8z.out).mono ?_); intro e w9 hq9; obtain ⟨rfl, hb9⟩ := below_all hq9; have hb68 : Below w6.heap.size w6 w9 := H8b.out.trans (hb9.mono H8b.out.size); clear hq9 hb9)))
    all_goals
      have hb69 := hb6.trans (hb68.mono hb6.size)
      have HW9 := Lib.hid (HW.out.below hb69)
      clear hb68 hb67 hb7 hmk i1
      go_wp2_with fail
      refine (Code_errno _ _ HW9.out).mono ?_
      rintro e w10 ⟨rfl, h10w⟩
      have hb10 := hb69.trans (h10w.mono hb69.size)
      clear h10w
      go_wp2_with fail
      go_ret
      exact ⟨rfl, hb10⟩
end
end Go.Proofs.YtkikcemcaoihpaaDoor
