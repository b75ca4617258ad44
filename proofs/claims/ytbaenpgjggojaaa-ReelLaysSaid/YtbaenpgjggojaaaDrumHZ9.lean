/-
drum.Write where it goes well. Conditions: the drum is known whole, the sector is there, the bytes are not too many, spend lets it.
-/
import Derived.Test.YtbaenpgjggojaaaDrumIZ9
import Derived.Deep.RegionHeld3
import Derived.Deep.WholeRow
namespace Go.Proofs.Ytbaenpgjggojaaa
open Go.RowKit

/-- The bytes with noughts behind them. -/
def full (l : List UInt8) : List UInt8 := l ++ List.replicate (256 - l.length) 0
theorem full_length (l : List UInt8) (h : l.length ≤ 256) : (full l).length = 256 := by simp [full]; omega
theorem wz_laid (i : Nat) (l : List UInt8) (_h : l.length ≤ 256) : splice (wz (i : Int)).toList 1 (l.map enc8) = encW (i, full l) := by
  unfold splice wz encW full
  simp only [List.take_succ_cons, List.take_zero, List.map_append, List.map_replicate, List.length_map]
  rw [Nat.add_comm 1, List.drop_succ_cons, List.drop_replicate]
  rfl

section
variable {w w2 : World} {base d f g : Nat} {V : Option Addr} {cv : Nat} {T : Tails} {fl : List (List UInt8)} {ws : List (Nat × List UInt8)} {ls : List Nat} {left : Int}

set_option maxRecDepth 20000 in
set_option maxHeartbeats 4000000 in
theorem Write_ok (i : Nat) (A : Option Addr) (n c B : Nat) (l : List UInt8) (h0 : Blk w d 86 (dhead (some ⟨f, 0, none⟩) fl.length T.cf V ws.length cv (some ⟨g, 0, none⟩) fl.length T.cl left))
    (hsp : Calls Try.prog 56 #[.pointer (some ⟨d, 0, none⟩)] w fun e w' => e = .returned .nilIface ∧ w' = w2) (left' : Int)
    (h : Dru w2 base d f g V cv T fl ws ls left') (hi : i < fl.length) (hR : Rd w2 B A l) (hB : B ≤ w2.heap.size) (hn : l.length = n) (hm : n ≤ 256) (hws : ws.length < 1000000) :
    Calls Try.prog 42 #[.pointer (some ⟨d, 0, none⟩), .int .i64 (i : Int), .slice A n c] w fun e w' => e = .returned .nilIface ∧ (∃ V' cv', Dru w' base d f g V' cv' T fl (ws ++ [(i, full l)]) (ls.set i (ws.length + 1)) left' ∧ ∀ a, V' = some a → (∃ a', V = some a' ∧ a'.block = a.block) ∨ w2.heap.size ≤ a.block) ∧ Kept (ownOf d f g V) w2 w' := by
  have n1 : ¬ 256 < (n : Int) := by omega
  go_enter Try.func42, Try.ntmps42
  go_wp2_with fail
  refine (has_any (i : Int) h0).mono ?_
  rintro e w1 ⟨rfl, rfl⟩
  rw [decide_eq_true (show (0 : Int) ≤ (i : Int) ∧ (i : Int) < (fl.length : Int) by omega)]
  go_wp2_with fail
  refine hsp.mono ?_
  rintro e w3 ⟨rfl, rfl⟩
  have hb0 : Blk (w3.alloc (.cells (wz (i : Int)) 89)) w3.heap.size 89 (wz (i : Int)) := Blk.new w3 _ _
  have hbw : Below w3.heap.size w3 (w3.alloc (.cells (wz (i : Int)) 89)) := (Below.refl _ w3).alloc (Nat.le_refl _) _
  obtain ⟨cur, hcur⟩ : ∃ cur : List Value, cur.toArray = wz (i : Int) := ⟨_, Array.toArray_toList⟩
  have hcl : cur.length = 257 := by
    have := congrArg Array.size hcur
    rw [wz_size] at this
    simpa using this
  have hr := (hR.more hB).below hbw
  obtain ⟨X, hX⟩ : ∃ X, X = l.map enc8 := ⟨_, rfl⟩
  have hlr : 0 < X.length → ∃ ad, A = some ad ∧ ∀ (j : Nat) v, X[j]? = some v → (w3.alloc (.cells (wz (i : Int)) 89)).cell? (ad.add j) = some v := by rw [hX]; exact list_rd hr
  have HLR := Lib.hid hlr
  have HX := Lib.hid hX
  have HXL : Hid (X.length = n) := Lib.hid (by rw [hX, List.length_map]; exact hn)
  have HX1 : Hid (∀ u ∈ X, u.oneCell' = true) := Lib.hid (by rw [hX]; exact enc8_one l)
  have HB1 := Lib.hid (show (w3.alloc (.cells (wz (i : Int)) 89)).heap[w3.heap.size]? = some (.cells cur.toArray 89 (0, 0)) from by rw [hcur]; exact hb0)
  have HL := Lib.hid hcl
  have HC := Lib.hid hcur
  have HN := Lib.hid hn
  have HBW := Lib.hid hbw
  have H := Lib.hid h
  clear hcur hlr hr hX hb0 hcl h hbw h0 hsp hn
  go_wp2_with (first | (with_reducible refine wpl_build (o := ⟨some 30, _, _, _, _, _⟩) rfl (.tmp 29) rfl (i : Int) rfl ?_) | (with_reducible refine wpl_alloc (o := ⟨some 8, _, _, _, _, _⟩) rfl rfl ?_) | (with_reducible refine wpl_store (o := ⟨none, _, _, _, _, _⟩) rfl (.tmp 8) (.tmp 30) rfl (i : Int) rfl rfl ?_) | (with_reducible refine wpList_copy_splice (o := ⟨some 34, _, _, _, _, _⟩) rfl (.tmp 32) (.tmp 33) 35 35 rfl 5 Try.underlying35 sizeB (some ⟨w3.heap.size, 1, none⟩) A 256 256 n c ?ha ?hb w3.heap.size 1 cur 89 HB1.out X ?hc ?hd ?he HX1.out w3.heap.size w3 HBW.out (Nat.le_refl _) ?_))
  case ha => rfl
  case hb => rfl
  case hc => rw [HXL.out]; exact (Nat.min_eq_left hm).symm
  case hd => exact HLR.out
  case he => rw [HXL.out, HL.out]; omega
  intro w4 hb4 hbw4
  have e4 : splice cur 1 X = encW (i, full l) := by
    have hc : cur = (wz (i : Int)).toList := by rw [← HC.out]
    rw [hc, HX.out]
    exact wz_laid i l (by rw [HN.out]; exact hm)
  obtain ⟨cs, hcs⟩ : ∃ cs, cs = encW (i, full l) := ⟨_, rfl⟩
  have hcl : cs.length = 257 := by rw [hcs, encW, List.length_cons, List.length_map, full_length l (by rw [HN.out]; exact hm)]
  have hco : ∀ u ∈ cs, u.oneCell' = true := by
    intro u hu
    rw [hcs, encW, List.mem_cons] at hu
    rcases hu with rfl | hu
    · rfl
    · exact enc8_one _ u hu
  have hb5 : Blk w4 w3.heap.size 89 cs.toArray := by
    have h := hb4.out
    rw [e4, ← hcs] at h
    exact h
  have h4 := H.out.below hbw4
  obtain ⟨-, c1, -, -, z1, -, -⟩ := dhead_cells h4.head
  have hrg : w4.rangeAt w3.heap.size 0 cs := fun j v hv => by rw [hb5.cell, Nat.zero_add, List.getElem?_toArray]; exact hv
  have H4 := Lib.hid h4
  have HB5 := Lib.hid hb5
  have HVL := Lib.hid H.out.vlt
  have HDL : Hid (d < w3.heap.size) := Lib.hid H.out.head.lt
  have HBS : Hid (base ≤ (w4.drew.alloc (.cells cs.toArray 89)).heap.size) := Lib.hid (by have := h4.far.1; have := h4.head.lt; simp; omega)
  have HCS := Lib.hid hcs
  have HCL := Lib.hid hcl
  have HCO := Lib.hid hco
  have hdw : d < w4.heap.size := h4.head.lt
  clear hb4 e4 H h4 hcs hcl hco hb5 HB1 HX1 HXL HLR HX HBW HL HC
  go_wp2_with fail
  refine wp_region_noPanic ?_
  refine wp_region_held_drew (S := fun W => W.rangeAt w3.heap.size 0 cs) (by kernel_rfl) hrg (fun hHeld => ?_)
  refine wpAnyH_take (i := 0) (oi := ⟨some 35, _, _, _, _, _⟩) (v := .pointer (some ⟨d, 0, none⟩)) rfl (by kernel_rfl) (by kernel_rfl) (by kernel_rfl) (fun _ _ _ h => h) (Or.inl ⟨rfl, fun w _ => by go_simp⟩) hHeld ?_
  simp only [Act.put, List.setIfInBounds_toArray, List.set_cons_zero, List.set_cons_succ]
  refine wpAnyH_take (i := 1) (oi := ⟨some 36, _, _, _, _, _⟩) (v := .pointer (some ⟨d, 0, none⟩)) rfl (by kernel_rfl) (by kernel_rfl) (by kernel_rfl) (fun _ _ _ h => h) (Or.inl ⟨rfl, fun w _ => by go_simp⟩) hHeld ?_
  simp only [Act.put, List.setIfInBounds_toArray, List.set_cons_zero, List.set_cons_succ]
  refine wpAnyH_take (i := 2) (oi := ⟨some 37, _, _, _, _, _⟩) (v := .pointer (some ⟨d, 0, none⟩)) rfl (by kernel_rfl) (by kernel_rfl) (by kernel_rfl) (fun _ _ _ h => h) (Or.inl ⟨rfl, fun w _ => by go_simp⟩) hHeld ?_
  simp only [Act.put, List.setIfInBounds_toArray, List.set_cons_zero, List.set_cons_succ]
  refine wpAnyH_take (i := 3) (oi := ⟨some 38, _, _, _, _, _⟩) (v := .pointer (some ⟨d, 1, none⟩)) rfl (by kernel_rfl) (by kernel_rfl) (by kernel_rfl) (fun _ _ _ h => h) (Or.inl ⟨rfl, fun w _ => by go_simp⟩) hHeld ?_
  simp only [Act.put, List.setIfInBounds_toArray, List.set_cons_zero, List.set_cons_succ]
  refine wpAnyH_take (i := 5) (oi := ⟨some 40, _, _, _, _, _⟩) (v := .agg cs.toArray) rfl (by kernel_rfl) (by kernel_rfl) (by kernel_rfl) (fun _ _ _ h => h) (yieldsIf_loadW rfl (.tmp 8) rfl w3.heap.size cs HCL.out rfl fun w hS => hS) hHeld ?_
  simp only [Act.put, List.setIfInBounds_toArray, List.set_cons_zero, List.set_cons_succ]
  refine wpAnyH_ready (rs := [4, 6]) (by kernel_rfl) (by simp) (AllReadyH.cons (o := ⟨some 39, _, _, _, _, _⟩) rfl (fun K hK => ?_) (AllReadyH.cons (o := ⟨some 41, _, _, _, _, _⟩) rfl (fun K hK => ?_) AllReadyH.nil))
  · rw [if_pos (by rfl)]
    have hc := (show w4.drew.cell? ⟨d, 1, none⟩ = _ from c1)
    go_simp
    refine hK.out _ _ hrg (fun hHeld2 => ?_)
    clear hK K hc
    try simp only [Act.put, List.setIfInBounds_toArray, List.set_cons_zero, List.set_cons_succ]
    refine wpAnyH_ready (rs := [6]) (by kernel_rfl) (by simp) (AllReadyH.cons (o := ⟨some 41, _, _, _, _, _⟩) rfl (fun K hK => ?_) AllReadyH.nil)
    with_reducible refine if_wanted ?hgd ?_
    case hgd => rfl
    with_reducible refine wp_buildW (o := ⟨some 41, _, _, _, _, _⟩) (cs := cs.toArray) (x := .tmp 40) ?ho ?hx (List.size_toArray.trans HCL.out) ?_
    case ho => rfl
    case hx => rfl
    refine hK.out _ _ (World.rangeAt_alloc (w := w4.drew) hrg _) (fun hHeld3 => ?_)
    clear hK K
    simp only [Act.put, List.setIfInBounds_toArray, List.set_cons_zero, List.set_cons_succ]
    refine wpAnyH_ready (rs := [7]) (by kernel_rfl) (by simp) (AllReadyH.cons (o := ⟨some 42, _, _, _, _, _⟩) rfl (fun K hK => ?_) AllReadyH.nil)
    with_reducible refine step_append (o := ⟨some 42, _, _, _, _, _⟩) ?hg (.tmp 39) (.tmp 41) ?ho base (.slice V ws.length cv) ws.length (flatW ws) ?hs (H4.out.row.drew.alloc _) w4.heap.size cs ?hx HCL.out (newRange w4 cs _) HCO.out H4.out.fewW HBS.out ?_
    case hg => rfl
    case ho => rfl
    case hs => rfl
    case hx => rfl
    intro v' w6 hown hg hloc
    obtain ⟨vb, cap, rfl, hvb, hvl⟩ := hown.form (by omega)
    have HLOC := Lib.hid (loc_of (s0 := w3.heap.size) hloc (by have := hbw4.size; simp; omega))
    clear hloc
    have hd6 := blk_far (H4.out.head.drew.alloc (.cells cs.toArray 89)) hg (fun a n c e => by injection e with e _ _; exact (H4.out.far.2.2.2.2.2.2 a e).1)
    have hr6 : w6.rangeAt w3.heap.size 0 cs := by
      have hb6 := blk_far (HB5.out.drew.alloc (.cells cs.toArray 89)) hg (fun a n c e => by injection e with e _ _; exact Nat.ne_of_lt (HVL.out a e))
      exact fun j v hv => by rw [hb6.cell, Nat.zero_add, List.getElem?_toArray]; exact hv
    refine hK.out _ _ hr6 (fun hHeld4 => ?_)
    clear hK K
    try simp only [Act.put, List.setIfInBounds_toArray, List.set_cons_zero, List.set_cons_succ]
    refine wpAnyH_take (i := 8) (oi := ⟨some 43, _, _, _, _, _⟩) (v := .pointer (some ⟨d, 0, none⟩)) rfl (by kernel_rfl) (by kernel_rfl) (by kernel_rfl) (fun _ _ _ h => h) (Or.inl ⟨rfl, fun w _ => by go_simp⟩) hHeld4 ?_
    simp only [Act.put, List.setIfInBounds_toArray, List.set_cons_zero, List.set_cons_succ]
    refine wpAnyH_take (i := 9) (oi := ⟨some 44, _, _, _, _, _⟩) (v := .pointer (some ⟨d, 1, none⟩)) rfl (by kernel_rfl) (by kernel_rfl) (by kernel_rfl) (fun _ _ _ h => h) (Or.inl ⟨rfl, fun w _ => by go_simp⟩) hHeld4 ?_
    simp only [Act.put, List.setIfInBounds_toArray, List.set_cons_zero, List.set_cons_succ]
    refine wpAnyH_ready (rs := [10]) (by kernel_rfl) (by simp) (AllReadyH.cons (o := ⟨none, _, _, _, _, _⟩) rfl (fun K hK => ?_) AllReadyH.nil)
    with_reducible refine if_wanted ?hgd ?_
    case hgd => rfl
    obtain ⟨-, k1, -, -, y1, -, -⟩ := dhead_cells hd6
    go_simp
    refine hK.out _ _ (fun j v hv => (World.cell?_setCell_other w6 _ _ _ (fun e => by injection e with e _ _; exact Nat.ne_of_lt HDL.out e)).trans (hr6 j v hv)) (fun hHeld5 => ?_)
    clear hK K
    refine wpAnyH_done (by kernel_rfl) ?_ _
    refine NoPanic.normal ?_
    have hd7 : Blk (w6.setCell ⟨d, 1, none⟩ (.slice (some ⟨vb, 0, none⟩) (ws.length + 1) cap)) d 86 (dhead (some ⟨f, 0, none⟩) fl.length T.cf (some ⟨vb, 0, none⟩) (ws.length + 1) cap (some ⟨g, 0, none⟩) fl.length T.cl left') := hd6.set_ 1 _
    have hg6 := blk_far (H4.out.last.drew.alloc (.cells cs.toArray 89)) hg (fun a n c e => by injection e with e _ _; exact (H4.out.far.2.2.2.2.2.2 a e).2.2)
    have hg7 := hg6.far (p := ⟨d, 1, none⟩) (Ne.symm H4.out.far.2.2.2.2.1) (.slice (some ⟨vb, 0, none⟩) (ws.length + 1) cap)
    have HDG : Hid (d ≠ g) := Lib.hid H4.out.far.2.2.2.2.1
    obtain ⟨w7, hw7⟩ : ∃ w7, w7 = w6.setCell ⟨d, 1, none⟩ (.slice (some ⟨vb, 0, none⟩) (ws.length + 1) cap) := ⟨_, rfl⟩
    rw [← hw7] at hd7 hg7 ⊢
    have HW7 := Lib.hid hw7
    have HD6 := Lib.hid hd6
    have HG6 := Lib.hid hg6
    have HF6 := Lib.hid (blk_far (H4.out.rows.drew.alloc (.cells cs.toArray 89)) hg (fun a n c e => by injection e with e _ _; exact (H4.out.far.2.2.2.2.2.2 a e).2.1))
    have HOWN := Lib.hid hown
    have HG := Lib.hid hg
    obtain ⟨-, q1, q2, -, -, -, -⟩ := dhead_cells hd7
    have hlen : i < ls.length := by rw [H4.out.len]; exact hi
    have qg : w7.cell? ⟨g, i, none⟩ = some (.int .i64 ((ls[i] : Nat) : Int)) := by
      rw [hg7.cell, Array.getElem?_append_left (by rw [encI_size]; exact hlen)]
      unfold encI
      rw [List.getElem?_toArray, List.getElem?_map, List.getElem?_eq_getElem hlen]
      rfl
    have qf := hg7.frozen i
    have HD7 := Lib.hid hd7
    have HG7 := Lib.hid hg7
    have e1 : ∀ v, (w7.setCell ⟨g, i, none⟩ v).cell? ⟨d, 1, none⟩ = some (.slice (some ⟨vb, 0, none⟩) (ws.length + 1) cap) := fun v => (World.cell?_setCell_other w7 _ _ _ (fun e => by injection e with e _ _; exact HDG.out e.symm)).trans q1
    have e2 : ∀ v, (w7.setCell ⟨g, i, none⟩ v).cell? ⟨d, 2, none⟩ = some (.slice (some ⟨g, 0, none⟩) fl.length T.cl) := fun v => (World.cell?_setCell_other w7 _ _ _ (fun e => by injection e with e _ _; exact HDG.out e.symm)).trans q2
    have E1 := Lib.hid e1
    have E2 := Lib.hid e2
    clear e1 e2
    have i1 : (0 : Int) ≤ (i : Int) := by omega
    have i2 : (i : Int) < (fl.length : Int) := by omega
    clear hw7 hown hg hd7 hg7 hg6 hd6 hr6 k1 y1 hHeld hHeld2 hHeld3 hHeld4 hHeld5 c1 z1 hrg hvl hvb hdw
    go_wp2_with fail
    go_region_held3 (fun W => W.cell? ⟨d, 1, none⟩ = some (.slice (some ⟨vb, 0, none⟩) (ws.length + 1) cap) ∧ W.cell? ⟨d, 2, none⟩ = some (.slice (some ⟨g, 0, none⟩) fl.length T.cl)) (first | exact ⟨q1, q2⟩ | exact ⟨E1.out _, E2.out _⟩) (fail)
    all_goals
      go_wp2
      go_ret
      have hv1 := own_ne HOWN.out HD6.out (by decide)
      have hv2 := own_ne HOWN.out HF6.out (by decide)
      have hv3 := own_ne HOWN.out HG6.out (by decide)
      have hdf := H4.out.far.2.2.2.1
      have hfg := H4.out.far.2.2.2.2.2.1
      have hw := HW7.out
      subst hw
      refine ⟨rfl, ⟨some ⟨vb, 0, none⟩, cap, ?_, HLOC.out⟩, kept_write hbw4 HG.out⟩
      refine H4.out.written i (i, full l) ?_ ?_ ?_ ?_ ?_ (full_length l (by rw [HN.out]; exact hm)) hws
      · exact (HD7.out.far (p := ⟨g, i, none⟩) HDG.out _).drew
      · exact ((HF6.out.far (p := ⟨d, 1, none⟩) (Ne.symm hdf) _).far (p := ⟨g, i, none⟩) hfg _).drew
      · have h := (HG7.out.set_ i (.int .i64 ((ws.length + 1 : Nat) : Int))).drew
        rw [encI_set _ _ _ _ hlen] at h
        exact h
      · rw [← HCS.out]
        exact (own_set (own_set HOWN.out hv1 _) hv3 _).drew
      · intro a e
        injection e with e
        subst e
        exact ⟨hv1, hv2, hv3⟩
  · rw [if_pos (by rfl)]
    with_reducible refine wp_buildW (o := ⟨some 41, _, _, _, _, _⟩) (cs := cs.toArray) (x := .tmp 40) ?ho ?hx (List.size_toArray.trans HCL.out) ?_
    case ho => rfl
    case hx => rfl
    refine hK.out _ _ (World.rangeAt_alloc (w := w4.drew) hrg _) (fun hHeld2 => ?_)
    clear hK K
    simp only [Act.put, List.setIfInBounds_toArray, List.set_cons_zero, List.set_cons_succ]
    refine wpAnyH_ready (rs := [4]) (by kernel_rfl) (by simp) (AllReadyH.cons (o := ⟨some 39, _, _, _, _, _⟩) rfl (fun K hK => ?_) AllReadyH.nil)
    with_reducible refine if_wanted ?hgd ?_
    case hgd => rfl
    have hc := ((World.cell?_alloc_lt w4.drew (.cells cs.toArray 89) ⟨d, 1, none⟩ hdw).trans c1)
    go_simp
    refine hK.out _ _ (World.rangeAt_alloc (w := w4.drew) hrg _) (fun hHeld3 => ?_)
    clear hK K hc
    rw [← World.alloc_drew] at *
    try simp only [Act.put, List.setIfInBounds_toArray, List.set_cons_zero, List.set_cons_succ]
    refine wpAnyH_ready (rs := [7]) (by kernel_rfl) (by simp) (AllReadyH.cons (o := ⟨some 42, _, _, _, _, _⟩) rfl (fun K hK => ?_) AllReadyH.nil)
    with_reducible refine step_append (o := ⟨some 42, _, _, _, _, _⟩) ?hg (.tmp 39) (.tmp 41) ?ho base (.slice V ws.length cv) ws.length (flatW ws) ?hs (H4.out.row.drew.alloc _) w4.heap.size cs ?hx HCL.out (newRange w4 cs _) HCO.out H4.out.fewW HBS.out ?_
    case hg => rfl
    case ho => rfl
    case hs => rfl
    case hx => rfl
    intro v' w6 hown hg hloc
    obtain ⟨vb, cap, rfl, hvb, hvl⟩ := hown.form (by omega)
    have HLOC := Lib.hid (loc_of (s0 := w3.heap.size) hloc (by have := hbw4.size; simp; omega))
    clear hloc
    have hd6 := blk_far (H4.out.head.drew.alloc (.cells cs.toArray 89)) hg (fun a n c e => by injection e with e _ _; exact (H4.out.far.2.2.2.2.2.2 a e).1)
    have hr6 : w6.rangeAt w3.heap.size 0 cs := by
      have hb6 := blk_far (HB5.out.drew.alloc (.cells cs.toArray 89)) hg (fun a n c e => by injection e with e _ _; exact Nat.ne_of_lt (HVL.out a e))
      exact fun j v hv => by rw [hb6.cell, Nat.zero_add, List.getElem?_toArray]; exact hv
    refine hK.out _ _ hr6 (fun hHeld4 => ?_)
    clear hK K
    try simp only [Act.put, List.setIfInBounds_toArray, List.set_cons_zero, List.set_cons_succ]
    refine wpAnyH_take (i := 8) (oi := ⟨some 43, _, _, _, _, _⟩) (v := .pointer (some ⟨d, 0, none⟩)) rfl (by kernel_rfl) (by kernel_rfl) (by kernel_rfl) (fun _ _ _ h => h) (Or.inl ⟨rfl, fun w _ => by go_simp⟩) hHeld4 ?_
    simp only [Act.put, List.setIfInBounds_toArray, List.set_cons_zero, List.set_cons_succ]
    refine wpAnyH_take (i := 9) (oi := ⟨some 44, _, _, _, _, _⟩) (v := .pointer (some ⟨d, 1, none⟩)) rfl (by kernel_rfl) (by kernel_rfl) (by kernel_rfl) (fun _ _ _ h => h) (Or.inl ⟨rfl, fun w _ => by go_simp⟩) hHeld4 ?_
    simp only [Act.put, List.setIfInBounds_toArray, List.set_cons_zero, List.set_cons_succ]
    refine wpAnyH_ready (rs := [10]) (by kernel_rfl) (by simp) (AllReadyH.cons (o := ⟨none, _, _, _, _, _⟩) rfl (fun K hK => ?_) AllReadyH.nil)
    with_reducible refine if_wanted ?hgd ?_
    case hgd => rfl
    obtain ⟨-, k1, -, -, y1, -, -⟩ := dhead_cells hd6
    go_simp
    refine hK.out _ _ (fun j v hv => (World.cell?_setCell_other w6 _ _ _ (fun e => by injection e with e _ _; exact Nat.ne_of_lt HDL.out e)).trans (hr6 j v hv)) (fun hHeld5 => ?_)
    clear hK K
    refine wpAnyH_done (by kernel_rfl) ?_ _
    refine NoPanic.normal ?_
    have hd7 : Blk (w6.setCell ⟨d, 1, none⟩ (.slice (some ⟨vb, 0, none⟩) (ws.length + 1) cap)) d 86 (dhead (some ⟨f, 0, none⟩) fl.length T.cf (some ⟨vb, 0, none⟩) (ws.length + 1) cap (some ⟨g, 0, none⟩) fl.length T.cl left') := hd6.set_ 1 _
    have hg6 := blk_far (H4.out.last.drew.alloc (.cells cs.toArray 89)) hg (fun a n c e => by injection e with e _ _; exact (H4.out.far.2.2.2.2.2.2 a e).2.2)
    have hg7 := hg6.far (p := ⟨d, 1, none⟩) (Ne.symm H4.out.far.2.2.2.2.1) (.slice (some ⟨vb, 0, none⟩) (ws.length + 1) cap)
    have HDG : Hid (d ≠ g) := Lib.hid H4.out.far.2.2.2.2.1
    obtain ⟨w7, hw7⟩ : ∃ w7, w7 = w6.setCell ⟨d, 1, none⟩ (.slice (some ⟨vb, 0, none⟩) (ws.length + 1) cap) := ⟨_, rfl⟩
    rw [← hw7] at hd7 hg7 ⊢
    have HW7 := Lib.hid hw7
    have HD6 := Lib.hid hd6
    have HG6 := Lib.hid hg6
    have HF6 := Lib.hid (blk_far (H4.out.rows.drew.alloc (.cells cs.toArray 89)) hg (fun a n c e => by injection e with e _ _; exact (H4.out.far.2.2.2.2.2.2 a e).2.1))
    have HOWN := Lib.hid hown
    have HG := Lib.hid hg
    obtain ⟨-, q1, q2, -, -, -, -⟩ := dhead_cells hd7
    have hlen : i < ls.length := by rw [H4.out.len]; exact hi
    have qg : w7.cell? ⟨g, i, none⟩ = some (.int .i64 ((ls[i] : Nat) : Int)) := by
      rw [hg7.cell, Array.getElem?_append_left (by rw [encI_size]; exact hlen)]
      unfold encI
      rw [List.getElem?_toArray, List.getElem?_map, List.getElem?_eq_getElem hlen]
      rfl
    have qf := hg7.frozen i
    have HD7 := Lib.hid hd7
    have HG7 := Lib.hid hg7
    have e1 : ∀ v, (w7.setCell ⟨g, i, none⟩ v).cell? ⟨d, 1, none⟩ = some (.slice (some ⟨vb, 0, none⟩) (ws.length + 1) cap) := fun v => (World.cell?_setCell_other w7 _ _ _ (fun e => by injection e with e _ _; exact HDG.out e.symm)).trans q1
    have e2 : ∀ v, (w7.setCell ⟨g, i, none⟩ v).cell? ⟨d, 2, none⟩ = some (.slice (some ⟨g, 0, none⟩) fl.length T.cl) := fun v => (World.cell?_setCell_other w7 _ _ _ (fun e => by injection e with e _ _; exact HDG.out e.symm)).trans q2
    have E1 := Lib.hid e1
    have E2 := Lib.hid e2
    clear e1 e2
    have i1 : (0 : Int) ≤ (i : Int) := by omega
    have i2 : (i : Int) < (fl.length : Int) := by omega
    clear hw7 hown hg hd7 hg7 hg6 hd6 hr6 k1 y1 hHeld hHeld2 hHeld3 hHeld4 hHeld5 c1 z1 hrg hvl hvb hdw
    go_wp2_with fail
    go_region_held3 (fun W => W.cell? ⟨d, 1, none⟩ = some (.slice (some ⟨vb, 0, none⟩) (ws.length + 1) cap) ∧ W.cell? ⟨d, 2, none⟩ = some (.slice (some ⟨g, 0, none⟩) fl.length T.cl)) (first | exact ⟨q1, q2⟩ | exact ⟨E1.out _, E2.out _⟩) (fail)
    all_goals
      go_wp2
      go_ret
      have hv1 := own_ne HOWN.out HD6.out (by decide)
      have hv2 := own_ne HOWN.out HF6.out (by decide)
      have hv3 := own_ne HOWN.out HG6.out (by decide)
      have hdf := H4.out.far.2.2.2.1
      have hfg := H4.out.far.2.2.2.2.2.1
      have hw := HW7.out
      subst hw
      refine ⟨rfl, ⟨some ⟨vb, 0, none⟩, cap, ?_, HLOC.out⟩, kept_write hbw4 HG.out⟩
      refine H4.out.written i (i, full l) ?_ ?_ ?_ ?_ ?_ (full_length l (by rw [HN.out]; exact hm)) hws
      · exact (HD7.out.far (p := ⟨g, i, none⟩) HDG.out _).drew
      · exact ((HF6.out.far (p := ⟨d, 1, none⟩) (Ne.symm hdf) _).far (p := ⟨g, i, none⟩) hfg _).drew
      · have h := (HG7.out.set_ i (.int .i64 ((ws.length + 1 : Nat) : Int))).drew
        rw [encI_set _ _ _ _ hlen] at h
        exact h
      · rw [← HCS.out]
        exact (own_set (own_set HOWN.out hv1 _) hv3 _).drew
      · intro a e
        injection e with e
        subst e
        exact ⟨hv1, hv2, hv3⟩
end
end Go.Proofs.Ytbaenpgjggojaaa
