/-
The record that a run begins with. Conditions: the run is there, and not too long.
The reel's Gen, Count, Flush; what a nil reel says. Conditions: a reel in memory; its drum isn't armed.
seam.Next, where it tells bytes: they lie in a row of its own. Conditions: as in Next.
-/
import Derived.Test.YtbaenpgjggojaaaRlJZ9
import Derived.Test.YtbaenpgjggojaaaShelf
namespace Go.Proofs.Ytbaenpgjggojaaa
open Go.ChangeShapes Go.WideShapes Go.RowKit

def numsOf (l : List UInt8) : List Int := l.map fun u => (u.toNat : Int)
theorem bytes_nums (l : List UInt8) : Lib.bytesOf (numsOf l) = l := by
  unfold Lib.bytesOf numsOf
  rw [List.map_map]
  exact (List.map_congr_left fun u _ => by simp).trans (List.map_id _)
theorem rd_in {w : World} {B : Nat} {A : Option Addr} {l : List UInt8} (h : Rd w B A l) : Lib.BytesIn w A l.length (numsOf l) := by
  intro h0
  obtain ⟨b, o, e, -, hc⟩ := h h0
  refine ⟨b, o, e, fun i hi => ?_⟩
  rw [hc i _ (List.getElem?_eq_getElem hi)]
  unfold numsOf
  rw [List.getD_eq_getElem?_getD, List.getElem?_map, List.getElem?_eq_getElem hi]
  rfl
theorem HasPrefix_any {w : World} {B1 B2 : Nat} {A1 A2 : Option Addr} {l1 l2 : List UInt8} (c1 c2 : Nat) (h1 : Rd w B1 A1 l1) (h2 : Rd w B2 A2 l2) (hc : l1.length ≤ c1) :
    Calls Try.prog 75 #[.slice A1 l1.length c1, .slice A2 l2.length c2] w fun e w' => e = .returned (.bool (l2.isPrefixOf l1)) ∧ w' = w := by
  have h := Try.bytes_HasPrefix_all A1 A2 l1.length c1 l2.length c2 (numsOf l1) (numsOf l2) w (by simp [numsOf]) (by simp [numsOf]) hc (rd_in h1) (rd_in h2)
  rw [bytes_nums, bytes_nums] at h
  exact h
/-- The record that a run begins with. -/
def recOf (s : Nat) (l : List UInt8) : Option (List UInt8) := if nxtErr s l = 0 then some (nxtBody l) else if (Crc.frm s []).isPrefixOf l then some [] else none
def RecPost (s : Nat) (l : List UInt8) (w : World) (e : Ending) (w' : World) : Prop :=
  ∃ A k q, e = .returned (.tuple #[.slice A k q, .bool (recOf s l).isSome]) ∧ k ≤ q ∧ q ≤ maxLen ∧ ((recOf s l).getD []).length = k ∧ Rd w' w'.heap.size A ((recOf s l).getD []) ∧ Below w.heap.size w w'
theorem rec_some {s : Nat} {l b : List UInt8} (e : recOf s l = some b) {A : Option Addr} {k q : Nat} {w w' : World} (h1 : k ≤ q) (h2 : q ≤ maxLen) (h3 : Rd w' w'.heap.size A b) (h4 : b.length = k) (h5 : Below w.heap.size w w') :
    RecPost s l w (.returned (.tuple #[.slice A k q, .bool true])) w' := by
  unfold RecPost
  rw [e]
  exact ⟨A, k, q, rfl, h1, h2, h4, h3, h5⟩
theorem rec_none {s : Nat} {l : List UInt8} {bb : Bool} (e : recOf s l = if bb then some [] else none) {w w' : World} (h5 : Below w.heap.size w w') :
    RecPost s l w (.returned (.tuple #[.slice none 0 0, .bool bb])) w' := by
  unfold RecPost
  rw [e]
  cases bb with
  | false => exact ⟨none, 0, 0, rfl, Nat.le_refl _, Nat.zero_le _, rfl, Rd.nil_, h5⟩
  | true => exact ⟨none, 0, 0, rfl, Nat.le_refl _, Nat.zero_le _, rfl, Rd.nil_, h5⟩
set_option maxRecDepth 20000 in
theorem record_any (s : Nat) (hs : s < 4294967296) (A : Option Addr) (n c B : Nat) (l : List UInt8) (w : World) (hR : Rd w B A l) (hB : B ≤ w.heap.size) (hn : l.length = n) (hm : n ≤ 140737488355328) (hnc : n ≤ c) (hc : c ≤ maxLen) :
    Calls Try.prog 69 #[.int .u32 (s : Int), .slice A n c] w (RecPost s l w) := by
  by_cases h0 : nxtErr s l = 0
  · have c1 := Next_yes s A n c B l w hs hR hB hn hm hnc hc h0
    have e9 : recOf s l = some (nxtBody l) := by unfold recOf; rw [if_pos h0]
    have HE := Lib.hid e9
    clear hR hB hn hm hnc hc h0 e9
    go_enter Try.func69, Try.ntmps69
    go_wp2_with fail
    refine c1.mono ?_
    rintro e w1 ⟨A1, k1, rfl, h1, h2, h3, h4, h5⟩
    have HF := Lib.hid (And.intro h1 (And.intro h2 (And.intro h3 (And.intro h4 h5))))
    obtain ⟨q, hq⟩ : ∃ q, headOf l = q := ⟨_, rfl⟩
    rw [hq] at HF ⊢
    clear c1 h1 h2 h3 h4 h5 hq
    go_wp2_with fail
    go_ret2
    obtain ⟨h1, h2, h3, h4, h5⟩ := HF.out
    exact rec_some HE.out h1 h2 h3 h4 h5
  · have c1 := Next_no s A n c B l w hs hR hB hn hm hnc hc h0
    have e9 : recOf s l = if (Crc.frm s []).isPrefixOf l then some [] else none := by unfold recOf; rw [if_neg h0]
    have c2 := fun W => Frame_any s none 0 0 0 [] W hs Rd.nil_ (Nat.zero_le _) rfl (Nat.zero_le _) (Nat.le_refl _)
    have c3 := fun W (hW : Below w.heap.size w W) q (hq : Blk W q 5 ((Crc.frm s []).map enc8).toArray) => HasPrefix_any (w := W) c 8 ((hR.more hB).below hW) (blk_rd hq) (by omega)
    have hfl : (Crc.frm s []).length = 8 := by rw [Crc.frm_length]; rfl
    rw [hn, hfl] at c3
    obtain ⟨bb, hbb⟩ : ∃ bb, (Crc.frm s []).isPrefixOf l = bb := ⟨_, rfl⟩
    rw [hbb] at c3 e9
    have HE := Lib.hid e9
    obtain ⟨q, hq⟩ : ∃ q, nxtErr s l = q := ⟨_, rfl⟩
    rw [hq] at c1
    clear hR hB hn hm hnc hc h0 e9 hbb hfl hq
    go_enter Try.func69, Try.ntmps69
    go_wp2_with fail
    refine c1.mono ?_
    rintro e w1 ⟨rfl, hb1⟩
    have HB1 := Lib.hid hb1
    clear c1 hb1
    go_wp2_with fail
    refine (c2 w1).mono ?_
    rintro e w2 ⟨rfl, hbk, hb2⟩
    have hbw2 := HB1.out.trans (hb2.mono HB1.out.size)
    have c4 := c3 w2 hbw2 _ hbk
    have HB2 := Lib.hid hbw2
    clear c2 c3 hbk hb2 hbw2
    go_wp2_with fail
    refine c4.mono ?_
    rintro e w3 ⟨rfl, hw3⟩
    subst hw3
    clear c4
    go_wp2_with fail
    go_ret2
    exact rec_none HE.out HB2.out
end Go.Proofs.Ytbaenpgjggojaaa
namespace Go.Proofs.Ytbaenpgjggojaaa
open Go.ChangeShapes Go.WideShapes Go.RowKit

section
variable {w : World} {base d r g n c u : Nat} {R : Option Addr} {o : Nat → Prop} {fl : List (List UInt8)} {ws : List (Nat × List UInt8)}
theorem Gen_any (hr : Blk w r 62 (rhead d g R n c u)) : Calls Try.prog 23 #[.pointer (some ⟨r, 0, none⟩)] w fun e w' => e = .returned (.int .u32 (g : Int)) ∧ w' = w := by
  obtain ⟨-, c1, -, -⟩ := rhead_cells hr
  clear hr
  go_enter Try.func23, Try.ntmps23
  go_wp2_with fail
  go_ret
  exact ⟨rfl, rfl⟩
theorem Count_any (hr : Blk w r 62 (rhead d g R n c u)) : Calls Try.prog 19 #[.pointer (some ⟨r, 0, none⟩)] w fun e w' => e = .returned (.int .i64 (n : Int)) ∧ w' = w := by
  obtain ⟨-, -, c2, -⟩ := rhead_cells hr
  clear hr
  go_enter Try.func19, Try.ntmps19
  go_wp2_with fail
  go_ret
  exact ⟨rfl, rfl⟩
theorem RFlush_dr (hr : Blk w r 62 (rhead d g R n c u)) (h : Dr w base d o fl ws (-1)) :
    Calls Try.prog 20 #[.pointer (some ⟨r, 0, none⟩)] w fun e w' => e = .returned .nilIface ∧ DrK w o base d (app fl ws) [] w' := by
  have cL := Flush_dr h (by decide) (by decide)
  rw [show less (-1) = -1 from rfl] at cL
  obtain ⟨c0, -, -, -⟩ := rhead_cells hr
  clear hr h
  go_enter Try.func20, Try.ntmps20
  go_wp2_with fail
  refine cL.mono ?_
  rintro e w1 ⟨rfl, o1, hd, hk, ho⟩
  have HD : Hid (DrK w o base d (app fl ws) [] w1) := Lib.hid ⟨o1, hd, hk, ho⟩
  clear cL hd hk ho c0
  go_wp2_with fail
  go_ret
  exact ⟨rfl, HD.out⟩
end
theorem Gen_nil (w : World) : Calls Try.prog 23 #[.pointer none] w fun e w' => e = .returned (.int .u32 0) ∧ w' = w := by
  go_enter Try.func23, Try.ntmps23
  go_wp2
  go_ret
  exact ⟨rfl, rfl⟩
theorem Count_nil (w : World) : Calls Try.prog 19 #[.pointer none] w fun e w' => e = .returned (.int .i64 0) ∧ w' = w := by
  go_enter Try.func19, Try.ntmps19
  go_wp2
  go_ret
  exact ⟨rfl, rfl⟩
theorem Room_nil (w : World) : Calls Try.prog 18 #[.pointer none] w fun e w' => e = .returned (.int .i64 0) ∧ w' = w := by
  go_enter Try.func18, Try.ntmps18
  go_wp2
  go_ret
  exact ⟨rfl, rfl⟩
theorem RFlush_nil (w : World) : Calls Try.prog 20 #[.pointer none] w fun e w' => e = .returned (errV 3) ∧ w' = w := by
  go_enter Try.func20, Try.ntmps20
  go_wp2
  go_ret
  exact ⟨rfl, rfl⟩
theorem Turn_nil (A : Option Addr) (n c : Nat) (w : World) : Calls Try.prog 9 #[.pointer none, .slice A n c] w fun e w' => e = .returned (errV 3) ∧ w' = w := by
  go_enter Try.func9, Try.ntmps9
  go_wp2
  go_ret
  exact ⟨rfl, rfl⟩
theorem Records_nil (w : World) : Calls Try.prog 10 #[.pointer none] w fun e w' => e = .returned (.slice none 0 0) ∧ w' = w := by
  go_enter Try.func10, Try.ntmps10
  go_wp2
  go_ret
  exact ⟨rfl, rfl⟩
theorem Open_nil (w : World) : Calls Try.prog 21 #[.pointer none] w fun e w' => e = .returned (.tuple #[.pointer none, errV 3]) ∧ w' = w := by
  have c1 := fun W => holds_nil W
  go_enter Try.func21, Try.ntmps21
  go_wp2_with fail
  refine (c1 w).mono ?_
  rintro e w1 ⟨rfl, rfl⟩
  unfold errV
  rw [if_neg (by decide)]
  clear c1
  go_wp2_with fail
  go_ret2
  exact ⟨rfl, rfl⟩
end Go.Proofs.Ytbaenpgjggojaaa
namespace Go.Proofs.Ytbaenpgjggojaaa
open Go.RowKit

/-- Bytes in a row that was made from a block on. -/
def CutL (B : Nat) (w : World) (l : List UInt8) (e : Ending) (w' : World) : Prop :=
  ∃ A c, e = .returned (.slice A l.length c) ∧ l.length ≤ c ∧ c ≤ maxLen ∧ OwnB w' B (.slice A l.length c) l.length l ∧ Below B w w'
def NextYesL (m : Nat) (body : List UInt8) (w : World) (e : Ending) (w' : World) : Prop :=
  ∃ A c, e = .returned (.tuple #[.slice A m c, .int .i64 ((m : Int) + 8), .nilIface]) ∧ m ≤ c ∧ c ≤ maxLen ∧ OwnB w' w.heap.size (.slice A m c) m body ∧ Below w.heap.size w w'
theorem OwnB.low {w : World} {b b' n : Nat} {v : Value} {l : List UInt8} (h : OwnB w b v n l) (hb : b' ≤ b) : OwnB w b' v n l := by
  refine ⟨h.1, ?_⟩
  rcases h.2 with h | ⟨g, cap, cur, h1, h2, h3⟩
  · exact Or.inl h
  · exact Or.inr ⟨g, cap, cur, h1, Nat.le_trans hb h2, h3⟩
set_option maxHeartbeats 400000 in
theorem Clone_own (ad : Addr) (n c B : Nat) (l : List UInt8) (w : World) (hR : Rd w B (some ad) l) (hn : l.length = n) (hm : n ≤ 140737488355328) (hB : B ≤ w.heap.size) :
    Calls Try.prog 36 #[.slice (some ad) n c] w (CutL w.heap.size w l) := by
  have HN := Lib.hid hn
  clear hn
  have heq := fun W : World => Lib.run_eql_slice_nil W 35 5 (some ad) n c 0 0 Try.underlying35
  go_enter Try.func36, Try.ntmps36
  have HO : Hid (OwnB (w.alloc (.cells #[] 5)) w.heap.size (.slice (some ⟨w.heap.size, 0, none⟩) 0 0) 0 []) := Lib.hid (World.ownsRow_lit w #[] 0 (Nat.le_refl _) (by decide) (by simp))
  have HR := Lib.hid (hR.alloc hB (.cells #[] 5))
  go_wp2_with (with_reducible refine wpList_append_bytes (o := ⟨some 7, _, _, _, _, _⟩) rfl (.tmp 5) (.tmp 6) rfl w.heap.size (.slice (some ⟨w.heap.size, 0, none⟩) 0 0) 0 [] ?h1 HO.out B (some ad) n c l ?h2 HR.out HN.out ?h3 ?h4 ?_)
  case h1 => rfl
  case h2 => rfl
  case h3 => omega
  case h4 => simp
  intro v' w1 hown hg
  obtain ⟨hl, A', c', rfl, hc1, hc2, hrd⟩ := own_form hown
  have hbw : Below w.heap.size w w1 := hg.below HO.out ((Below.refl _ w).alloc (Nat.le_refl _) _) (Nat.le_refl _) (by simp)
  have HW := Lib.hid hown
  clear hown hg heq HO HR hR
  have HL := Lib.hid hl
  clear hl
  go_wp2
  go_ret
  exact ⟨A', c', by rw [HL.out]; rfl, by rw [HL.out]; exact hc1, hc2, by rw [HL.out]; exact HW.out, hbw⟩

section
variable (n c B : Nat) (l : List UInt8) (w : World)
theorem mid_own (v b o : Nat) (hR : Rd w B (some ⟨b, o, none⟩) l) (hB : B ≤ w.heap.size) (hn : l.length = n) (hv : v + 8 ≤ n) (hm : n ≤ 140737488355328) (hc : n ≤ c) (W : World) (hb : Below w.heap.size w W) :
    Calls Try.prog 36 #[.slice (some ⟨b, o + 4, none⟩) v (c - 4)] W (CutL W.heap.size W ((l.drop 4).take v)) := by
  have h1 := ((hR.more hB).below hb).cut (k := 4) (cap := c) (by omega)
  rw [if_neg (by omega)] at h1
  have h2 : Rd W w.heap.size (some ⟨b, o + 4, none⟩) (l.drop 4) := by simpa [go_sem] using h1
  exact Clone_own _ _ _ _ _ W (h2.take v) (by rw [List.length_take, List.length_drop]; omega) (by omega) hb.size
end

section
variable (s : Nat) (A : Option Addr) (n c B : Nat) (l : List UInt8) (w : World)
set_option maxHeartbeats 2000000 in
theorem Next_okL (hs : s < 4294967296) (hR : Rd w B A l) (hB : B ≤ w.heap.size) (hn : l.length = n) (hm : n ≤ 140737488355328) (hnc : n ≤ c) (_hc : c ≤ maxLen) (h : isBlank l = false) (h8 : 8 ≤ n) (hp : headOf l ≤ n - 8) (hg : headOf l ≤ 100000)
    (hck : Crc.chk s (l.take (4 + headOf l)) = headOf (l.drop (4 + headOf l))) :
    Calls Try.prog 72 #[.int .u32 s, .slice A n c] w (NextYesL (headOf l) (nxtBody l) w) := by
  obtain ⟨b, o, rfl, _, hx⟩ := hR.at_ (k := 0) (by omega)
  clear hx
  have HB := Lib.hid (blank_any _ n c B l w hR hn (small_len hm))
  rw [h] at HB
  have HG := Lib.hid (head_any _ n c B l w hR hn (small_len hm) (by omega))
  have hv := headOf_lt l
  unfold nxtBody
  generalize headOf l = v at hp hg hck HG hv ⊢
  have HCl := Lib.hid (mid_own n c B l w v b o hR hB hn (by omega) hm hnc)
  have HBL : Hid (((l.drop 4).take v).length = v) := Lib.hid (by rw [List.length_take, List.length_drop]; omega)
  generalize (l.drop 4).take v = body at HCl HBL ⊢
  have HCk := Lib.hid (pre_check c B l w s v b o hs hR hB (by omega) (by omega))
  have HG2 := Lib.hid (post_get n c B l w v b o hR hB hn (by omega) hm hnc)
  generalize Crc.chk s (l.take (4 + v)) = C at HCk hck
  generalize headOf (l.drop (4 + v)) = D at HG2 hck
  have hbne : (((C : Nat) : Int) != ((D : Nat) : Int)) = false := by rw [hck]; simp
  clear h hR hn hck
  have b1 : (0 : Int) ≤ 4 + (v : Int) := by omega
  have b2 : 4 + (v : Int) ≤ (n : Int) := by omega
  have b2' : 4 + (v : Int) ≤ (c : Int) := by omega
  have b3 : (4 + (v : Int)).toNat = 4 + v := by omega
  have b4 : ¬ (c = 4 + v) := by omega
  go_enter Try.func72, Try.ntmps72
  go_wp2_with fail
  refine HB.out.mono ?_
  rintro e w1 ⟨rfl, rfl⟩
  go_wp2_with fail
  refine (Size0_any _).mono ?_
  rintro e w1 ⟨rfl, rfl⟩
  go_wp2_with fail
  refine HG.out.mono ?_
  rintro e w1 ⟨rfl, rfl⟩
  go_wp2_with fail
  refine (Size0_any _).mono ?_
  rintro e w1 ⟨rfl, rfl⟩
  go_wp2_with fail
  refine HG.out.mono ?_
  rintro e w1 ⟨rfl, rfl⟩
  go_wp2_with fail
  go_region_held3 (fun w' => True) (trivial)
    (first
      | (go_at_call 64; refine (HCk.out w.drew rfl).mono ?_; rintro e w3 ⟨rfl, hb3⟩)
      | (go_at_call 77; go_must (refine (HG2.out _ ((Below.refl _ w).drew.trans hb3)).mono ?_); rintro e w4 ⟨rfl, rfl⟩))
  have hb4 := (Below.refl w.heap.size w).drew.trans hb3
  clear hb3
  have c1 : (4 : Int) ≤ 4 + (v : Int) := by omega
  have c2 : ¬ (c = 4) := by omega
  have c3 : 4 + v - 4 = v := by omega
  have HG8 := Lib.hid hg
  clear hp hg hm hnc h8 hv hs hB hbne
  go_wp2_with fail
  refine (HCl.out _ hb4).mono ?_
  rintro e w5 ⟨A5, c5, rfl, h5a, h5b, h5r, h5w⟩
  rw [HBL.out] at h5a ⊢
  have hb5 := hb4.trans (h5w.mono hb4.size)
  have h5r := h5r.low hb4.size
  have H5r := Lib.hid h5r
  clear h5r
  go_wp2_with fail
  refine (Size_any v _ (by have := HG8.out; omega)).mono ?_
  rintro e w6 ⟨rfl, rfl⟩
  go_wp2_with fail
  go_ret3
  exact ⟨A5, c5, rfl, h5a, h5b, (by have h := H5r.out; rw [HBL.out] at h; exact h), hb5⟩
/-- Next, where it tells bytes. -/
theorem NextL_yes (hs : s < 4294967296) (hR : Rd w B A l) (hB : B ≤ w.heap.size) (hn : l.length = n) (hm : n ≤ 140737488355328) (hnc : n ≤ c) (hc : c ≤ maxLen) (h : nxtErr s l = 0) :
    Calls Try.prog 72 #[.int .u32 s, .slice A n c] w (NextYesL (headOf l) (nxtBody l) w) := by
  unfold nxtErr at h
  subst hn
  by_cases h1 : isBlank l = true
  · rw [if_pos h1] at h
    exact absurd h (by decide)
  have h1' : isBlank l = false := by simpa using h1
  rw [if_neg h1] at h
  by_cases h2 : l.length < 8 ∨ l.length - 8 < headOf l
  · rw [if_pos h2] at h
    exact absurd h (by decide)
  rw [if_neg h2] at h
  by_cases h4 : 100000 < headOf l
  · rw [if_pos h4] at h
    exact absurd h (by decide)
  rw [if_neg h4] at h
  by_cases h5 : Crc.chk s (l.take (4 + headOf l)) = headOf (l.drop (4 + headOf l))
  · exact Next_okL s A _ c B l w hs hR hB rfl hm hnc hc h1' (by omega) (by omega) (by omega) h5
  · rw [if_pos h5] at h
    exact absurd h (by decide)
end
end Go.Proofs.Ytbaenpgjggojaaa
