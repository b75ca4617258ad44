/-
  DateReads: the walk. Conditions: the months' lengths, strconv's powers of ten and its two errors, errors.errorType are laid.
-/
import Derived.Test.YtclmhgaggminpaaDoorReadR
import Derived.Test.YtclmhgaggminpaaDoorCodeC
namespace Go.Proofs.YtclmhgaggminpaaDoor
open Go.RowKit

set_option maxRecDepth 20000 in
set_option maxHeartbeats 1000000 in
theorem Text20_any (s : ByteArray) (hs : s.size ≤ maxLen) (w : World) :
    Calls Tryd.prog 15 #[.string s, .int .i64 20] w fun e w' => (∃ s' : ByteArray, s'.size ≤ 20 ∧ e = .returned (.string s')) ∧ w = w' := by
  unfold maxLen at hs
  by_cases h : s.size ≤ 20
  · have h2 : min (s.size : Int) 20 = (s.size : Int) := by omega
    go_enter Tryd.func15, Tryd.ntmps15
    go_wp2_with fail
    go_ret
    refine ⟨⟨_, ?_, rfl⟩, rfl⟩
    first | exact h | (simp [ByteArray.size_extract] <;> omega)
  · go_enter Tryd.func15, Tryd.ntmps15
    go_wp2_with fail
    go_ret
    refine ⟨⟨_, ?_, rfl⟩, rfl⟩
    first | exact h | (simp [ByteArray.size_extract] <;> omega)

set_option maxRecDepth 20000 in
set_option maxHeartbeats 2000000 in
theorem Reads_any (s : ByteArray) (hs : s.size ≤ maxLen) (y m : Int) (w : World) (hw : Lens w) (hp : Pows w) (hle : Laid w) (hE : Errs w) :
    Calls Tryd.prog 6 #[.string s, .int .i64 y, .int .i64 m] w fun e w' => e = .returned (.bool true) ∧ Below w.heap.size w w' := by
  have hT := fun W => Text20_any s hs W
  have HW := Lib.hid hw
  have HP := Lib.hid hp
  have HL := Lib.hid hle
  have HE := Lib.hid hE
  have c1 := fun W => Leap_any y W
  have c2 := fun W => RefLeap_any y W
  have c3 := fun W (hW : Lens W) => Length_any y m W hW
  have c4 := fun W => RLength_any y m W
  generalize leapB y = B at c1 c2
  generalize mlen y m = X at c3 c4
  clear hw hp hle hE hs
  go_enter Tryd.func6, Tryd.ntmps6
  go_wp2_with fail
  refine (awake5 _ HW.out).mono ?_
  rintro e w1 ⟨rfl, hb1⟩
  have HB1 := Lib.hid hb1
  clear hb1
  go_wp2_with fail
  refine (hT _).mono ?_
  rintro e w2 ⟨⟨s', hs', rfl⟩, rfl⟩
  clear hT
  have hr := fun W => RRead_any s' hs' W
  by_cases hc : rdL s'.data.toList = -1
  · rw [hc] at hr
    have hno : noDay s' := by
      intro n h0 h1 he
      obtain ⟨y1, y2, m1, m2, d1, d2, d3⟩ := civ_in n h0 h1
      obtain ⟨hrt, hn⟩ := civ_right n h0 h1
      have e1 : s'.data.toList = textL (cY n).toNat (cM n).toNat (cD n).toNat := by rw [he]; rfl
      have q1 : ((cY n).toNat : Int) = cY n := by omega
      have q2 : ((cM n).toNat : Int) = cM n := by omega
      have q3 : ((cD n).toNat : Int) = cD n := by omega
      rw [e1, rdL_text _ _ _ (by omega) (by omega) (by omega) (by rw [q1, q2, q3]; exact hrt), q1, q2, q3, hn] at hc
      omega
    have hd := fun W (hW : Lens W) (hP : Pows W) (hE : Errs W) => Read_no s' hs' hno W hW hP hE
    clear hno hc hs'
    go_wp2_with fail
    refine (hd _ (HW.out.below HB1.out) (HP.out.below HB1.out) (HE.out.below HB1.out)).mono ?_
    rintro e w3 ⟨rfl, hb3⟩
    have HB3 := Lib.hid (HB1.out.trans (hb3.mono HB1.out.size))
    clear hb3
    go_wp2_with fail
    refine (hr _).mono ?_
    rintro e w4 ⟨rfl, hb4⟩
    have HB4 := Lib.hid (HB3.out.trans (hb4.mono HB3.out.size))
    clear hb4
    go_wp2_with fail
    refine (Code_errno 15 _ (HL.out.below HB4.out)).mono ?_
    rintro e w5 ⟨rfl, hb5⟩
    have HB5 := Lib.hid (HB4.out.trans (hb5.mono HB4.out.size))
    clear hb5
    go_wp2_with fail
    refine (c1 _).mono ?_
    rintro e w6 ⟨rfl, rfl⟩
    go_wp2_with fail
    refine (c2 _).mono ?_
    rintro e w7 ⟨rfl, rfl⟩
    go_wp2_with fail
    refine (c3 _ (HW.out.below HB5.out)).mono ?_
    rintro e w8 ⟨rfl, rfl⟩
    go_wp2_with fail
    refine (c4 _).mono ?_
    rintro e w9 ⟨rfl, hb9⟩
    go_wp2_with fail
    go_ret
    exact ⟨ret_bool (by simp), HB5.out.trans (hb9.mono HB5.out.size)⟩
  · obtain ⟨Y, M, D, e1, hrt, e2⟩ := rdL_back _ hc
    obtain ⟨u1, u2, u3⟩ := civ_unique hrt
    have hni := num_in hrt
    rw [e2] at hr
    have hst : s' = dayText (num (Y : Int) (M : Int) (D : Int)) := by
      apply ByteArray.ext
      apply Array.toList_inj.1
      rw [e1]
      unfold dayText
      rw [u1, u2, u3]
      rfl
    have hd := fun W (hW : Lens W) (hP : Pows W) => Read_text (num (Y : Int) (M : Int) (D : Int)) hni.2.2.2.2.1 hni.2.2.2.2.2 W hW hP
    have n0 := hni.2.2.2.2.1
    have n1 := hni.2.2.2.2.2
    rw [← hst] at hd
    clear hst hni u1 u2 u3 e1 e2 hrt hc hs'
    generalize num (Y : Int) (M : Int) (D : Int) = N at *
    go_wp2_with fail
    refine (hd _ (HW.out.below HB1.out) (HP.out.below HB1.out)).mono ?_
    rintro e w3 ⟨rfl, hb3⟩
    have HB3 := Lib.hid (HB1.out.trans (hb3.mono HB1.out.size))
    clear hb3
    go_wp2_with fail
    refine (hr _).mono ?_
    rintro e w4 ⟨rfl, hb4⟩
    have HB4 := Lib.hid (HB3.out.trans (hb4.mono HB3.out.size))
    clear hb4
    go_wp2_with fail
    refine (c1 _).mono ?_
    rintro e w6 ⟨rfl, rfl⟩
    go_wp2_with fail
    refine (c2 _).mono ?_
    rintro e w7 ⟨rfl, rfl⟩
    go_wp2_with fail
    refine (c3 _ (HW.out.below HB4.out)).mono ?_
    rintro e w8 ⟨rfl, rfl⟩
    go_wp2_with fail
    refine (c4 _).mono ?_
    rintro e w9 ⟨rfl, hb9⟩
    go_wp2_with fail
    go_ret
    exact ⟨ret_bool (by simp), HB4.out.trans (hb9.mono HB4.out.size)⟩
end Go.Proofs.YtclmhgaggminpaaDoor
