/-
  The references' Frame and Next are the program's. Conditions: the bytes are there, and not too many.
-/
import Derived.Test.YtkikcemcaoihpaaDoorRefC
namespace Go.Proofs.YtkikcemcaoihpaaDoor
open Go.RowKit

set_option maxHeartbeats 2000000 in
theorem RefFrame_any (s : Nat) (A : Option Addr) (n c B : Nat) (l : List UInt8) (w : World) (hs : s < 4294967296) (hR : Rd w B A l) (hB : B ≤ w.heap.size) (hn : l.length = n) (hm : n ≤ 900000) :
    Calls Tryd.prog 36 #[.int .u32 s, .slice A n c] w (CutPost w.heap.size w (Crc.frm s l)) := by
  have HN := Lib.hid hn
  clear hn
  have HR := Lib.hid hR
  clear hR
  have HF : Hid (Crc.frm s l = (Crc.wrd n ++ l) ++ Crc.wrd (Crc.chk s (Crc.wrd n ++ l))) := Lib.hid (by rw [← HN.out]; rfl)
  go_enter Tryd.func36, Tryd.ntmps36
  go_wp2_with fail
  refine (Word_any n _ (by omega)).mono ?_
  rintro e w1 ⟨A1, c1, rfl, _, _, h1r, h1w⟩
  rw [Crc.wrd_length]
  have H1r := Lib.hid h1r
  have HR1 := Lib.hid (HR.out.below (h1w.mono hB))
  have hs1 := h1w.size
  clear h1r
  go_wp2_with fail
  refine (Join_two _ _ 4 n _ _ _ _ _ _ w1 H1r.out (Nat.le_refl _) HR1.out (by omega) rfl HN.out (by omega)).mono ?_
  rintro e w2 ⟨A2, c2, rfl, h2a, _, h2r, h2w⟩
  have hb2 := h1w.trans (h2w.mono h1w.size)
  have hjl : (Crc.wrd n ++ l).length = 4 + n := by rw [List.length_append, Crc.wrd_length, HN.out]
  rw [hjl] at h2a ⊢
  clear h1w h2w hs1
  generalize Crc.wrd n ++ l = q at h2r hjl HF
  obtain ⟨m, hqm⟩ : ∃ m, m = 4 + n := ⟨_, rfl⟩
  rw [← hqm] at hjl h2a ⊢
  have hm2 : m ≤ 1000000 := by omega
  have HJ := Lib.hid hjl
  have HQ := Lib.hid h2r
  clear hqm hjl h2r
  go_wp2_with fail
  refine (RefCheck_any s _ _ _ _ q _ hs HQ.out (Nat.le_refl _) HJ.out hm2).mono ?_
  rintro e w3 ⟨rfl, h3w⟩
  have hck := Crc.chk_lt s q
  have HQ3 := Lib.hid (HQ.out.below h3w)
  have hb3 := hb2.trans (h3w.mono hb2.size)
  have hs23 := h3w.size
  clear h3w hb2
  generalize Crc.chk s q = C at hck HF
  go_wp2_with fail
  refine (Word_any C _ hck).mono ?_
  rintro e w4 ⟨A4, c4, rfl, _, _, h4r, h4w⟩
  rw [Crc.wrd_length]
  have H4r := Lib.hid h4r
  have HQ4 := Lib.hid (HQ3.out.below (h4w.mono hs23))
  have hb4 := hb3.trans (h4w.mono hb3.size)
  have hs34 := h4w.size
  clear h4r h4w hb3
  go_wp2_with fail
  refine (Join_two _ _ m 4 _ _ _ _ _ _ w4 HQ4.out (by omega) H4r.out (Nat.le_refl _) HJ.out rfl (by omega)).mono ?_
  rintro e w5 ⟨A5, c5, rfl, h5a, h5b, h5r, h5w⟩
  have hb5 := hb4.trans (h5w.mono hb4.size)
  have H5r := Lib.hid h5r
  have H5a := Lib.hid h5a
  clear h5r h5w hb4 h5a
  go_wp2_with fail
  go_ret
  exact ⟨A5, c5, by rw [HF.out, List.length_append]; rfl, by rw [HF.out]; exact H5a.out, h5b, by rw [HF.out]; exact H5r.out, hb5⟩

theorem isBlank_take (l : List UInt8) (k : Nat) (hk : k < l.length) : isBlank (l.take (k + 1)) = (isBlank (l.take k) && decide ((l[k]).toNat = 0)) := by
  unfold isBlank
  rw [List.take_succ_eq_append_getElem hk, List.all_append]
  simp only [List.all_cons, List.all_nil, Bool.and_true]
def RefNo (err : Nat) (w : World) (e : Ending) (w' : World) : Prop :=
  e = .returned (.tuple #[.slice Option.none 0 0, .int .i64 0, .int .i64 err]) ∧ Below w.heap.size w w'
def RefYes (m : Nat) (body : List UInt8) (w : World) (e : Ending) (w' : World) : Prop :=
  ∃ A c, e = .returned (.tuple #[.slice A m c, .int .i64 ((m : Int) + 8), .int .i64 0]) ∧ m ≤ c ∧ c ≤ maxLen ∧ Rd w' w'.heap.size A body ∧ body.length = m ∧ Below w.heap.size w w'

theorem fin_no {s : Nat} {l : List UInt8} {w w' : World} {e : Ending} {err : Nat} (h : nxtErr s l = err) (h0 : err ≠ 0) (hno : RefNo err w e w') :
    (nxtErr s l ≠ 0 → RefNo (nxtErr s l) w e w') ∧ (nxtErr s l = 0 → RefYes (headOf l) (nxtBody l) w e w') := ⟨fun _ => by rw [h]; exact hno, fun h' => absurd (h.symm.trans h') h0⟩
theorem fin_yes {s : Nat} {l : List UInt8} {w w' : World} {e : Ending} (h : nxtErr s l = 0) (hy : RefYes (headOf l) (nxtBody l) w e w') :
    (nxtErr s l ≠ 0 → RefNo (nxtErr s l) w e w') ∧ (nxtErr s l = 0 → RefYes (headOf l) (nxtBody l) w e w') := ⟨fun h' => absurd h h', fun _ => hy⟩
theorem ref_post (n c B : Nat) (l : List UInt8) (w : World) (v b o : Nat) (hR : Rd w B (some ⟨b, o, none⟩) l) (hB : B ≤ w.heap.size) (hn : l.length = n) (hv : v + 8 ≤ n) (hm : n ≤ 900000) (hc : n ≤ c) (W : World) (hb : Below w.heap.size w W) :
    Calls Tryd.prog 61 #[.slice (some ⟨b, o + (v + 4), none⟩) (n - (v + 4)) (c - (v + 4))] W (QuietPost (.int .u64 (headOf (l.drop (4 + v)) : Nat)) W) := by
  have h1 := ((hR.more hB).below hb).cut (k := v + 4) (cap := c) (by omega)
  rw [if_neg (by omega)] at h1
  have h2 : Rd W w.heap.size (some ⟨b, o + (v + 4), none⟩) (l.drop (v + 4)) := by simpa [go_sem] using h1
  rw [Nat.add_comm v 4] at h2 ⊢
  exact Value_any _ _ _ _ _ W h2 (by rw [List.length_drop]; omega) (small_len (by omega)) (by omega)
theorem ref_pre (c B : Nat) (l : List UInt8) (w : World) (s v b o : Nat) (hs : s < 4294967296) (hR : Rd w B (some ⟨b, o, none⟩) l) (hB : B ≤ w.heap.size) (hv : 4 + v ≤ l.length) (hl : l.length ≤ 900000) (W : World) (hW : Below w.heap.size w W) :
    Calls Tryd.prog 37 #[.int .u32 s, .slice (some ⟨b, o, none⟩) (v + 4) c] W fun e w' => e = .returned (.int .u32 (Crc.chk s (l.take (4 + v)) : Nat)) ∧ Below w.heap.size W w' := by
  have h1 := ((hR.more hB).below hW).take (4 + v)
  rw [Nat.add_comm v 4]
  refine (RefCheck_any s _ _ _ w.heap.size _ W hs h1 hW.size (by rw [List.length_take]; omega) (by omega)).mono fun e w' h => ?_
  exact ⟨h.1, h.2.mono hW.size⟩
theorem ref_cut (n c B : Nat) (l : List UInt8) (w : World) (v b o : Nat) (hR : Rd w B (some ⟨b, o, none⟩) l) (hB : B ≤ w.heap.size) (hn : l.length = n) (hv : v + 8 ≤ n) (hm : n ≤ 900000) (hc : n ≤ c) (W : World) (hb : Below w.heap.size w W) :
    Calls Tryd.prog 14 #[.slice (some ⟨b, o + 4, none⟩) v (c - 4), .int .i64 v] W (CutPost W.heap.size W (((l.drop 4).take v).take v)) := by
  have h1 := ((hR.more hB).below hb).cut (k := 4) (cap := c) (by omega)
  rw [if_neg (by omega)] at h1
  have h2 : Rd W w.heap.size (some ⟨b, o + 4, none⟩) (l.drop 4) := by simpa [go_sem] using h1
  exact Cut_any _ _ _ _ _ _ W (h2.take v) (by rw [List.length_take, List.length_drop]; omega) (by omega) (by omega) hb.size

section
variable (s : Nat) (A : Option Addr) (n c B : Nat) (l : List UInt8) (w : World)
set_option maxHeartbeats 4000000 in
theorem RefNext_any (hs : s < 4294967296) (hR : Rd w B A l) (hB : B ≤ w.heap.size) (hn : l.length = n) (hm : n ≤ 900000) (hnc : n ≤ c) :
    Calls Tryd.prog 39 #[.int .u32 s, .slice A n c] w (fun e w' => (nxtErr s l ≠ 0 → RefNo (nxtErr s l) w e w') ∧ (nxtErr s l = 0 → RefYes (headOf l) (nxtBody l) w e w')) := by
  have HN := Lib.hid hn
  clear hn
  have HR := Lib.hid hR
  clear hR
  go_enter Tryd.func39, Tryd.ntmps39
  go_wp2_with fail
  go_loop [7, 13] (fun t i => ∃ k : Nat, k ≤ n ∧ i = .int .i64 k ∧ t = .bool (!isBlank (l.take k))) (fun _ i => n - (intOf i).toNat)
  case atStart => exact ⟨0, Nat.zero_le _, rfl, rfl⟩
  case round =>
    obtain ⟨k, hk, rfl, rfl⟩ := hrel
    by_cases hlt : k < n
    · have hkl : k < l.length := by rw [HN.out]; exact hlt
      obtain ⟨b, o, rfl, _, hc⟩ := HR.out.at_ hkl
      have HT := Lib.hid (isBlank_take l k hkl)
      have hu := Crc.u8_lt l[k]
      generalize (l[k]).toNat = x at hc HT hu
      cases hbl : isBlank (l.take k)
      · rw [hbl] at HT
        clear hbl
        go_wp2_with fail
        go_round
        case rel => exact ⟨k + 1, by omega, by go_num, by rw [HT.out]; rfl⟩
        case measure => simp [intOf]; omega
      · rw [hbl] at HT
        clear hbl
        by_cases hx : x = 0
        · subst hx
          go_wp2_with fail
          go_round
          case rel => exact ⟨k + 1, by omega, by go_num, by rw [HT.out]; rfl⟩
          case measure => simp [intOf]; omega
        · have hx' : 0 < (x : Int) := by omega
          have hxd : decide (x = 0) = false := decide_eq_false hx
          have HXD := Lib.hid hxd
          clear hxd
          go_wp2_with fail
          go_round
          case rel => exact ⟨k + 1, by omega, by go_num, by rw [HT.out, HXD.out, show decide (0 < x) = true from decide_eq_true (by omega)]; rfl⟩
          case measure => simp [intOf]; omega
    · obtain rfl : k = n := by omega
      rw [List.take_of_length_le (by rw [HN.out]; exact Nat.le_refl _)]
      by_cases h1 : isBlank l = true
      · have HE : Hid (nxtErr s l = 3) := Lib.hid (by unfold nxtErr; rw [if_pos h1])
        rw [h1]
        clear h1
        go_wp2_with fail
        go_ret3
        exact fin_no HE.out (by decide) ⟨rfl, Below.refl _ _⟩
      have h1' : isBlank l = false := by simpa using h1
      rw [h1']
      by_cases h2 : k < 8
      · have HE : Hid (nxtErr s l = 2) := Lib.hid (by unfold nxtErr; rw [if_neg h1, if_pos (.inl (by rw [HN.out]; exact h2))])
        clear h1 h1'
        go_wp2_with fail
        go_ret3
        exact fin_no HE.out (by decide) ⟨rfl, Below.refl _ _⟩
      have HV := Lib.hid (fun W (hb : Below w.heap.size w W) => Value_any A k c B l W (HR.out.below (hb.mono hB)) HN.out (small_len (by omega)) (by omega))
      have hlt2 := headOf_lt l
      by_cases h3 : k - 8 < headOf l
      · have HE : Hid (nxtErr s l = 2) := Lib.hid (by unfold nxtErr; rw [if_neg h1, if_pos (.inr (by rw [HN.out]; exact h3))])
        clear h1 h1'
        generalize headOf l = v at HV h3 hlt2
        go_wp2_with fail
        refine (HV.out _ (Below.refl _ _)).mono ?_
        intro e w1 hq
        obtain ⟨rfl, hb1⟩ := below_all hq
        clear hq
        go_wp2_with fail
        go_ret3
        exact fin_no HE.out (by decide) ⟨rfl, hb1⟩
      by_cases h4 : 100000 < headOf l
      · have HE : Hid (nxtErr s l = 4) := Lib.hid (by unfold nxtErr; rw [if_neg h1, HN.out, if_neg (by omega), if_pos h4])
        clear h1 h1'
        generalize headOf l = v at HV h3 h4 hlt2
        go_wp2_with fail
        refine (HV.out _ (Below.refl _ _)).mono ?_
        intro e w1 hq
        obtain ⟨rfl, hb1⟩ := below_all hq
        clear hq
        go_wp2_with fail
        refine (HV.out _ hb1).mono ?_
        intro e w2 hq
        obtain ⟨rfl, hb2⟩ := below_all hq
        have hb12 := hb1.trans (hb2.mono hb1.size)
        clear hq hb2
        go_wp2_with fail
        go_ret3
        exact fin_no HE.out (by decide) ⟨rfl, hb12⟩
      have hA : ∃ b o, A = some ⟨b, o, Option.none⟩ := by
        obtain ⟨b, o, hA, _, _⟩ := HR.out.at_ (k := 0) (by rw [HN.out]; omega)
        exact ⟨b, o, hA⟩
      obtain ⟨b, o, rfl⟩ := hA
      have HY : Hid ((nxtBody l).length = headOf l) := Lib.hid (by unfold nxtBody; rw [List.length_take, List.length_drop, HN.out]; omega)
      have HYT : Hid (((l.drop 4).take (headOf l)).take (headOf l) = nxtBody l) := Lib.hid (List.take_of_length_le (Nat.le_of_eq HY.out))
      have HPo := Lib.hid (ref_post k c B l w (headOf l) b o HR.out hB HN.out (by omega) hm hnc)
      have HPr := Lib.hid (ref_pre c B l w s (headOf l) b o hs HR.out hB (by rw [HN.out]; omega) (by rw [HN.out]; exact hm))
      have HCu := Lib.hid (ref_cut k c B l w (headOf l) b o HR.out hB HN.out (by omega) hm hnc)
      rw [HYT.out] at HCu
      have hD := headOf_lt (l.drop (4 + headOf l))
      have hC := Crc.chk_lt s (l.take (4 + headOf l))
      by_cases h5 : Crc.chk s (l.take (4 + headOf l)) = headOf (l.drop (4 + headOf l))
      · have HE : Hid (nxtErr s l = 0) := Lib.hid (by unfold nxtErr; rw [if_neg h1, HN.out, if_neg (by omega), if_neg h4, if_neg (fun h => h h5)])
        have hne : (((headOf (l.drop (4 + headOf l)) : Nat) : Int) != ((Crc.chk s (l.take (4 + headOf l)) : Nat) : Int)) = false := by rw [h5]; simp
        clear h1 h1' HYT
        generalize Crc.chk s (l.take (4 + headOf l)) = C at HPr hC hne
        clear h5
        generalize headOf (l.drop (4 + headOf l)) = D at HPo hD hne
        obtain ⟨body, hbd⟩ : ∃ body, body = nxtBody l := ⟨_, rfl⟩
        rw [← hbd] at HCu HY
        obtain ⟨v, hvd⟩ : ∃ v, v = headOf l := ⟨_, rfl⟩
        rw [← hvd] at HV h3 h4 hlt2 HPo HPr HCu HY
        have HVD := Lib.hid hvd
        have HBD := Lib.hid hbd
        clear hvd hbd
        have b1 : (0 : Int) ≤ (v : Int) + 4 := by omega
        have b2 : (v : Int) + 4 ≤ (k : Int) := by omega
        have b2' : (v : Int) + 4 ≤ (c : Int) := by omega
        have b3 : ((v : Int) + 4).toNat = v + 4 := by omega
        have b4 : ¬ (c = v + 4) := by omega
        have b6 : IntKind.u64.wrap (C : Int) = (C : Int) := by rw [IntKind.wrap_u64]; omega
        have b7 : (C : Int) % 18446744073709551616 = (C : Int) := by omega
        have b5 : IntKind.i64.wrap ((v : Int) + 4) = (v : Int) + 4 := by rw [IntKind.wrap_i64]; omega
        go_wp2_with fail
        refine (HV.out _ (Below.refl _ _)).mono ?_
        intro e w1 hq
        obtain ⟨rfl, hb1⟩ := below_all hq
        clear hq
        go_wp2_with fail
        refine (HV.out _ hb1).mono ?_
        intro e w2 hq
        obtain ⟨rfl, hb2⟩ := below_all hq
        have hb12 := hb1.trans (hb2.mono hb1.size)
        clear hq hb2 hb1
        go_wp2_with fail
        refine (HV.out _ hb12).mono ?_
        intro e w3 hq
        obtain ⟨rfl, hb3⟩ := below_all hq
        have hb13 := hb12.trans (hb3.mono hb12.size)
        clear hq hb3 hb12
        go_wp2_with fail
        go_region_held3 (fun w' => True) (trivial)
          (first
            | (go_at_call 61; go_must (refine (HPo.out _ hb13.drew).mono ?_); rintro e w4 hq4; obtain ⟨rfl, hb4⟩ := below_all hq4; have hb14 := hb13.drew.trans (hb4.mono hb13.size); clear hq4 hb4)
            | (go_at_call 37; go_must (refine (HPr.out _ hb14).mono ?_); rintro e w5 ⟨rfl, hb5⟩))
        have hb15 := hb14.trans (hb5.mono (Nat.le_refl _))
        clear hb13 hb14 hb5
        have c1 : (4 : Int) ≤ (v : Int) + 4 := by omega
        have c2 : ¬ (c = 4) := by omega
        have c3 : v + 4 - 4 = v := by omega
        have HV8 := Lib.hid (show v ≤ 100000 by omega)
        clear h3 h4 h2 hm hnc hs hB hC hD hlt2 b4 b5 b6 b7
        go_wp2_with fail
        refine (HCu.out _ hb15).mono ?_
        rintro e w6 ⟨A6, c6, rfl, h6a, h6b, h6r, h6w⟩
        rw [HY.out] at h6a ⊢
        have hb6 := hb15.trans (h6w.mono hb15.size)
        have H6r := Lib.hid h6r
        clear h6r h6w hb15
        have hv8 : v ≤ 100000 := HV8.out
        go_wp2_with fail
        go_ret3
        refine fin_yes HE.out ?_
        rw [← HVD.out, ← HBD.out]
        exact ⟨A6, c6, rfl, h6a, h6b, H6r.out, HY.out, hb6⟩
      · have HE : Hid (nxtErr s l = 5) := Lib.hid (by unfold nxtErr; rw [if_neg h1, HN.out, if_neg (by omega), if_neg h4, if_pos h5])
        have hne : (((headOf (l.drop (4 + headOf l)) : Nat) : Int) != ((Crc.chk s (l.take (4 + headOf l)) : Nat) : Int)) = true := by rw [bne_iff_ne]; omega
        clear h1 h1' HYT HCu HY
        generalize Crc.chk s (l.take (4 + headOf l)) = C at HPr hC hne h5
        generalize headOf (l.drop (4 + headOf l)) = D at HPo hD hne h5
        clear h5
        obtain ⟨v, hvd⟩ : ∃ v, v = headOf l := ⟨_, rfl⟩
        rw [← hvd] at HV h3 h4 hlt2 HPo HPr
        clear hvd
        have b1 : (0 : Int) ≤ (v : Int) + 4 := by omega
        have b2 : (v : Int) + 4 ≤ (k : Int) := by omega
        have b2' : (v : Int) + 4 ≤ (c : Int) := by omega
        have b3 : ((v : Int) + 4).toNat = v + 4 := by omega
        have b4 : ¬ (c = v + 4) := by omega
        have b6 : IntKind.u64.wrap (C : Int) = (C : Int) := by rw [IntKind.wrap_u64]; omega
        have b7 : (C : Int) % 18446744073709551616 = (C : Int) := by omega
        have b5 : IntKind.i64.wrap ((v : Int) + 4) = (v : Int) + 4 := by rw [IntKind.wrap_i64]; omega
        go_wp2_with fail
        refine (HV.out _ (Below.refl _ _)).mono ?_
        intro e w1 hq
        obtain ⟨rfl, hb1⟩ := below_all hq
        clear hq
        go_wp2_with fail
        refine (HV.out _ hb1).mono ?_
        intro e w2 hq
        obtain ⟨rfl, hb2⟩ := below_all hq
        have hb12 := hb1.trans (hb2.mono hb1.size)
        clear hq hb2 hb1
        go_wp2_with fail
        refine (HV.out _ hb12).mono ?_
        intro e w3 hq
        obtain ⟨rfl, hb3⟩ := below_all hq
        have hb13 := hb12.trans (hb3.mono hb12.size)
        clear hq hb3 hb12
        go_wp2_with fail
        go_region_held3 (fun w' => True) (trivial)
          (first
            | (go_at_call 61; go_must (refine (HPo.out _ hb13.drew).mono ?_); rintro e w4 hq4; obtain ⟨rfl, hb4⟩ := below_all hq4; have hb14 := hb13.drew.trans (hb4.mono hb13.size); clear hq4 hb4)
            | (go_at_call 37; go_must (refine (HPr.out _ hb14).mono ?_); rintro e w5 ⟨rfl, hb5⟩))
        have hb15 := hb14.trans (hb5.mono (Nat.le_refl _))
        clear hb13 hb14 hb5
        go_wp2_with fail
        go_ret3
        exact fin_no HE.out (by decide) ⟨rfl, hb15⟩
end
end Go.Proofs.YtkikcemcaoihpaaDoor
