/-
  DrumSafe: the law's walk. Conditions: the arguments are there.
-/
import Derived.Test.YtoiiemjaecfnhaaDOr
import Derived.Test.YtoiiemjaecfnhaaHalf
namespace Go.Proofs.Ytoiiemjaecfnhaa
open Go.RowKit

/-- A sector, in a block of its own. -/
def secF (L : List UInt8) : Flw := ⟨fun v w => ∃ g, v = .slice (some ⟨g, 0, none⟩) 256 256 ∧ Blk w g 5 (L.map enc8).toArray, fun ⟨g, h1, h2⟩ hb => ⟨g, h1, h2.below hb h2.lt⟩⟩
theorem opC_make {dst : Option Tmp} {ty : TypeId} {pos : String} {af : Array Edge} {a : Act} {w : World} {K : Value → World → Prop}
    (hk : K (.slice (some ⟨w.heap.size, 0, none⟩) 256 256) (w.alloc (.cells (zeros.map enc8).toArray 5))) : opC Try.prog ⟨dst, .makeSlice 22 (.const (.int .i64 256)) (.const (.int .i64 256)), ty, pos, af, none⟩ a w K := by
  constructor
  rw [show (execOp a.eval ⟨dst, .makeSlice 22 (.const (.int .i64 256)) (.const (.int .i64 256)), ty, pos, af, none⟩).run Try.prog w = .ok (.value (.slice (some ⟨w.heap.size, 0, none⟩) 256 256)) (w.alloc (.cells (zeros.map enc8).toArray 5)) by
    simp [execOp, Act.eval, make2, Result.andThen]]
  exact hk
theorem cFull {A : Option Addr} {c : Nat} {L P : List UInt8} {w : World} (hr : Rd w w.heap.size A L) (hl : L.length ≤ 256) (hP : P = full L) : Calls Try.prog 13 #[.slice A L.length c] w (ToF (secF P) w) := by
  subst hP
  refine (Full_any A L.length c w.heap.size L w hr (Nat.le_refl _) rfl hl).mono ?_
  rintro e w' ⟨rfl, hb, hw⟩
  exact ⟨_, rfl, ⟨_, rfl, hb⟩, hw⟩
theorem tear_no (p s : List UInt8) : tear 0 p s = s := by unfold tear; rw [List.take_zero, List.drop_zero, List.nil_append]
/-- What a fall leaves of two writes that weren't flushed. -/
theorem fall_two (P Q : List UInt8) (hP : P.length = 256) (hQ : Q.length = 256) (keep : List Bool) (torn : Int) :
    ∃ m1 m2, m1 ≤ 256 ∧ m2 ≤ 256 ∧ fallOf [P, P, zeros] [(1, Q), (2, Q)] keep torn = [P, tear m1 Q P, tear m2 Q zeros] := by
  unfold fallOf
  obtain ⟨t, ht⟩ : ∃ t, t = lastOf keep (min [(1, Q), (2, Q)].length keep.length) := ⟨_, rfl⟩
  have htl : t ≤ 2 := by
    rw [ht]
    exact Nat.le_trans (lastOf_le _ _) (Nat.min_le_left _ _)
  rw [← ht]
  have key : ∀ k, k ≤ 2 → ∃ m1 m2, m1 ≤ 256 ∧ m2 ≤ 256 ∧ fallK [P, P, zeros] [(1, Q), (2, Q)] keep torn t k = [P, tear m1 Q P, tear m2 Q zeros] := by
    have h1 : ∃ m1, m1 ≤ 256 ∧ fallK [P, P, zeros] [(1, Q), (2, Q)] keep torn t 1 = [P, tear m1 Q P, zeros] := by
      by_cases hk : keep.getD 0 false = true
      · refine ⟨howM torn t 0, howM_le _ _ _, ?_⟩
        rw [fallK, if_pos hk]
        rfl
      · refine ⟨0, by omega, ?_⟩
        rw [fallK, if_neg hk, tear_no]
        rfl
    intro k hk
    match k, hk with
    | 0, _ => exact ⟨0, 0, by omega, by omega, by rw [tear_no, tear_no]; rfl⟩
    | 1, _ =>
      obtain ⟨m1, hm1, e⟩ := h1
      exact ⟨m1, 0, hm1, by omega, by rw [e, tear_no]⟩
    | 2, _ =>
      obtain ⟨m1, hm1, e⟩ := h1
      by_cases hk : keep.getD 1 false = true
      · refine ⟨m1, howM torn t 1, hm1, howM_le _ _ _, ?_⟩
        rw [fallK, if_pos hk, e]
        rfl
      · refine ⟨m1, 0, hm1, by omega, ?_⟩
        rw [fallK, if_neg hk, e, tear_no]
  exact key t htl
section
variable {A A1 A2 : Option Addr} {n c n1 c1 n2 c2 : Nat} {l l1 : List UInt8} {keep : List Bool} {w : World}
set_option maxRecDepth 20000 in
set_option maxHeartbeats 8000000 in
theorem DSafe_any (torn : Int) (hR : Rd w w.heap.size A l) (hn : l.length = n) (hm : n ≤ 140737488355328) (hR1 : Rd w w.heap.size A1 l1) (hn1 : l1.length = n1) (hm1 : n1 ≤ 140737488355328) (hK : Rb w w.heap.size A2 keep) (hn2 : keep.length = n2) (hm2 : n2 ≤ maxLen) :
    Calls Try.prog 3 #[.slice A n c, .slice A1 n1 c1, .slice A2 n2 c2, .int .i64 torn] w fun e w' => e = .returned (.bool true) ∧ Below w.heap.size w w' := by
  subst hn2
  go_enter Try.func3, Try.ntmps3
  go_wp2_with fail
  refine (awake1_any w).mono ?_
  rintro e w1 ⟨rfl, hb1⟩
  go_wp2_with fail
  refine (Cut_any A n c w.heap.size 256 l w1 (hR.below hb1) hn hm (by decide) hb1.size).mono ?_
  rintro e w2 ⟨A3, c3, rfl, hc3, hcm3, hr2, hb2⟩
  have HB2 : Hid (Below w.heap.size w w2) := Lib.hid (hb1.trans (hb2.mono hb1.size))
  obtain ⟨L, hL⟩ : ∃ L, L = l.take 256 := ⟨_, rfl⟩
  rw [← hL] at hr2 hc3 ⊢
  have hLl : L.length ≤ 256 := by rw [hL]; exact take_len l
  have HR2 := Lib.hid hr2
  clear hb1 hb2 hL hc3 hcm3 hR hr2
  go_wp2_with fail
  refine (Cut_any A1 n1 c1 w.heap.size 256 l1 w2 (hR1.below HB2.out) hn1 hm1 (by decide) HB2.out.size).mono ?_
  rintro e w3 ⟨A4, c4, rfl, hc4, hcm4, hr3, hb3⟩
  have HB3 : Hid (Below w.heap.size w w3) := Lib.hid (HB2.out.trans (hb3.mono HB2.out.size))
  obtain ⟨M, hM⟩ : ∃ M, M = l1.take 256 := ⟨_, rfl⟩
  rw [← hM] at hr3 hc4 ⊢
  have hMl : M.length ≤ 256 := by rw [hM]; exact take_len l1
  have HP3 : Hid (Rd w3 w3.heap.size A3 L) := Lib.hid ((HR2.out.below hb3).more hb3.size)
  have HQ3 := Lib.hid hr3
  clear hb3 hM hc4 hcm4 hR1 hr3 HR2 HB2
  obtain ⟨P, hP⟩ : ∃ P, P = full L := ⟨_, rfl⟩
  obtain ⟨Q, hQ⟩ : ∃ Q, Q = full M := ⟨_, rfl⟩
  have HPE := Lib.hid hP
  have HQE := Lib.hid hQ
  have HPL : Hid (P.length = 256) := Lib.hid (by rw [hP]; exact full_length L hLl)
  have HQL : Hid (Q.length = 256) := Lib.hid (by rw [hQ]; exact full_length M hMl)
  clear hP hQ
  go_wp2_with fail
  refine (New_dr 3 (by decide) (by decide) _).mono ?_
  rintro e w4 ⟨d, o, rfl, hd4, hw4⟩
  have HD4 : Hid (Dr w4 w3.heap.size d o [zeros, zeros, zeros] [] (-1)) := Lib.hid hd4
  have HS3 : Hid (w.heap.size ≤ w3.heap.size) := Lib.hid HB3.out.size
  have HP4 : Hid (RdK o w4 A3 L) := Lib.hid (RdK.of_rd (B := w3.heap.size) (HP3.out.below hw4) hw4.size hd4.ge)
  have HQ4 : Hid (RdK o w4 A4 M) := Lib.hid (RdK.of_rd (B := w3.heap.size) (HQ3.out.below hw4) hw4.size hd4.ge)
  have HB4 : Hid (Below w.heap.size w w4) := Lib.hid (HB3.out.trans (hw4.mono HB3.out.size))
  clear hd4 hw4 HP3 HQ3 HB3
  go_wp2_with fail
  refine (Write_dr HD4.out (by decide) (by decide) 0 c3 (by show 0 < 3; decide) HP4.out rfl hLl (by show 0 < 1000000; decide)).mono ?_
  rintro e w5 ⟨rfl, o5, hd5, hk5, ho5⟩
  have HD5 : Hid (Dr w5 w3.heap.size d o5 [zeros, zeros, zeros] [(0, P)] (-1)) := Lib.hid (by have h := hd5; rw [← HPE.out] at h; exact h)
  have HP5 := Lib.hid (HP4.out.kept hk5 ho5)
  have HQ5 := Lib.hid (HQ4.out.kept hk5 ho5)
  have HB5 : Hid (Below w.heap.size w w5) := Lib.hid (HB4.out.trans (hk5.below (B := w.heap.size) HB4.out.size (fun i hi e => absurd (HD4.out.ge i e) (by have := HS3.out; omega))))
  clear hd5 hk5 ho5 HD4 HP4 HQ4 HB4
  go_wp2_with fail
  refine (Write_dr HD5.out (by decide) (by decide) 1 c3 (by show 1 < 3; decide) HP5.out rfl hLl (by show 1 < 1000000; decide)).mono ?_
  rintro e w6 ⟨rfl, o6, hd6, hk6, ho6⟩
  have HD6 : Hid (Dr w6 w3.heap.size d o6 [zeros, zeros, zeros] [(0, P), (1, P)] (-1)) := Lib.hid (by have h := hd6; rw [← HPE.out] at h; exact h)
  have HP6 := Lib.hid (HP5.out.kept hk6 ho6)
  have HQ6 := Lib.hid (HQ5.out.kept hk6 ho6)
  have HB6 : Hid (Below w.heap.size w w6) := Lib.hid (HB5.out.trans (hk6.below (B := w.heap.size) HB5.out.size (fun i hi e => absurd (HD5.out.ge i e) (by have := HS3.out; omega))))
  clear hd6 hk6 ho6 HD5 HP5 HQ5 HB5
  go_wp2_with fail
  refine (Flush_dr HD6.out (by decide) (by decide)).mono ?_
  rintro e w7 ⟨rfl, o7, hd7, hk7, ho7⟩
  have HD7 : Hid (Dr w7 w3.heap.size d o7 [P, P, zeros] [] (-1)) := Lib.hid hd7
  have HP7 := Lib.hid (HP6.out.kept hk7 ho7)
  have HQ7 := Lib.hid (HQ6.out.kept hk7 ho7)
  have HB7 : Hid (Below w.heap.size w w7) := Lib.hid (HB6.out.trans (hk7.below (B := w.heap.size) HB6.out.size (fun i hi e => absurd (HD6.out.ge i e) (by have := HS3.out; omega))))
  clear hd7 hk7 ho7 HD6 HP6 HQ6 HB6
  go_wp2_with fail
  refine (Write_dr HD7.out (by decide) (by decide) 1 c4 (by show 1 < 3; decide) HQ7.out rfl hMl (by show 0 < 1000000; decide)).mono ?_
  rintro e w8 ⟨rfl, o8, hd8, hk8, ho8⟩
  have HD8 : Hid (Dr w8 w3.heap.size d o8 [P, P, zeros] [(1, Q)] (-1)) := Lib.hid (by have h := hd8; rw [← HQE.out] at h; exact h)
  have HP8 := Lib.hid (HP7.out.kept hk8 ho8)
  have HQ8 := Lib.hid (HQ7.out.kept hk8 ho8)
  have HB8 : Hid (Below w.heap.size w w8) := Lib.hid (HB7.out.trans (hk8.below (B := w.heap.size) HB7.out.size (fun i hi e => absurd (HD7.out.ge i e) (by have := HS3.out; omega))))
  clear hd8 hk8 ho8 HD7 HP7 HQ7 HB7
  go_wp2_with fail
  refine (Write_dr HD8.out (by decide) (by decide) 2 c4 (by show 2 < 3; decide) HQ8.out rfl hMl (by show 1 < 1000000; decide)).mono ?_
  rintro e w9 ⟨rfl, o9, hd9, hk9, ho9⟩
  have HD9 : Hid (Dr w9 w3.heap.size d o9 [P, P, zeros] [(1, Q), (2, Q)] (-1)) := Lib.hid (by have h := hd9; rw [← HQE.out] at h; exact h)
  have HP9 := Lib.hid (HP8.out.kept hk9 ho9)
  have HQ9 := Lib.hid (HQ8.out.kept hk9 ho9)
  have HB9 : Hid (Below w.heap.size w w9) := Lib.hid (HB8.out.trans (hk9.below (B := w.heap.size) HB8.out.size (fun i hi e => absurd (HD8.out.ge i e) (by have := HS3.out; omega))))
  clear hd9 hk9 ho9 HD8 HP8 HQ8 HB8
  obtain ⟨m1, m2, hm1', hm2', hfall⟩ := fall_two P Q HPL.out HQL.out keep torn
  have HF := Lib.hid hfall
  have HK := Lib.hid hK
  clear hfall hK
  go_wp2_with fail
  refine (Fall_dr HD9.out c2 w.heap.size keep (HK.out.below HB9.out) HB9.out.size rfl hm2 torn).mono ?_
  rintro e w10 ⟨d10, o10, rfl, hd10, hw10⟩
  rw [HF.out] at hd10
  have HC10 := Lib.hid hd10
  have HD10 := Lib.hid (HD9.out.below hw10)
  have HP10 : Hid (Rd w10 w10.heap.size A3 L) := Lib.hid (HP9.out.below hw10).rd
  have HQ10 : Hid (Rd w10 w10.heap.size A4 M) := Lib.hid (HQ9.out.below hw10).rd
  have HB10 : Hid (Below w.heap.size w w10) := Lib.hid (HB9.out.trans (hw10.mono HB9.out.size))
  clear hd10 hw10 HD9 HP9 HQ9 HB9 HF HK
  go_wp2_with fail
  refine (Read_dr HC10.out 0 (by show 0 < 3; decide)).mono ?_
  rintro e w11 ⟨rfl, hb11, hw11⟩
  rw [show now [P, tear m1 Q P, tear m2 Q zeros] [] 0 = P from rfl] at hb11
  obtain ⟨x0, hx0⟩ : ∃ x, x = w10.heap.size := ⟨_, rfl⟩
  rw [← hx0] at hb11 ⊢
  have HX011 := Lib.hid (blk_rd hb11 hb11.lt)
  have HC11 := Lib.hid (HC10.out.below hw11)
  have HD11 := Lib.hid (HD10.out.below hw11)
  have HP11 : Hid (Rd w11 w11.heap.size A3 L) := Lib.hid ((HP10.out.below hw11).more hw11.size)
  have HQ11 : Hid (Rd w11 w11.heap.size A4 M) := Lib.hid ((HQ10.out.below hw11).more hw11.size)
  have HB11 : Hid (Below w.heap.size w w11) := Lib.hid (HB10.out.trans (hw11.mono HB10.out.size))
  clear hb11 hw11 hx0 HC10 HD10 HP10 HQ10 HB10
  go_wp2_with fail
  refine (Read_dr HC11.out 1 (by show 1 < 3; decide)).mono ?_
  rintro e w12 ⟨rfl, hb12, hw12⟩
  rw [show now [P, tear m1 Q P, tear m2 Q zeros] [] 1 = tear m1 Q P from rfl] at hb12
  obtain ⟨x1, hx1⟩ : ∃ x, x = w11.heap.size := ⟨_, rfl⟩
  rw [← hx1] at hb12 ⊢
  have HX112 := Lib.hid (blk_rd hb12 hb12.lt)
  have HC12 := Lib.hid (HC11.out.below hw12)
  have HD12 := Lib.hid (HD11.out.below hw12)
  have HP12 : Hid (Rd w12 w12.heap.size A3 L) := Lib.hid ((HP11.out.below hw12).more hw12.size)
  have HQ12 : Hid (Rd w12 w12.heap.size A4 M) := Lib.hid ((HQ11.out.below hw12).more hw12.size)
  have HB12 : Hid (Below w.heap.size w w12) := Lib.hid (HB11.out.trans (hw12.mono HB11.out.size))
  have HX012 := Lib.hid ((HX011.out.below hw12).more hw12.size)
  clear HX011
  clear hb12 hw12 hx1 HC11 HD11 HP11 HQ11 HB11
  go_wp2_with fail
  refine (Read_dr HC12.out 2 (by show 2 < 3; decide)).mono ?_
  rintro e w13 ⟨rfl, hb13, hw13⟩
  rw [show now [P, tear m1 Q P, tear m2 Q zeros] [] 2 = tear m2 Q zeros from rfl] at hb13
  obtain ⟨x2, hx2⟩ : ∃ x, x = w12.heap.size := ⟨_, rfl⟩
  rw [← hx2] at hb13 ⊢
  have HX213 := Lib.hid (blk_rd hb13 hb13.lt)
  have HC13 := Lib.hid (HC12.out.below hw13)
  have HD13 := Lib.hid (HD12.out.below hw13)
  have HP13 : Hid (Rd w13 w13.heap.size A3 L) := Lib.hid ((HP12.out.below hw13).more hw13.size)
  have HQ13 : Hid (Rd w13 w13.heap.size A4 M) := Lib.hid ((HQ12.out.below hw13).more hw13.size)
  have HB13 : Hid (Below w.heap.size w w13) := Lib.hid (HB12.out.trans (hw13.mono HB12.out.size))
  have HX013 := Lib.hid ((HX012.out.below hw13).more hw13.size)
  clear HX012
  have HX113 := Lib.hid ((HX112.out.below hw13).more hw13.size)
  clear HX112
  clear hb13 hw13 hx2 HC12 HD12 HP12 HQ12 HB12
  have cF1 : ∀ wF, Below w13.heap.size w13 wF → Calls Try.prog 13 #[.slice A3 L.length c3] wF (ToF (secF P) wF) := fun wF hb => cFull ((HP13.out.below hb).more hb.size) hLl HPE.out
  have cF2 : ∀ wF, Below w13.heap.size w13 wF → Calls Try.prog 13 #[.slice A4 M.length c4] wF (ToF (secF Q) wF) := fun wF hb => cFull ((HQ13.out.below hb).more hb.size) hMl HQE.out
  go_wp2_with fail
  refine wp_region_flow [some 64, some 65, some 66, some 67, some 68, some 18, some 19, some 20] (fun i => ([.is (.slice A3 L.length c3), secF P, .is (.slice A4 M.length c4), secF Q, secF zeros, secF P, secF Q, secF zeros] : List Flw).getD i .any) (by kernel_rfl) (by kernel_rfl) rfl ?_ ?_
  · skip
    refine ⟨step_free rfl (fun aF wF hs hb => ?_), ?_⟩
    · obtain ⟨x0, -⟩ := hs
      have e0 : aF.eval (.tmp 0) = .slice A3 L.length c3 := x0
      exact opC_move e0 ⟨rfl, below_same wF⟩
    refine ⟨step_free rfl (fun aF wF hs hb => ?_), ?_⟩
    · obtain ⟨x0, -⟩ := hs
      have e0 : aF.eval (.tmp 64) = .slice A3 L.length c3 := x0
      exact opC_callF (args := #[.slice A3 L.length c3]) (enters_ Try.func13 (by kernel_rfl) rfl) (by simp [e0]) (cF1 wF hb) (fun _ _ h1 h2 => ⟨h1, h2⟩)
    refine ⟨step_free rfl (fun aF wF hs hb => ?_), ?_⟩
    · obtain ⟨x0, -⟩ := hs
      have e0 : aF.eval (.tmp 1) = .slice A4 M.length c4 := x0
      exact opC_move e0 ⟨rfl, below_same wF⟩
    refine ⟨step_free rfl (fun aF wF hs hb => ?_), ?_⟩
    · obtain ⟨x0, -⟩ := hs
      have e0 : aF.eval (.tmp 66) = .slice A4 M.length c4 := x0
      exact opC_callF (args := #[.slice A4 M.length c4]) (enters_ Try.func13 (by kernel_rfl) rfl) (by simp [e0]) (cF2 wF hb) (fun _ _ h1 h2 => ⟨h1, h2⟩)
    refine ⟨step_free rfl (fun aF wF hs hb => ?_), ?_⟩
    · exact opC_make ⟨⟨_, rfl, Blk.new _ _ _⟩, (Below.refl _ wF).alloc (Nat.le_refl _) _⟩
    refine ⟨step_free rfl (fun aF wF hs hb => ?_), ?_⟩
    · obtain ⟨x0, -⟩ := hs
      exact opC_assign rfl ⟨x0, below_same wF⟩
    refine ⟨step_free rfl (fun aF wF hs hb => ?_), ?_⟩
    · obtain ⟨x0, -⟩ := hs
      exact opC_assign rfl ⟨x0, below_same wF⟩
    refine ⟨step_free rfl (fun aF wF hs hb => ?_), ?_⟩
    · obtain ⟨x0, -⟩ := hs
      exact opC_assign rfl ⟨x0, below_same wF⟩
    exact trivial
  · intro fv w14 hf hb14
    obtain ⟨g5, h5, hb5⟩ := hf 5 18 rfl
    obtain ⟨g6, h6, hb6⟩ := hf 6 19 rfl
    obtain ⟨g7, h7, hb7⟩ := hf 7 20 rfl
    clear hf cF1 cF2
    simp only [putF, Act.put, List.setIfInBounds_toArray, List.set_cons_zero, List.set_cons_succ]
    have HO := Lib.hid (blk_rd hb5 hb5.lt)
    have HN := Lib.hid (blk_rd hb6 hb6.lt)
    have HZ := Lib.hid (blk_rd hb7 hb7.lt)
    have HX0 := Lib.hid ((HX013.out.below hb14).more hb14.size)
    have HX1 := Lib.hid ((HX113.out.below hb14).more hb14.size)
    have HX2 := Lib.hid ((HX213.out.below hb14).more hb14.size)
    have HC := Lib.hid (HC13.out.below hb14)
    have HD := Lib.hid (HD13.out.below hb14)
    have HB : Hid (Below w.heap.size w w14) := Lib.hid (HB13.out.trans (hb14.mono HB13.out.size))
    rw [show fv 5 = _ from h5, show fv 6 = _ from h6, show fv 7 = _ from h7]
    clear h5 h6 h7 hb5 hb6 hb7 hb14 HX013 HX113 HX213 HC13 HD13 HB13 HP13 HQ13
    go_wp2_with fail
    refine (Same_any _ _ 256 256 w14.heap.size 256 256 w14.heap.size P P w14 HX0.out HPL.out (by decide) HO.out HPL.out (by decide)).mono ?_
    rintro e w15 hq
    obtain ⟨rfl, hw15⟩ := below_all hq
    rw [decide_eq_true (show P = P from rfl)]
    go_wp2_with fail
    refine (half_any x1 0 g5 0 g6 0 (tear m1 Q P) P Q w15 ((HX1.out.below hw15).more hw15.size) ((HO.out.below hw15).more hw15.size) ((HN.out.below hw15).more hw15.size) (tear_length _ _ _ HQL.out HPL.out) HPL.out HQL.out m1 hm1' rfl).mono ?_
    rintro e w16 ⟨rfl, hw16⟩
    have hw16' : Below w14.heap.size w14 w16 := hw15.trans (hw16.mono hw15.size)
    go_wp2_with fail
    refine (half_any x2 0 g7 0 g6 0 (tear m2 Q zeros) zeros Q w16 ((HX2.out.below hw16').more hw16'.size) ((HZ.out.below hw16').more hw16'.size) ((HN.out.below hw16').more hw16'.size) (tear_length _ _ _ HQL.out zeros_length) zeros_length HQL.out m2 hm2' rfl).mono ?_
    rintro e w17 ⟨rfl, hw17⟩
    have hw17' : Below w14.heap.size w14 w17 := hw16'.trans (hw17.mono hw16'.size)
    have HD17 := Lib.hid (HD.out.below hw17')
    have HC17 := Lib.hid (HC.out.below hw17')
    have HB17 : Hid (Below w.heap.size w w17) := Lib.hid (HB.out.trans (hw17'.mono HB.out.size))
    clear hq hw15 hw16 hw16' hw17 hw17' HX0 HX1 HX2 HO HN HZ HC HD HB
    go_wp2_with fail
    refine (Dirty_dr HC17.out).mono ?_
    rintro e w18 ⟨rfl, rfl⟩
    go_wp2_with fail
    refine (Dirty_dr HD17.out).mono ?_
    rintro e w19 ⟨rfl, rfl⟩
    go_wp2
    go_ret
    exact ⟨rfl, HB17.out⟩
end
end Go.Proofs.Ytoiiemjaecfnhaa
