/-
  The document's reader, its loop. No condition.
-/
import Derived.Test.YtijkcolkedeibaaDoorCRdR
import Derived.LoopTactic
import Derived.IntWalk
import Derived.Test.YtijkcolkedeibaaDoorFlow
namespace Go.Proofs.YtijkcolkedeibaaDoor
open Go.RowKit Go.Lib

theorem D_list (T : ByteArray) (X : List UInt8) (h : T.data.toList = X) (hz : 4 ≤ T.size) : (T.extract 0 (T.size - 3) ++ T.extract (T.size - 2) T.size).data.toList = dr X := by
  subst h
  unfold dr
  rw [← Lib.size_eq]
  simp [ByteArray.data_extract]
  rw [List.take_of_length_le]
  rw [List.length_drop, ← Lib.size_eq]
  exact Nat.le_refl _
/-- What holds at a round's head. -/
def LRel (l : List UInt8) (D : ByteArray) (n o i : Value) : Prop := ∃ k : Nat, k ≤ D.size ∧ i = .int .i64 k ∧ n = .int .u64 ((rI (l.take k)).1 : Nat) ∧ o = .bool (rI (l.take k)).2 ∧ (∀ b ∈ l.take k, 48 ≤ b.toNat ∧ b.toNat ≤ 57)
theorem end_over {S : ByteArray} (hf : fmS S = true) (hv : fitS S = false) : refN S = 0 ∧ refE S = 12 := by
  have e : refE S = 12 := by unfold refE; rw [hf, hv]; rfl
  exact ⟨by unfold refN; rw [e]; rfl, e⟩
theorem end_zero {S : ByteArray} (hf : fmS S = true) (hv : fitS S = true) (hn : ngS S = true) (hz : valS S = 0) : refN S = 0 ∧ refE S = 15 := by
  have e : refE S = 15 := by unfold refE; rw [hf, hv, hn, hz]; rfl
  exact ⟨by unfold refN; rw [e]; rfl, e⟩
theorem end_val {S : ByteArray} (hf : fmS S = true) (hv : fitS S = true) (h : ¬ (ngS S = true ∧ valS S = 0)) : refE S = 0 ∧ refN S = if ngS S then -(valS S : Int) else (valS S : Int) := by
  have e : refE S = 0 := by
    unfold refE
    rw [hf, hv, if_neg (by decide), if_neg (by decide), if_neg (by simpa using h)]
  exact ⟨e, by unfold refN; rw [e]; rfl⟩
theorem bad_digit {S : ByteArray} {b : UInt8} (h : b ∈ dr (rsS S)) (hb : b.toNat < 48 ∨ 57 < b.toNat) : refN S = 0 ∧ refE S = 15 := by
  refine refs_no ?_
  unfold fmS
  rw [Bool.and_eq_false_iff]
  right
  cases e : digB (dr (rsS S))
  · rfl
  · have := digB_iff.1 e b h
    omega
theorem step_rel (l : List UInt8) (k N : Nat) (V : Bool) (b : UInt8) (hs : l.take (k + 1) = l.take k ++ [b]) (hN : (rI (l.take k)).1 = N) (hV : (rI (l.take k)).2 = V) (hd : ∀ x ∈ l.take k, 48 ≤ x.toNat ∧ x.toNat ≤ 57) (hb : 48 ≤ b.toNat ∧ b.toNat ≤ 57) :
    (∀ x ∈ l.take (k + 1), 48 ≤ x.toNat ∧ x.toNat ≤ 57) ∧ (V = true ∨ 922337203685477580 < N → rI (l.take (k + 1)) = (N, true)) ∧ (V = false → ¬ 922337203685477580 < N → rI (l.take (k + 1)) = (10 * N + (b.toNat - 48), false)) := by
  rw [hs]
  refine ⟨fun x hx => ?_, fun h => ?_, fun h1 h2 => ?_⟩
  · rcases List.mem_append.1 hx with hx | hx
    · exact hd x hx
    · rw [List.mem_singleton.1 hx]; exact hb
  · rw [rI_snoc]; unfold rStep; rw [hN, hV, if_pos h]
  · rw [rI_snoc]; unfold rStep; rw [hN, hV, if_neg (by rintro (h | h); rw [h1] at h; cases h; exact h2 h)]
set_option maxHeartbeats 4000000 in
set_option maxRecDepth 100000 in
theorem RRead_loopO (S : ByteArray) (hS : S.size ≤ 40) (d : UInt8) (hd : S[0]? = some d) (hne : d ≠ 45) (hl : 4 ≤ (rsS S).length) (c : UInt8) (hc0 : (rsS S)[(rsS S).length - 3]? = some c) (hcn : c = 46) (d0 : UInt8) (hq0 : (rsS S)[0]? = some d0) (h48 : d0 ≠ 48 ∨ (d0 = 48 ∧ (rsS S).length = 4)) (w : World) : Calls Tryd.prog 7 #[.string S] w (RRP S w) := by
  have hB := beg_other S d hd hne
  obtain ⟨T, hTT⟩ : ∃ T, S = T := ⟨_, rfl⟩
  have hB : Beg S T false := by rw [← hTT]; exact hB
  have hz := hB.z
  have hc : T[T.size - 3]? = some c := by rw [byte_at, hB.l, hz]; exact hc0
  have hI3 := fun W => idx_at T (T.size - 3) c hc ((T.size : Int) - 3) (by omega) W
  have ht : 4 ≤ T.size := by omega
  have hTs : T.size ≤ 40 := by have := rs_len S; omega
  have ht2 : ¬ (T.size : Int) < 4 := by omega
  have HTT := Lib.hid hTT
  have hd0 : T[0]? = some d0 := by rw [byte_at, hB.l]; exact hq0
  have hI0 := fun W => idx_at T 0 d0 hd0 0 rfl W
  have hj3 : ((c.toNat : Int) != 46) = false := by rw [hcn]; rfl
  have HD := Lib.hid (D_list T (rsS S) hB.l ht)
  obtain rfl : d = d0 := by
    have h9 := hd0
    rw [← hTT, hd] at h9
    injection h9 with h9
  have hw : ((d.toNat : Int) == 48) = false ∨ (((d.toNat : Int) == 48) = true ∧ ¬ 4 < T.size) := by
    rcases h48 with h | ⟨h, h4⟩
    · left
      rw [beq_eq_false_iff_ne]
      intro e
      exact h (UInt8.toNat_inj.1 (by simpa using (by omega : d.toNat = 48)))
    · right
      exact ⟨by rw [h]; rfl, by omega⟩
  have HOK : Hid (refOk (rsS S) = true) := Lib.hid (by
    unfold refOk
    rw [List.getD_eq_getElem?_getD, List.getD_eq_getElem?_getD, hc0, hq0, decide_eq_true hl, hcn]
    rcases h48 with h | ⟨h, h4⟩
    · simp [h]
    · simp [h4])
  have HNG := Lib.hid hB.g
  clear hB hl hTT hz hc hc0 hcn hd0 hq0 h48
  have hsz : 0 < S.size := by
    rcases Nat.lt_or_ge 0 S.size with h1 | h1
    · exact h1
    · rw [getElem?_neg S 0 (by omega)] at hd; cases hd
  have hi0 := fun W => idx_at S 0 _ hd 0 rfl W
  have hj : ((d.toNat : Int) == 45) = false := by
    rw [beq_eq_false_iff_ne]
    intro e
    exact hne (UInt8.toNat_inj.1 (by simpa using (by omega : d.toNat = 45)))
  clear hne
  have HSZ := Lib.hid hsz
  clear hd
  have hw7 := True.intro
  rcases hw with hj0 | ⟨hj0, ht4⟩
  all_goals
    go_enter Tryd.func7, Tryd.ntmps7
    go_upto_region 5 with (fail)
    obtain rfl := HTT.out
    go_upto_region 7 with (fail)
    refine wp_region_flow [some 43, some 44, some 45, some 46, some 47, some 48, some 49, some 50, some 51, some 52, some 53, some 6] (fun i => ([.is (.string S), .is (.string S), .is (.int .i64 (S.size : Int)), .is (.int .i64 ((S.size : Int) - 3)), .is (.string (S.extract 0 (S.size - 3))), .is (.string S), .is (.string S), .is (.int .i64 (S.size : Int)), .is (.int .i64 ((S.size : Int) - 2)), .is (.string (S.extract (S.size - 2) S.size)), .is (.string (S.extract 0 (S.size - 3) ++ S.extract (S.size - 2) S.size)), .is (.string (S.extract 0 (S.size - 3) ++ S.extract (S.size - 2) S.size))] : List Flw).getD i .any) (by kernel_rfl) (by kernel_rfl) rfl ?_ ?_
    · clear hI0 hI3
      refine ⟨step_free rfl (fun aF wF hs hb => ?_), ?_⟩
      · obtain ⟨x0, -⟩ := hs
        have e0 : aF.eval (.tmp 5) = .string S := x0
        exact opC_move e0 ⟨rfl, below_same wF⟩
      refine ⟨step_free rfl (fun aF wF hs hb => ?_), ?_⟩
      · obtain ⟨x0, -⟩ := hs
        have e0 : aF.eval (.tmp 5) = .string S := x0
        exact opC_move e0 ⟨rfl, below_same wF⟩
      refine ⟨step_free rfl (fun aF wF hs hb => ?_), ?_⟩
      · obtain ⟨x0, -⟩ := hs
        have e0 : aF.eval (.tmp 44) = .string S := x0
        refine opC_value (v := .int .i64 (S.size : Int)) ?_ ⟨rfl, below_same wF⟩
        have t0 := ev_of e0
        simp [execOp, go_sem, t0]
      refine ⟨step_free rfl (fun aF wF hs hb => ?_), ?_⟩
      · obtain ⟨x0, -⟩ := hs
        have e0 : aF.eval (.tmp 45) = .int .i64 (S.size : Int) := x0
        refine opC_value (v := .int .i64 ((S.size : Int) - 3)) ?_ ⟨rfl, below_same wF⟩
        have t0 := ev_of e0
        have hw := IntWalk.i64_in ((S.size : Int) - 3) (by omega)
        simp [execOp, go_sem, t0, hw]
      refine ⟨step_free rfl (fun aF wF hs hb => ?_), ?_⟩
      · obtain ⟨x0, x1, -⟩ := hs
        have e0 : aF.eval (.tmp 43) = .string S := x0
        have e1 : aF.eval (.tmp 46) = .int .i64 ((S.size : Int) - 3) := x1
        refine opC_value (v := .string (S.extract 0 (S.size - 3))) ?_ ⟨rfl, below_same wF⟩
        have t0 := ev_of e0
        have t1 := ev_of e1
        go_simp
        rw [if_pos (by omega), show ((S.size : Int) - 3).toNat = S.size - 3 by omega]
      refine ⟨step_free rfl (fun aF wF hs hb => ?_), ?_⟩
      · obtain ⟨x0, -⟩ := hs
        have e0 : aF.eval (.tmp 5) = .string S := x0
        exact opC_move e0 ⟨rfl, below_same wF⟩
      refine ⟨step_free rfl (fun aF wF hs hb => ?_), ?_⟩
      · obtain ⟨x0, -⟩ := hs
        have e0 : aF.eval (.tmp 5) = .string S := x0
        exact opC_move e0 ⟨rfl, below_same wF⟩
      refine ⟨step_free rfl (fun aF wF hs hb => ?_), ?_⟩
      · obtain ⟨x0, -⟩ := hs
        have e0 : aF.eval (.tmp 49) = .string S := x0
        refine opC_value (v := .int .i64 (S.size : Int)) ?_ ⟨rfl, below_same wF⟩
        have t0 := ev_of e0
        simp [execOp, go_sem, t0]
      refine ⟨step_free rfl (fun aF wF hs hb => ?_), ?_⟩
      · obtain ⟨x0, -⟩ := hs
        have e0 : aF.eval (.tmp 50) = .int .i64 (S.size : Int) := x0
        refine opC_value (v := .int .i64 ((S.size : Int) - 2)) ?_ ⟨rfl, below_same wF⟩
        have t0 := ev_of e0
        have hw := IntWalk.i64_in ((S.size : Int) - 2) (by omega)
        simp [execOp, go_sem, t0, hw]
      refine ⟨step_free rfl (fun aF wF hs hb => ?_), ?_⟩
      · obtain ⟨x0, x1, -⟩ := hs
        have e0 : aF.eval (.tmp 48) = .string S := x0
        have e1 : aF.eval (.tmp 51) = .int .i64 ((S.size : Int) - 2) := x1
        refine opC_value (v := .string (S.extract (S.size - 2) S.size)) ?_ ⟨rfl, below_same wF⟩
        have t0 := ev_of e0
        have t1 := ev_of e1
        go_simp
        rw [if_pos (by omega), show ((S.size : Int) - 2).toNat = S.size - 2 by omega]
      refine ⟨step_free rfl (fun aF wF hs hb => ?_), ?_⟩
      · obtain ⟨x0, x1, -⟩ := hs
        have e0 : aF.eval (.tmp 47) = .string (S.extract 0 (S.size - 3)) := x0
        have e1 : aF.eval (.tmp 52) = .string (S.extract (S.size - 2) S.size) := x1
        refine opC_value (v := .string (S.extract 0 (S.size - 3) ++ S.extract (S.size - 2) S.size)) ?_ ⟨rfl, below_same wF⟩
        have t0 := ev_of e0
        have t1 := ev_of e1
        simp [execOp, go_sem, t0, t1]
        omega
      refine ⟨step_free rfl (fun aF wF hs hb => ?_), ?_⟩
      · obtain ⟨x0, -⟩ := hs
        have e0 : aF.eval (.tmp 53) = .string (S.extract 0 (S.size - 3) ++ S.extract (S.size - 2) S.size) := x0
        exact opC_assign e0 ⟨rfl, below_same wF⟩
      exact trivial
    · intro f w5 hf hb5
      have h6 : f 11 = .string (S.extract 0 (S.size - 3) ++ S.extract (S.size - 2) S.size) := hf 11 6 rfl
      obtain ⟨D, hD⟩ : ∃ D, S.extract 0 (S.size - 3) ++ S.extract (S.size - 2) S.size = D := ⟨_, rfl⟩
      rw [hD] at h6 HD
      obtain ⟨l, hl9⟩ : ∃ l, dr (rsS S) = l := ⟨_, rfl⟩
      rw [hl9] at HD
      have HL9 := Lib.hid hl9
      have HB5 := Lib.hid hb5
      have hDs : D.size ≤ 50 := by
        have e : D.size = l.length := by rw [Lib.size_eq, HD.out]
        rw [e, ← hl9]
        unfold dr
        have := rs_len S
        rw [List.length_append, List.length_take, List.length_drop]
        omega
      have HDL : Hid (D.size = l.length) := Lib.hid (by rw [Lib.size_eq, HD.out])
      simp only [putF, Act.put, List.setIfInBounds_toArray, List.set_cons_zero, List.set_cons_succ]
      rw [h6]
      clear h6 hf hb5 hD hl9 hw7 hI0 hI3 hj3
      go_wp2_with fail
      go_loop [7, 8, 9] (LRel l D) (fun _ _ i => D.size - (intOf i).toNat)
      case atStart => exact ⟨0, Nat.zero_le _, rfl, rfl, rfl, fun b hb => by cases hb⟩
      case round =>
        obtain ⟨k, hk, hi9, hn9, ho9, hdk⟩ := hrel
        subst hi9
        obtain ⟨N, hN⟩ : ∃ N, (rI (l.take k)).1 = N := ⟨_, rfl⟩
        obtain ⟨V, hV⟩ : ∃ V, (rI (l.take k)).2 = V := ⟨_, rfl⟩
        rw [hN] at hn9
        rw [hV] at ho9
        subst hn9 ho9
        have HDK := Lib.hid hdk
        have hri := rI_is (l.take k) hdk
        rw [hN, hV] at hri
        have hN9 : N ≤ 9223372036854775809 := hri.2.2
        have HRI := Lib.hid hri
        have HNN := Lib.hid hN
        have HVV := Lib.hid hV
        clear hri hN hV hdk
        by_cases hlt : k < D.size
        · have hkl : k < l.length := by rw [← HDL.out]; exact hlt
          have hb9 : D[k]? = some l[k] := by rw [byte_at, HD.out, List.getElem?_eq_getElem hkl]
          have hI9 := fun W => idx_at D k l[k] hb9 (k : Int) rfl W
          have HSN := Lib.hid (List.take_succ_eq_append_getElem hkl)
          have HMB := Lib.hid (List.getElem_mem hkl)
          obtain ⟨b, hb⟩ : ∃ b, l[k] = b := ⟨_, rfl⟩
          rw [hb] at hI9 HSN HMB
          clear hb9 hb hkl
          have hbz : b.toNat < 256 := b.toNat_lt
          by_cases h1 : b.toNat < 48
          · have h1' : (b.toNat : Int) < 48 := by omega
            obtain ⟨e1, e2⟩ := bad_digit (S := S) (by rw [HL9.out]; exact HMB.out) (.inl h1)
            have HE1 := Lib.hid e1
            have HE2 := Lib.hid e2
            clear e1 e2
            go_wp2_with fail
            go_ret2
            exact ⟨by rw [HE1.out, HE2.out]; rfl, HB5.out⟩
          · by_cases h2 : 57 < b.toNat
            · have h1' : ¬ (b.toNat : Int) < 48 := by omega
              have h2' : (57 : Int) < (b.toNat : Int) := by omega
              obtain ⟨e1, e2⟩ := bad_digit (S := S) (by rw [HL9.out]; exact HMB.out) (.inr h2)
              have HE1 := Lib.hid e1
              have HE2 := Lib.hid e2
              clear e1 e2
              go_wp2_with fail
              go_ret2
              exact ⟨by rw [HE1.out, HE2.out]; rfl, HB5.out⟩
            · have h1' : ¬ (b.toNat : Int) < 48 := by omega
              have h2' : ¬ (57 : Int) < (b.toNat : Int) := by omega
              have HST := Lib.hid (step_rel l k N V b HSN.out HNN.out HVV.out HDK.out (by omega))
              by_cases h3 : 922337203685477580 < N
              · have h3' : (922337203685477580 : Int) < (N : Int) := by omega
                go_wp2_with fail
                go_round
                case rel => exact ⟨k + 1, by omega, by go_num, by rw [HST.out.2.1 (.inr h3)], by rw [HST.out.2.1 (.inr h3)], HST.out.1⟩
                case measure => simp [intOf]; omega
              · have h3' : ¬ (922337203685477580 : Int) < (N : Int) := by omega
                cases V
                · go_wp2_with fail
                  go_round
                  case rel => exact ⟨k + 1, by omega, by go_num, by rw [HST.out.2.2 rfl h3]; show Value.int IntKind.u64 _ = Value.int IntKind.u64 ((10 * N + (b.toNat - 48) : Nat) : Int); congr 1; omega, by rw [HST.out.2.2 rfl h3], HST.out.1⟩
                  case measure => simp [intOf]; omega
                · go_wp2_with fail
                  go_round
                  case rel => exact ⟨k + 1, by omega, by go_num, by rw [HST.out.2.1 (.inl rfl)], by rw [HST.out.2.1 (.inl rfl)], HST.out.1⟩
                  case measure => simp [intOf]; omega
        · obtain rfl : k = D.size := by omega
          have hT9 : l.take D.size = l := by rw [HDL.out]; exact List.take_length
          have hda := HDK.out
          have hri := HRI.out
          rw [hT9] at hda hri
          have hfm : fmS S = true := by
            unfold fmS
            rw [HOK.out, Bool.true_and, HL9.out]
            exact digB_iff.2 hda
          have hvl : valS S = valA 0 l := by unfold valS; rw [HL9.out]
          rw [← hvl] at hri
          clear hda hT9 HDK HRI HNN HVV hvl
          cases V
          · obtain ⟨hNv, hNm⟩ := hri.1 rfl
            have HNv := Lib.hid hNv
            clear hri hNv hNm
            by_cases hov : 9223372036854775807 < N
            · have hov' : (9223372036854775807 : Int) < (N : Int) := by omega
              have hod : decide ((9223372036854775807 : Int) < (N : Int)) = true := decide_eq_true hov'
              obtain ⟨e1, e2⟩ := end_over hfm (by unfold fitS; rw [HNG.out]; simp only [Bool.false_eq_true, if_false]; rw [decide_eq_false_iff_not, ← HNv.out]; omega)
              have HE1 := Lib.hid e1
              have HE2 := Lib.hid e2
              clear e1 e2 hfm hov
              go_wp2_with fail
              go_ret2
              exact ⟨by rw [HE1.out, HE2.out]; rfl, HB5.out⟩
            · have hov' : ¬ (9223372036854775807 : Int) < (N : Int) := by omega
              have hod : decide ((9223372036854775807 : Int) < (N : Int)) = false := decide_eq_false hov'
              have HOV := Lib.hid hov
              have hfit : fitS S = true := by unfold fitS; rw [HNG.out]; simp only [Bool.false_eq_true, if_false]; rw [decide_eq_true_eq, ← HNv.out]; omega
              clear hov' hov
              obtain ⟨e1, e2⟩ := end_val hfm hfit (fun h => by rw [HNG.out] at h; cases h.1)
              rw [HNG.out] at e2
              simp only [Bool.false_eq_true, if_false] at e2
              rw [← HNv.out] at e2
              have HE1 := Lib.hid e1
              have HE2 := Lib.hid e2
              have hNs : (N : Int) ≤ 9223372036854775807 := by have := HOV.out; omega
              clear e1 e2 hfm hfit
              have hod2 : decide ((9223372036854775808 : Int) < (N : Int)) = false := by rw [decide_eq_false_iff_not]; omega
              go_wp2_with fail
              go_ret2
              exact ⟨by rw [HE1.out, HE2.out]; rfl, HB5.out⟩
          · have hbig := hri.2.1 rfl
            obtain ⟨e1, e2⟩ := end_over hfm (by unfold fitS; split <;> (rw [decide_eq_false_iff_not]; omega))
            have HE1 := Lib.hid e1
            have HE2 := Lib.hid e2
            clear e1 e2 hfm hri hbig
            go_wp2_with fail
            go_ret2
            exact ⟨by rw [HE1.out, HE2.out]; rfl, HB5.out⟩
set_option maxHeartbeats 4000000 in
set_option maxRecDepth 100000 in
theorem RRead_loopM (S : ByteArray) (hS : S.size ≤ 40) (hd : S[0]? = some 45) (hl : 4 ≤ (rsS S).length) (c : UInt8) (hc0 : (rsS S)[(rsS S).length - 3]? = some c) (hcn : c = 46) (d0 : UInt8) (hq0 : (rsS S)[0]? = some d0) (h48 : d0 ≠ 48 ∨ (d0 = 48 ∧ (rsS S).length = 4)) (w : World) : Calls Tryd.prog 7 #[.string S] w (RRP S w) := by
  have hB := beg_minus S hd
  obtain ⟨T, hTT⟩ : ∃ T, (S.extract 1 S.size) = T := ⟨_, rfl⟩
  rw [hTT] at hB
  have hz := hB.z
  have hc : T[T.size - 3]? = some c := by rw [byte_at, hB.l, hz]; exact hc0
  have hI3 := fun W => idx_at T (T.size - 3) c hc ((T.size : Int) - 3) (by omega) W
  have ht : 4 ≤ T.size := by omega
  have hTs : T.size ≤ 40 := by have := rs_len S; omega
  have ht2 : ¬ (T.size : Int) < 4 := by omega
  have HTT := Lib.hid hTT
  have hd0 : T[0]? = some d0 := by rw [byte_at, hB.l]; exact hq0
  have hI0 := fun W => idx_at T 0 d0 hd0 0 rfl W
  have hj3 : ((c.toNat : Int) != 46) = false := by rw [hcn]; rfl
  have HD := Lib.hid (D_list T (rsS S) hB.l ht)
  have hw : ((d0.toNat : Int) == 48) = false ∨ (((d0.toNat : Int) == 48) = true ∧ ¬ 4 < T.size) := by
    rcases h48 with h | ⟨h, h4⟩
    · left
      rw [beq_eq_false_iff_ne]
      intro e
      exact h (UInt8.toNat_inj.1 (by simpa using (by omega : d0.toNat = 48)))
    · right
      exact ⟨by rw [h]; rfl, by omega⟩
  have HOK : Hid (refOk (rsS S) = true) := Lib.hid (by
    unfold refOk
    rw [List.getD_eq_getElem?_getD, List.getD_eq_getElem?_getD, hc0, hq0, decide_eq_true hl, hcn]
    rcases h48 with h | ⟨h, h4⟩
    · simp [h]
    · simp [h4])
  have HNG := Lib.hid hB.g
  clear hB hl hTT hz hc hc0 hcn hd0 hq0 h48
  have hsz : 0 < S.size := by
    rcases Nat.lt_or_ge 0 S.size with h1 | h1
    · exact h1
    · rw [getElem?_neg S 0 (by omega)] at hd; cases hd
  have hi0 := fun W => idx_at S 0 _ hd 0 rfl W
  have hsz1 : 1 ≤ S.size := hsz
  have HSZ := Lib.hid hsz
  clear hd
  have hw7 := True.intro
  rcases hw with hj0 | ⟨hj0, ht4⟩
  all_goals
    go_enter Tryd.func7, Tryd.ntmps7
    go_upto_region 5 with (fail)
    rw [HTT.out]
    go_upto_region 7 with (fail)
    refine wp_region_flow [some 43, some 44, some 45, some 46, some 47, some 48, some 49, some 50, some 51, some 52, some 53, some 6] (fun i => ([.is (.string T), .is (.string T), .is (.int .i64 (T.size : Int)), .is (.int .i64 ((T.size : Int) - 3)), .is (.string (T.extract 0 (T.size - 3))), .is (.string T), .is (.string T), .is (.int .i64 (T.size : Int)), .is (.int .i64 ((T.size : Int) - 2)), .is (.string (T.extract (T.size - 2) T.size)), .is (.string (T.extract 0 (T.size - 3) ++ T.extract (T.size - 2) T.size)), .is (.string (T.extract 0 (T.size - 3) ++ T.extract (T.size - 2) T.size))] : List Flw).getD i .any) (by kernel_rfl) (by kernel_rfl) rfl ?_ ?_
    · clear hI0 hI3
      refine ⟨step_free rfl (fun aF wF hs hb => ?_), ?_⟩
      · obtain ⟨x0, -⟩ := hs
        have e0 : aF.eval (.tmp 5) = .string T := x0
        exact opC_move e0 ⟨rfl, below_same wF⟩
      refine ⟨step_free rfl (fun aF wF hs hb => ?_), ?_⟩
      · obtain ⟨x0, -⟩ := hs
        have e0 : aF.eval (.tmp 5) = .string T := x0
        exact opC_move e0 ⟨rfl, below_same wF⟩
      refine ⟨step_free rfl (fun aF wF hs hb => ?_), ?_⟩
      · obtain ⟨x0, -⟩ := hs
        have e0 : aF.eval (.tmp 44) = .string T := x0
        refine opC_value (v := .int .i64 (T.size : Int)) ?_ ⟨rfl, below_same wF⟩
        have t0 := ev_of e0
        simp [execOp, go_sem, t0]
      refine ⟨step_free rfl (fun aF wF hs hb => ?_), ?_⟩
      · obtain ⟨x0, -⟩ := hs
        have e0 : aF.eval (.tmp 45) = .int .i64 (T.size : Int) := x0
        refine opC_value (v := .int .i64 ((T.size : Int) - 3)) ?_ ⟨rfl, below_same wF⟩
        have t0 := ev_of e0
        have hw := IntWalk.i64_in ((T.size : Int) - 3) (by omega)
        simp [execOp, go_sem, t0, hw]
      refine ⟨step_free rfl (fun aF wF hs hb => ?_), ?_⟩
      · obtain ⟨x0, x1, -⟩ := hs
        have e0 : aF.eval (.tmp 43) = .string T := x0
        have e1 : aF.eval (.tmp 46) = .int .i64 ((T.size : Int) - 3) := x1
        refine opC_value (v := .string (T.extract 0 (T.size - 3))) ?_ ⟨rfl, below_same wF⟩
        have t0 := ev_of e0
        have t1 := ev_of e1
        go_simp
        rw [if_pos (by omega), show ((T.size : Int) - 3).toNat = T.size - 3 by omega]
      refine ⟨step_free rfl (fun aF wF hs hb => ?_), ?_⟩
      · obtain ⟨x0, -⟩ := hs
        have e0 : aF.eval (.tmp 5) = .string T := x0
        exact opC_move e0 ⟨rfl, below_same wF⟩
      refine ⟨step_free rfl (fun aF wF hs hb => ?_), ?_⟩
      · obtain ⟨x0, -⟩ := hs
        have e0 : aF.eval (.tmp 5) = .string T := x0
        exact opC_move e0 ⟨rfl, below_same wF⟩
      refine ⟨step_free rfl (fun aF wF hs hb => ?_), ?_⟩
      · obtain ⟨x0, -⟩ := hs
        have e0 : aF.eval (.tmp 49) = .string T := x0
        refine opC_value (v := .int .i64 (T.size : Int)) ?_ ⟨rfl, below_same wF⟩
        have t0 := ev_of e0
        simp [execOp, go_sem, t0]
      refine ⟨step_free rfl (fun aF wF hs hb => ?_), ?_⟩
      · obtain ⟨x0, -⟩ := hs
        have e0 : aF.eval (.tmp 50) = .int .i64 (T.size : Int) := x0
        refine opC_value (v := .int .i64 ((T.size : Int) - 2)) ?_ ⟨rfl, below_same wF⟩
        have t0 := ev_of e0
        have hw := IntWalk.i64_in ((T.size : Int) - 2) (by omega)
        simp [execOp, go_sem, t0, hw]
      refine ⟨step_free rfl (fun aF wF hs hb => ?_), ?_⟩
      · obtain ⟨x0, x1, -⟩ := hs
        have e0 : aF.eval (.tmp 48) = .string T := x0
        have e1 : aF.eval (.tmp 51) = .int .i64 ((T.size : Int) - 2) := x1
        refine opC_value (v := .string (T.extract (T.size - 2) T.size)) ?_ ⟨rfl, below_same wF⟩
        have t0 := ev_of e0
        have t1 := ev_of e1
        go_simp
        rw [if_pos (by omega), show ((T.size : Int) - 2).toNat = T.size - 2 by omega]
      refine ⟨step_free rfl (fun aF wF hs hb => ?_), ?_⟩
      · obtain ⟨x0, x1, -⟩ := hs
        have e0 : aF.eval (.tmp 47) = .string (T.extract 0 (T.size - 3)) := x0
        have e1 : aF.eval (.tmp 52) = .string (T.extract (T.size - 2) T.size) := x1
        refine opC_value (v := .string (T.extract 0 (T.size - 3) ++ T.extract (T.size - 2) T.size)) ?_ ⟨rfl, below_same wF⟩
        have t0 := ev_of e0
        have t1 := ev_of e1
        simp [execOp, go_sem, t0, t1]
        omega
      refine ⟨step_free rfl (fun aF wF hs hb => ?_), ?_⟩
      · obtain ⟨x0, -⟩ := hs
        have e0 : aF.eval (.tmp 53) = .string (T.extract 0 (T.size - 3) ++ T.extract (T.size - 2) T.size) := x0
        exact opC_assign e0 ⟨rfl, below_same wF⟩
      exact trivial
    · intro f w5 hf hb5
      have h6 : f 11 = .string (T.extract 0 (T.size - 3) ++ T.extract (T.size - 2) T.size) := hf 11 6 rfl
      obtain ⟨D, hD⟩ : ∃ D, T.extract 0 (T.size - 3) ++ T.extract (T.size - 2) T.size = D := ⟨_, rfl⟩
      rw [hD] at h6 HD
      obtain ⟨l, hl9⟩ : ∃ l, dr (rsS S) = l := ⟨_, rfl⟩
      rw [hl9] at HD
      have HL9 := Lib.hid hl9
      have HB5 := Lib.hid hb5
      have hDs : D.size ≤ 50 := by
        have e : D.size = l.length := by rw [Lib.size_eq, HD.out]
        rw [e, ← hl9]
        unfold dr
        have := rs_len S
        rw [List.length_append, List.length_take, List.length_drop]
        omega
      have HDL : Hid (D.size = l.length) := Lib.hid (by rw [Lib.size_eq, HD.out])
      simp only [putF, Act.put, List.setIfInBounds_toArray, List.set_cons_zero, List.set_cons_succ]
      rw [h6]
      clear h6 hf hb5 hD hl9 hw7 hI0 hI3 hj3
      go_wp2_with fail
      go_loop [7, 8, 9] (LRel l D) (fun _ _ i => D.size - (intOf i).toNat)
      case atStart => exact ⟨0, Nat.zero_le _, rfl, rfl, rfl, fun b hb => by cases hb⟩
      case round =>
        obtain ⟨k, hk, hi9, hn9, ho9, hdk⟩ := hrel
        subst hi9
        obtain ⟨N, hN⟩ : ∃ N, (rI (l.take k)).1 = N := ⟨_, rfl⟩
        obtain ⟨V, hV⟩ : ∃ V, (rI (l.take k)).2 = V := ⟨_, rfl⟩
        rw [hN] at hn9
        rw [hV] at ho9
        subst hn9 ho9
        have HDK := Lib.hid hdk
        have hri := rI_is (l.take k) hdk
        rw [hN, hV] at hri
        have hN9 : N ≤ 9223372036854775809 := hri.2.2
        have HRI := Lib.hid hri
        have HNN := Lib.hid hN
        have HVV := Lib.hid hV
        clear hri hN hV hdk
        by_cases hlt : k < D.size
        · have hkl : k < l.length := by rw [← HDL.out]; exact hlt
          have hb9 : D[k]? = some l[k] := by rw [byte_at, HD.out, List.getElem?_eq_getElem hkl]
          have hI9 := fun W => idx_at D k l[k] hb9 (k : Int) rfl W
          have HSN := Lib.hid (List.take_succ_eq_append_getElem hkl)
          have HMB := Lib.hid (List.getElem_mem hkl)
          obtain ⟨b, hb⟩ : ∃ b, l[k] = b := ⟨_, rfl⟩
          rw [hb] at hI9 HSN HMB
          clear hb9 hb hkl
          have hbz : b.toNat < 256 := b.toNat_lt
          by_cases h1 : b.toNat < 48
          · have h1' : (b.toNat : Int) < 48 := by omega
            obtain ⟨e1, e2⟩ := bad_digit (S := S) (by rw [HL9.out]; exact HMB.out) (.inl h1)
            have HE1 := Lib.hid e1
            have HE2 := Lib.hid e2
            clear e1 e2
            go_wp2_with fail
            go_ret2
            exact ⟨by rw [HE1.out, HE2.out]; rfl, HB5.out⟩
          · by_cases h2 : 57 < b.toNat
            · have h1' : ¬ (b.toNat : Int) < 48 := by omega
              have h2' : (57 : Int) < (b.toNat : Int) := by omega
              obtain ⟨e1, e2⟩ := bad_digit (S := S) (by rw [HL9.out]; exact HMB.out) (.inr h2)
              have HE1 := Lib.hid e1
              have HE2 := Lib.hid e2
              clear e1 e2
              go_wp2_with fail
              go_ret2
              exact ⟨by rw [HE1.out, HE2.out]; rfl, HB5.out⟩
            · have h1' : ¬ (b.toNat : Int) < 48 := by omega
              have h2' : ¬ (57 : Int) < (b.toNat : Int) := by omega
              have HST := Lib.hid (step_rel l k N V b HSN.out HNN.out HVV.out HDK.out (by omega))
              by_cases h3 : 922337203685477580 < N
              · have h3' : (922337203685477580 : Int) < (N : Int) := by omega
                go_wp2_with fail
                go_round
                case rel => exact ⟨k + 1, by omega, by go_num, by rw [HST.out.2.1 (.inr h3)], by rw [HST.out.2.1 (.inr h3)], HST.out.1⟩
                case measure => simp [intOf]; omega
              · have h3' : ¬ (922337203685477580 : Int) < (N : Int) := by omega
                cases V
                · go_wp2_with fail
                  go_round
                  case rel => exact ⟨k + 1, by omega, by go_num, by rw [HST.out.2.2 rfl h3]; show Value.int IntKind.u64 _ = Value.int IntKind.u64 ((10 * N + (b.toNat - 48) : Nat) : Int); congr 1; omega, by rw [HST.out.2.2 rfl h3], HST.out.1⟩
                  case measure => simp [intOf]; omega
                · go_wp2_with fail
                  go_round
                  case rel => exact ⟨k + 1, by omega, by go_num, by rw [HST.out.2.1 (.inl rfl)], by rw [HST.out.2.1 (.inl rfl)], HST.out.1⟩
                  case measure => simp [intOf]; omega
        · obtain rfl : k = D.size := by omega
          have hT9 : l.take D.size = l := by rw [HDL.out]; exact List.take_length
          have hda := HDK.out
          have hri := HRI.out
          rw [hT9] at hda hri
          have hfm : fmS S = true := by
            unfold fmS
            rw [HOK.out, Bool.true_and, HL9.out]
            exact digB_iff.2 hda
          have hvl : valS S = valA 0 l := by unfold valS; rw [HL9.out]
          rw [← hvl] at hri
          clear hda hT9 HDK HRI HNN HVV hvl
          cases V
          · obtain ⟨hNv, hNm⟩ := hri.1 rfl
            have HNv := Lib.hid hNv
            clear hri hNv hNm
            by_cases hov : 9223372036854775808 < N
            · have hov' : (9223372036854775808 : Int) < (N : Int) := by omega
              have hod : decide ((9223372036854775808 : Int) < (N : Int)) = true := decide_eq_true hov'
              obtain ⟨e1, e2⟩ := end_over hfm (by unfold fitS; rw [HNG.out]; simp only [if_true]; rw [decide_eq_false_iff_not, ← HNv.out]; omega)
              have HE1 := Lib.hid e1
              have HE2 := Lib.hid e2
              clear e1 e2 hfm hov
              go_wp2_with fail
              go_ret2
              exact ⟨by rw [HE1.out, HE2.out]; rfl, HB5.out⟩
            · have hov' : ¬ (9223372036854775808 : Int) < (N : Int) := by omega
              have hod : decide ((9223372036854775808 : Int) < (N : Int)) = false := decide_eq_false hov'
              have HOV := Lib.hid hov
              have hfit : fitS S = true := by unfold fitS; rw [HNG.out]; simp only [if_true]; rw [decide_eq_true_eq, ← HNv.out]; omega
              clear hov' hov
              by_cases hz0 : N = 0
              · obtain ⟨e1, e2⟩ := end_zero hfm hfit HNG.out (by rw [← HNv.out]; exact hz0)
                have HE1 := Lib.hid e1
                have HE2 := Lib.hid e2
                clear e1 e2 hfm hfit
                have hzd : ((N : Int) == 0) = true := by rw [hz0]; rfl
                have HZ0 := Lib.hid hz0
                clear hz0
                go_wp2_with fail
                go_ret2
                exact ⟨by rw [HE1.out, HE2.out]; rfl, HB5.out⟩
              · obtain ⟨e1, e2⟩ := end_val hfm hfit (fun h => hz0 (by rw [HNv.out]; exact h.2))
                rw [HNG.out] at e2
                simp only [if_true] at e2
                rw [← HNv.out] at e2
                have HE1 := Lib.hid e1
                have HE2 := Lib.hid e2
                have hNs : (N : Int) ≤ 9223372036854775808 := by have := HOV.out; omega
                have hN1 : (1 : Int) ≤ (N : Int) := by omega
                have hN0 : 1 ≤ N := by omega
                have hzd : ((N : Int) == 0) = false := by rw [beq_eq_false_iff_ne]; omega
                clear e1 e2 hfm hfit hz0
                go_wp2_with fail
                go_ret2
                exact ⟨by rw [HE1.out, HE2.out]; show Ending.returned (.tuple #[.int .i64 (-((N : Int) - 1) - 1), .int .i64 0]) = _; rw [show -((N : Int) - 1) - 1 = -(N : Int) by omega], HB5.out⟩
          · have hbig := hri.2.1 rfl
            obtain ⟨e1, e2⟩ := end_over hfm (by unfold fitS; split <;> (rw [decide_eq_false_iff_not]; omega))
            have HE1 := Lib.hid e1
            have HE2 := Lib.hid e2
            clear e1 e2 hfm hri hbig
            go_wp2_with fail
            go_ret2
            exact ⟨by rw [HE1.out, HE2.out]; rfl, HB5.out⟩
end Go.Proofs.YtijkcolkedeibaaDoor
