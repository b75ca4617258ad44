/-
ReelTurns, walked. Conditions: the lists are there.
-/
import Derived.Test.YtbaenpgjggojaaaRlSnM
namespace Go.Proofs.Ytbaenpgjggojaaa
open Go.ChangeShapes Go.WideShapes Go.RowKit

section
variable {w : World} {N n1 c1 n2 c2 : Nat} {A1 A2 : Option Addr} {rs1 rs2 : List Rw}
theorem half_big (S : Nat) (h : 30 ≤ S) (h2 : S ≤ 49) : 14 ≤ halfN S ∧ halfN S ≤ 24 := by unfold halfN; omega
set_option maxRecDepth 100000 in
set_option maxHeartbeats 8000000 in
theorem RTurns_any (hl1 : rs1.length = n1) (hc1 : n1 ≤ maxLen) (hC1 : Cs w w.heap.size A1 (rs1.map Rw.val)) (hI1 : RwsIn w w.heap.size rs1) (hl2 : rs2.length = n2) (hc2 : n2 ≤ maxLen) (hC2 : Cs w w.heap.size A2 (rs2.map Rw.val)) (hI2 : RwsIn w w.heap.size rs2) :
    Calls Try.prog 5 #[.int .u8 (N : Int), .slice A1 n1 c1, .slice A2 n2 c2] w fun e w' => e = .returned (.bool true) ∧ Below w.heap.size w w' := by
  have cA := awake15 w
  obtain ⟨S, hS⟩ : ∃ S, 30 + N % 20 = S := ⟨_, rfl⟩
  have hS2 : 30 ≤ S ∧ S ≤ 49 := by omega
  have hSi : (30 : Int) + (N : Int) % 20 = (S : Int) := by omega
  have hnb1 : (n1 : Int) ≤ 9223372036854775807 := by unfold maxLen at hc1; omega
  have hnb2 : (n2 : Int) ≤ 9223372036854775807 := by unfold maxLen at hc2; omega
  have HL1 := Lib.hid (And.intro hl1 (And.intro hC1 hI1))
  have HL2 := Lib.hid (And.intro hl2 (And.intro hC2 hI2))
  have HS := Lib.hid (And.intro hS2 (half_big S hS2.1 hS2.2))
  clear hl1 hc1 hC1 hI1 hl2 hc2 hC2 hI2 hS hS2
  go_enter Try.func5, Try.ntmps5
  go_wp2_with fail
  refine cA.mono ?_
  rintro e w1 ⟨rfl, hb1⟩
  have HB1 := Lib.hid hb1
  have cN := New_dr S (by have := HS.out; omega) (by have := HS.out; omega) w1
  clear cA hb1
  go_wp2_with fail
  refine cN.mono ?_
  rintro e w2 ⟨d, o2, rfl, hd2, hb2⟩
  have hlen : (List.replicate S zeros).length = S := List.length_replicate
  have cM := make_sg (base := w1.heap.size) (o := o2) (b := []) (m := 0) (q := 0) (A := none) (av := fun _ => False) hd2 hb2.size (by rw [hlen]; have := HS.out; omega) (by rw [hlen]; have := HS.out; omega) (by decide) (rdq_nil _ _ _) (fun i hi _ => hi) rfl (Nat.le_refl _) (by decide) (by
    rw [hlen]
    unfold fitsN
    rw [if_neg (by decide), if_neg (by rw [pages_small 0 (by decide)]; have := HS.out; omega)])
  have hge := hd2.ge
  have HB2 := Lib.hid (And.intro (HB1.out.trans (hb2.mono HB1.out.size)) (And.intro hge hlen))
  clear cN hd2 hb2 hlen hge
  go_wp2_with fail
  refine cM.mono ?_
  rintro e w3 ⟨r, own3, fl3, rfl, hr3, hl3, sg3, ks3⟩
  have hb3 : Below w.heap.size w w3 := kept_below ks3.1 HB2.out.1 HB2.out.1.size (fun i hi => Nat.le_trans HB1.out.size (HB2.out.2.1 i hi))
  have H3 := Lib.hid (And.intro sg3 (And.intro (hl3.trans HB2.out.2.2) hb3))
  clear cM hr3 hl3 sg3 ks3 hb3
  go_wp2_with fail
  go_loopw [6, 11, 12, 13, 14, 15, 16, 36] (fun _ _ _ _ _ _ _ i wr => ∃ k : Nat, k ≤ n1 ∧ k ≤ 8 ∧ i = .int .i64 (k : Int) ∧ ∃ own fl Ls, Sg wr w1.heap.size d r (k + 1) own fl [] Ls ∧ fl.length = S ∧ Ls.length = 1 ∧ usedN Ls = 1 ∧ Below w.heap.size w wr) (fun _ _ _ _ _ _ _ i _ => 9 - (intOf i).toNat)
  case atStart => exact ⟨0, Nat.zero_le _, by omega, rfl, own3, fl3, [[]], H3.out.1, H3.out.2.1, rfl, rfl, H3.out.2.2⟩
  case round =>
    obtain ⟨k, hk, hk8, rfl, own, fl, Ls, sg, hfl, hLs, hus, hbw⟩ := hrel
    have hkb : (k : Int) ≤ 8 := by omega
    by_cases hlt : k < n1
    · have hlt2 : (k : Int) < (n1 : Int) := by omega
      by_cases h8 : k < 8
      · have h82 : ¬ (8 : Int) ≤ (k : Int) := by omega
        obtain ⟨bp, qp, hAp, hbq, hcp⟩ := (HL1.out.2.1.below hbw).at_ (k := k) (by rw [List.length_map, HL1.out.1]; exact hlt)
        rw [List.getElem_map] at hcp
        obtain ⟨p, hp⟩ : ∃ p, rs1[k]'(by rw [HL1.out.1]; exact hlt) = p := ⟨_, rfl⟩
        obtain ⟨hpl, hpm, hpr⟩ := HL1.out.2.2 p (by rw [← hp]; exact List.getElem_mem _)
        rw [hp] at hcp
        have hcp : wr.cell? ⟨bp, qp + k, none⟩ = some (.slice p.A p.l.length p.c) := hcp
        subst hAp
        have HP := Lib.hid (And.intro hpl (And.intro hpm hpr))
        have HG := Lib.hid (And.intro sg (And.intro hfl (And.intro hLs (And.intro hus hbw))))
        clear sg hfl hLs hus hbw hlt h8 hp hpl hpm hpr
        go_wp2_with fail
        go_loopw [13, 14, 45] (fun _ _ j wj => ∃ jn : Nat, jn ≤ n2 ∧ j = .int .i64 (jn : Int) ∧ ∃ own ws Ls, Sg wj w1.heap.size d r (k + 1) own fl ws Ls ∧ Ls.length ≤ 1 + min jn 4 ∧ usedN Ls ≤ 1 + min jn 4 ∧ ws.length ≤ min jn 4 ∧ Below w.heap.size w wj) (fun _ _ j _ => n2 - (intOf j).toNat)
        case atStart => exact ⟨0, Nat.zero_le _, rfl, own, [], Ls, HG.out.1, by rw [HG.out.2.2.1]; omega, by rw [HG.out.2.2.2.1]; omega, by simp, HG.out.2.2.2.2⟩
        case round =>
          obtain ⟨jn, hjn, rfl, own2, ws2, Ls2, sg2, hLs2, hus2, hws2, hbw2⟩ := hrel
          have hjb : (jn : Int) ≤ 9223372036854775807 := by omega
          by_cases hlj : jn < n2
          · have hlj2 : (jn : Int) < (n2 : Int) := by omega
            obtain ⟨bq, qq, hAq, hbq2, hcq⟩ := (HL2.out.2.1.below hbw2).at_ (k := jn) (by rw [List.length_map, HL2.out.1]; exact hlj)
            rw [List.getElem_map] at hcq
            obtain ⟨y, hy⟩ : ∃ p, rs2[jn]'(by rw [HL2.out.1]; exact hlj) = p := ⟨_, rfl⟩
            obtain ⟨hyl, hym, hyr⟩ := HL2.out.2.2 y (by rw [← hy]; exact List.getElem_mem _)
            rw [hy] at hcq
            have hcq : World.cell? _ ⟨bq, qq + jn, none⟩ = some (.slice y.A y.l.length y.c) := hcq
            subst hAq
            by_cases h4 : jn < 4
            · have h42 : (jn : Int) < 4 := by omega
              have cC := CutW_any y.A y.l.length y.c w.heap.size 200 y.l _ (hyr.below hbw2) rfl (by unfold maxLen at hym; omega) (by decide) hbw2.size
              have HJ := Lib.hid (And.intro sg2 (And.intro hLs2 (And.intro hus2 (And.intro hws2 hbw2))))
              clear sg2 hLs2 hus2 hws2 hbw2 hlj h4 hy hyl hym hyr
              go_wp2_with fail
              refine cC.mono ?_
              rintro e w5 ⟨v, rfl, hov, hb5⟩
              obtain ⟨-, A5, c5, rfl, hc5, hm5, -⟩ := own_form hov
              have hl5 : (y.l.take 200).length ≤ 200 := by rw [List.length_take]; omega
              obtain ⟨P, hP⟩ : ∃ P, y.l.take 200 = P := ⟨_, rfl⟩
              rw [hP] at hov hc5 hl5 ⊢
              have sg5 := HJ.out.1.below hb5
              have hlt5 := fun i hi => World.ownsRow.lt hov i hi
              have hnl := HS.out.2
              have hfl := HG.out.2.1
              have cAp := sg5.append (by have := HJ.out.2.1; omega) (by have := HJ.out.2.2.2.1; omega) (RdQ.of_own hov) (fun i hi h => by have := (hlt5 i hi).1; have := HJ.out.1.rl.lt i h; omega) rfl hc5 (by omega) (by
                rw [hfl]
                unfold fitsN
                have := HJ.out.2.2.1
                rw [if_neg (by omega), if_neg (by rw [pages_small _ (by omega)]; omega)])
              have H5 := Lib.hid (And.intro hb5 hl5)
              clear cC hov hb5 hc5 hm5 hl5 hP sg5 hlt5 hnl hfl
              go_wp2_with fail
              refine cAp.mono ?_
              rintro e w6 ⟨rfl, own6, sg6, ks6⟩
              have hge6 := HJ.out.1.rl.ge HJ.out.1.far
              have hb56 := HJ.out.2.2.2.2.trans (H5.out.1.mono HJ.out.2.2.2.2.size)
              have hb6 : Below w.heap.size w w6 := kept_below ks6.1 hb56 hb56.size (fun i hi => Nat.le_trans HB1.out.size (hge6 i hi))
              have H6 := Lib.hid (And.intro sg6 hb6)
              clear cAp sg6 ks6 hge6 hb56 hb6
              go_wp2_with fail
              go_roundw
              case rel => exact ⟨jn + 1, by omega, congrArg (Value.int .i64) (by omega), own6, _, _, H6.out.1, by rw [List.length_append, List.length_singleton]; have := HJ.out.2.1; omega, by rw [usedN_snoc, pages_small _ (by have := H5.out.2; omega)]; have := HJ.out.2.2.1; omega, by rw [addW_len, pages_small _ (by have := H5.out.2; omega)]; have := HJ.out.2.2.2.1; omega, H6.out.2⟩
              case measure => simp [intOf]; omega
            · have h42 : ¬ (jn : Int) < 4 := by omega
              have HJ := Lib.hid (And.intro sg2 (And.intro hLs2 (And.intro hus2 (And.intro hws2 hbw2))))
              have HJ4 := Lib.hid h4
              clear sg2 hLs2 hus2 hws2 hbw2 hlj h4 hy hyl hym hyr
              go_wp2_with fail
              go_roundw
              case rel => exact ⟨jn + 1, by omega, congrArg (Value.int .i64) (by omega), own2, ws2, Ls2, HJ.out.1, by have := HJ.out.2.1; have := HJ4.out; omega, by have := HJ.out.2.2.1; have := HJ4.out; omega, by have := HJ.out.2.2.2.1; have := HJ4.out; omega, HJ.out.2.2.2.2⟩
              case measure => simp [intOf]; omega
          · have hlj2 : ¬ (jn : Int) < (n2 : Int) := by omega
            have cC := CutW_any p.A p.l.length p.c w.heap.size 200 p.l _ (HP.out.2.2.below hbw2) rfl (by have := HP.out; unfold maxLen at this; omega) (by decide) hbw2.size
            have HJ := Lib.hid (And.intro sg2 (And.intro hLs2 (And.intro hus2 (And.intro hws2 hbw2))))
            clear sg2 hLs2 hus2 hws2 hbw2 hlj
            go_wp2_with fail
            refine cC.mono ?_
            rintro e w5 ⟨v, rfl, hov, hb5⟩
            obtain ⟨-, A5, c5, rfl, hc5, hm5, -⟩ := own_form hov
            have hl5 : (p.l.take 200).length ≤ 200 := by rw [List.length_take]; omega
            obtain ⟨P, hP⟩ : ∃ P, p.l.take 200 = P := ⟨_, rfl⟩
            rw [hP] at hov hc5 hl5 ⊢
            have sg5 := HJ.out.1.below hb5
            have hlt5 := fun i hi => World.ownsRow.lt hov i hi
            have hnl := HS.out.2
            have hfl := HG.out.2.1
            have hFP : fitsN P.length ((halfN S : Nat) : Int) = 0 := by
              unfold fitsN
              rw [if_neg (by omega), if_neg (by rw [pages_small _ (by omega)]; omega)]
            have cT := sg5.turn (by omega) (by have := HJ.out.2.2.2.1; omega) (RdQ.of_own hov) (fun i hi h => by have := (hlt5 i hi).1; have := HJ.out.1.rl.lt i h; omega) rfl hc5 (by omega) (by rw [hfl]; exact hFP)
            have H5 := Lib.hid (And.intro hb5 (And.intro hl5 (And.intro hov (And.intro hc5 (And.intro hm5 hlt5)))))
            clear cC hov hb5 hc5 hm5 hl5 hP sg5 hlt5 hnl hfl hFP
            go_wp2_with fail
            refine cT.mono ?_
            rintro e w6 ⟨rfl, own6, fl6, hl6, sg6, ks6⟩
            have hge6 := HJ.out.1.rl.ge HJ.out.1.far
            have hb56 := HJ.out.2.2.2.2.trans (H5.out.1.mono HJ.out.2.2.2.2.size)
            have hb6 : Below w.heap.size w w6 := kept_below ks6.1 hb56 hb56.size (fun i hi => Nat.le_trans HB1.out.size (hge6 i hi))
            have hov6 : OwnB w6 _ (.slice A5 P.length c5) P.length P := ownB_kept H5.out.2.2.1 ks6.1 (fun i hi h => by have := (H5.out.2.2.2.2.2 i hi).1; have := HJ.out.1.rl.lt i h; omega)
            have hrd6 := Rd.of_own hov6
            have cG := sg6.gen
            have cR := sg6.records
            have H6 := Lib.hid (And.intro sg6 (And.intro hl6 (And.intro hb6 hrd6)))
            have hgi : (((k + 1 + 1 : Nat) : Int) != (k : Int) + 2) = false := by rw [bne_eq_false_iff_eq]; omega
            obtain ⟨G, hG⟩ : ∃ G, k + 1 + 1 = G := ⟨_, rfl⟩
            rw [hG] at cG hgi
            have hGb : (G : Int) ≤ 10 := by omega
            have HGG := Lib.hid hG
            clear cT hge6 hb56 hb6 hov6 hrd6 sg6 hl6 ks6 hG
            go_wp2_with fail
            refine cG.mono ?_
            rintro e w6' ⟨rfl, hw6⟩
            subst hw6
            clear cG
            go_wp2_with fail
            refine cR.mono ?_
            rintro e w7 ⟨q7, vs7, rfl, -, hrec7, hb7⟩
            obtain ⟨rs7, hL7, hls7⟩ := recs_lst hrec7 (by simp)
            have hR7 := (H6.out.2.2.2.below hb7).more hb7.size
            have hL8 := lst_one w7 A5 c5 P H5.out.2.2.2.1 H5.out.2.2.2.2.1 hR7
            have hb8 : Below w7.heap.size w7 (w7.alloc (.cells #[.slice A5 P.length c5] 35)) := (Below.refl _ _).alloc (Nat.le_refl _) _
            have H7 := Lib.hid (And.intro hb7 (And.intro (hL7.below hb8) (And.intro hL8 (And.intro hls7 hb8))))
            rw [show ([P] : List (List UInt8)).length = 1 from rfl]
            clear cR hrec7 hb7 hL7 hls7 hR7 hL8 hb8
            go_wp2_with fail
            obtain ⟨w8, hw8⟩ : ∃ W, w7.alloc (.cells #[.slice A5 P.length c5] 35) = W := ⟨_, rfl⟩
            rw [hw8] at H7 ⊢
            clear hw8
            have hPs : P.length ≤ 1000000 := by have := H5.out.2.1; omega
            have hsm : ∀ (rs : List Rw), lsOf rs = [P] → ∀ r ∈ rs, r.l.length ≤ 1000000 := fun rs h r hr => by
              have : r.l ∈ lsOf rs := List.mem_map_of_mem hr
              rw [h, List.mem_singleton] at this
              rw [this]; exact hPs
            have cS := RSame_any H7.out.2.1 H7.out.2.2.1 (by simp) (by decide) (hsm _ H7.out.2.2.2.1) (hsm _ rfl)
            rw [decide_eq_true (H7.out.2.2.2.1.trans (lsOf_one A5 c5 P).symm)] at cS
            have HSM := Lib.hid hsm
            clear hsm hPs
            refine cS.mono ?_
            rintro e w9 ⟨rfl, hb9⟩
            have hb69 : Below w6'.heap.size w6' w9 := H7.out.1.trans ((H7.out.2.2.2.2.mono H7.out.1.size).trans (hb9.mono (Nat.le_trans H7.out.1.size H7.out.2.2.2.2.size)))
            have sg9 := H6.out.1.below hb69
            obtain ⟨o9, hd9, -⟩ := sg9.dr
            have cF := good_flushed hd9 sg9.good
            have H9 := Lib.hid (And.intro hb69 sg9)
            clear cS hb9 hb69 sg9 hd9
            go_wp2_with fail
            refine cF.mono ?_
            rintro e wA ⟨dA, oA, rfl, hdA, hGA, hbA⟩
            have cO := open_sg hdA hbA.size hGA (by rw [H6.out.2.1, HG.out.2.1]; have := HS.out; omega) (by simp) (by simp)
            have hgeA := hdA.ge
            have HA := Lib.hid (And.intro hbA hgeA)
            clear cF hdA hGA hbA hgeA
            go_wp2_with fail
            refine cO.mono ?_
            rintro e wB ⟨rB, ownB, flB, wsB, rfl, hrB, hlB, hwB, sgB, ksB⟩
            have hbB : Below w9.heap.size w9 wB := kept_below ksB.1 HA.out.1 HA.out.1.size HA.out.2
            have hb6B : Below w6'.heap.size w6' wB := H9.out.1.trans (hbB.mono H9.out.1.size)
            have sgR := H6.out.1.below hb6B
            have HBB := Lib.hid (And.intro hb6B (And.intro sgB (And.intro sgR (hlB.trans (H6.out.2.1.trans HG.out.2.1)))))
            have cG1 := sgB.gen
            have cG2 := sgR.gen
            have cR := sgB.records
            rw [HGG.out] at cG1 cG2
            have hgg : ((G : Int) != (G : Int)) = false := by simp
            clear cO hrB hlB hwB sgB ksB hbB hb6B sgR
            go_wp2_with fail
            refine cG1.mono ?_
            rintro e wC ⟨rfl, hwC⟩
            subst hwC
            clear cG1
            go_wp2_with fail
            refine cG2.mono ?_
            rintro e wD ⟨rfl, hwD⟩
            subst hwD
            clear cG2
            go_wp2_with fail
            refine cR.mono ?_
            rintro e wE ⟨qE, vsE, rfl, -, hrecE, hbE⟩
            obtain ⟨rsE, hLE, hlsE⟩ := recs_lst hrecE (by simp)
            have hb6E := HBB.out.1.trans (hbE.mono HBB.out.1.size)
            have hRE := (H6.out.2.2.2.below hb6E).more hb6E.size
            have hLF := lst_one wE A5 c5 P H5.out.2.2.2.1 H5.out.2.2.2.2.1 hRE
            have hbF : Below wE.heap.size wE (wE.alloc (.cells #[.slice A5 P.length c5] 35)) := (Below.refl _ _).alloc (Nat.le_refl _) _
            have HE := Lib.hid (And.intro hbE (And.intro (hLE.below hbF) (And.intro hLF (And.intro hlsE (And.intro hbF hb6E)))))
            rw [show ([P] : List (List UInt8)).length = 1 from rfl]
            clear cR hrecE hbE hLE hlsE hRE hLF hbF hb6E
            go_wp2_with fail
            obtain ⟨wF, hwF⟩ : ∃ W, wE.alloc (.cells #[.slice A5 P.length c5] 35) = W := ⟨_, rfl⟩
            rw [hwF] at HE ⊢
            clear hwF
            have cS := RSame_any HE.out.2.1 HE.out.2.2.1 (by simp) (by decide) (HSM.out _ HE.out.2.2.2.1) (HSM.out _ rfl)
            rw [decide_eq_true (HE.out.2.2.2.1.trans (lsOf_one A5 c5 P).symm)] at cS
            refine cS.mono ?_
            rintro e wG ⟨rfl, hbG⟩
            have hbEG := HE.out.2.2.2.2.1.trans (hbG.mono HE.out.2.2.2.2.1.size)
            have hb6G := HE.out.2.2.2.2.2.trans (hbEG.mono HE.out.2.2.2.2.2.size)
            have hbBG := HE.out.1.trans (hbEG.mono HE.out.1.size)
            have cM1 := (HBB.out.2.1.below hbBG).room
            have cM2 := fun n => (H6.out.1.below (below_drewN hb6G n)).room
            obtain ⟨M, hM⟩ : ∃ M, ((halfN S : Nat) : Int) - ((usedN [P] : Nat) : Int) = M := ⟨_, rfl⟩
            rw [HBB.out.2.2.2, hM] at cM1
            simp only [H6.out.2.1.trans HG.out.2.1, hM] at cM2
            have hMM : (M != M) = false := by simp
            have HGF := Lib.hid hb6G
            clear cS hbG hbEG hb6G hbBG hM
            go_wp2_with fail
            refine cM1.mono ?_
            rintro e wH ⟨rfl, nH, rfl⟩
            have cM3 := cM2 nH
            clear cM1 cM2
            go_wp2_with fail
            refine cM3.mono ?_
            rintro e wI ⟨rfl, nI, rfl⟩
            clear cM3
            have hb6I := below_drewN (below_drewN HGF.out nH) nI
            obtain ⟨wJ, hwJ⟩ : ∃ W, (wG.drewN nH).drewN nI = W := ⟨_, rfl⟩
            rw [hwJ] at hb6I ⊢
            have HI := Lib.hid (And.intro (H6.out.1.below hb6I) (H6.out.2.2.1.trans (hb6I.mono H6.out.2.2.1.size)))
            clear hwJ hb6I
            go_wp2_with fail
            go_roundw
            case rel => exact ⟨k + 1, by omega, by omega, congrArg (Value.int .i64) (by omega), own6, fl6, [P], by rw [HGG.out]; have h := HI.out.1; rw [HGG.out] at h; exact h, H6.out.2.1.trans HG.out.2.1, rfl, by rw [show usedN [P] = pagesN P.length from by unfold usedN; simp]; exact pages_small _ (by have := H5.out.2.1; omega), HI.out.2⟩
            case measure => simp [intOf]; omega
      · have h82 : (8 : Int) ≤ (k : Int) := by omega
        obtain ⟨bp, qp, hAp, hbq, hcp⟩ := (HL1.out.2.1.below hbw).at_ (k := k) (by rw [List.length_map, HL1.out.1]; exact hlt)
        rw [List.getElem_map] at hcp
        obtain ⟨p, hp⟩ : ∃ p, rs1[k]'(by rw [HL1.out.1]; exact hlt) = p := ⟨_, rfl⟩
        rw [hp] at hcp
        have hcp : wr.cell? ⟨bp, qp + k, none⟩ = some (.slice p.A p.l.length p.c) := hcp
        subst hAp
        have HG := Lib.hid hbw
        clear sg hfl hLs hus hbw hlt h8 hp
        go_wp2_with fail
        go_ret
        exact ⟨rfl, HG.out⟩
    · have hlt2 : ¬ (k : Int) < (n1 : Int) := by omega
      have HG := Lib.hid hbw
      clear sg hfl hLs hus hbw hlt
      go_wp2_with fail
      go_ret
      exact ⟨rfl, HG.out⟩
end
end Go.Proofs.Ytbaenpgjggojaaa
