/-
LedgerKeeps walked. Conditions: the acts are there; errors.errorType is laid.
-/
import Derived.Test.YtdnnkdldolhbpaaGreatDoorKeAX9
namespace Go.Proofs.YtdnnkdldolhbpaaGreatDoor
open Go.ChangeShapes Go.WideShapes Go.ChangeAt Go.RowKit Go.Maps
theorem line_at {M : List Li} {k : Nat} (h : k < M.length) : (if (k : Int) < 0 then none else M[(k : Int).toNat]?) = some M[k] := by
  rw [if_neg (by omega), Int.toNat_natCast, List.getElem?_eq_getElem h]
set_option maxRecDepth 100000 in
set_option maxHeartbeats 16000000 in
theorem law_keeps (A : Option Addr) (c : Nat) (l : List ActV) (A2 : Option Addr) (c2 : Nat) (l2 : List ActV) (w : World) (hR : Rs actT w w.heap.size A l) (hI : ∀ u ∈ l, u.In w) (hR2 : Rs actT w w.heap.size A2 l2) (hI2 : ∀ u ∈ l2, u.In w) (hgl : Laid w) (hm : l.length ≤ maxLen) (hm2 : l2.length ≤ maxLen) :
    Calls Tryz.prog 3 #[.slice A l.length c, .slice A2 l2.length c2] w (Ret (.bool true) w) := by
  have HA := Lib.hid (awake14 w)
  go_enter Tryz.func3, Tryz.ntmps3
  go_wp2_with fail
  refine HA.out.mono ?_
  rintro e w1 ⟨rfl, hb1⟩
  have HN := Lib.hid (New_any w1)
  have HB1 := Lib.hid hb1
  clear hb1 HA
  go_wp2_with fail
  refine HN.out.mono ?_
  rintro e w2 ⟨rfl, hled, hb2⟩
  have HX2 := Lib.hid (Blk.new w2 29 #[.slice none 0 0])
  have hba := b_alloc w2 (.cells #[.slice none 0 0] 29)
  have HL2 := Lib.hid (hled.below hba)
  have hb03 : Below w.heap.size w (w2.alloc (.cells #[.slice none 0 0] 29)) := HB1.out.trans ((hb2.trans (hba.mono hb2.size)).mono HB1.out.size)
  have HB3 := Lib.hid hb03
  have hq1 : w.heap.size ≤ w1.heap.size := HB1.out.size
  have hX1 : w1.heap.size < w2.heap.size := hled.lt _ rfl
  have HS3 := Lib.hid (show (w2.alloc (.cells #[.slice none 0 0] 29)).heap.size = w2.heap.size + 1 by simp)
  obtain ⟨W3, hW3⟩ : ∃ W, w2.alloc (.cells #[.slice none 0 0] 29) = W := ⟨_, rfl⟩
  rw [hW3] at HX2 HL2 HB3 HS3
  have HW3 := Lib.hid hW3
  clear hled hb2 hba hb03 hW3 HN
  obtain ⟨q, hq⟩ : ∃ q, w1.heap.size = q := ⟨_, rfl⟩
  rw [hq] at HL2 hq1 hX1
  rw [hq]
  obtain ⟨X, hX⟩ : ∃ X, w2.heap.size = X := ⟨_, rfl⟩
  rw [hX] at HX2 hX1
  have HBo : Hid (Both W3 q X w.heap.size 0 [] (fun i => i = q)) := Lib.hid ⟨HL2.out, ⟨fun i => i = X, RefL.new HX2.out, fun i hi hx => by omega⟩, (fun x hx => by cases hx), (fun i hi => by omega), Nat.le_refl _⟩
  clear hq
  go_upto_region 4 with (fail)
  rw [HW3.out]
  clear hX HW3 HX2 HL2
  have HRA := Lib.hid hR
  have HIA := Lib.hid hI
  have HRA2 := Lib.hid hR2
  have HIA2 := Lib.hid hI2
  have HGL := Lib.hid hgl
  have hg0 := hgl.lt
  clear hR hI hR2 hI2 hgl
  unfold maxLen at hm hm2
  go_wp2_with fail
  go_loopw [7, 8, 33] (fun _ _ i wr => ∃ (k : Nat) (M : List Li) (D : Nat → Prop), k ≤ l.length ∧ i = .int .i64 k ∧ Hid (Both wr q X w.heap.size (min k 12) M D) ∧ Hid (Below w.heap.size w wr) ∧ Hid (Cnt M)) (fun _ _ i _ => l.length - (intOf i).toNat)
  case atStart => exact ⟨0, [], fun i => i = q, Nat.zero_le _, rfl, Lib.hid (by simpa using HBo.out), HB3, Lib.hid Cnt.nil⟩
  case round =>
    obtain ⟨k, M, D, hk, rfl, HBM, HBL, HCN⟩ := hrel
    by_cases hlt : k < l.length
    · obtain ⟨b, o, rfl, hb, hcell⟩ := HRA.out.at_ hlt
      have hin := HIA.out _ (List.getElem_mem hlt)
      generalize l[k] = v at *
      obtain ⟨dd, z, P, ll, cl, raw, bk⟩ := v
      have hbw : Below w.heap.size w wr := HBL.out
      have hc2 : ∀ (i : Nat) x, (actCs ⟨dd, z, P, ll, cl, raw, bk⟩)[i]? = some x → wr.cell? ⟨b, o + (k * 8 + i), none⟩ = some x := fun i x hx => (hbw.cell (p := ⟨b, o + (k * 8 + i), none⟩) hb).trans (hcell i x hx)
      have d0 := hc2 0 _ rfl
      have d1 := hc2 1 _ rfl
      have d2 := hc2 2 _ rfl
      have d3 := hc2 3 _ rfl
      have d4 := hc2 4 _ rfl
      have d5 := hc2 5 _ rfl
      have d6 := hc2 6 _ rfl
      have d7 := hc2 7 _ rfl
      simp only [Nat.add_zero, ← Nat.add_assoc] at d0 d1 d2 d3 d4 d5 d6 d7
      obtain ⟨Z, hZ⟩ : ∃ Z : Array Value, Z = #[.int .u8 (dd : Int), .int .u32 (z.a : Int), .int .i32 z.d, .int .u8 (z.k : Int), .int .u32 (z.s : Int), .slice P ll.length cl, .bool raw, .int .u8 (bk : Int)] := ⟨_, rfl⟩
      have HN := Lib.hid (Blk.new wr 36 Z)
      have hba := b_alloc wr (.cells Z 36)
      have hB4 := HBM.out.below hba
      have hbl4 := HBL.out.trans (hba.mono HBL.out.size)
      have hgl4 : Laid (wr.alloc (.cells Z 36)) := HGL.out.chg (Chg.of_below (D := fun _ => False) (hbw.trans (hba.mono hbw.size))) (fun h => h)
      have hin4 := hbw.trans (hba.mono hbw.size)
      obtain ⟨W4, hW4⟩ : ∃ W, wr.alloc (.cells Z 36) = W := ⟨_, rfl⟩
      rw [hW4] at HN hB4 hbl4 hgl4 hin4
      have HBM4 := Lib.hid hB4
      have HBL4 := Lib.hid hbl4
      have HGL4 := Lib.hid hgl4
      have HIN4 := Lib.hid hin4
      have HIN := Lib.hid hin
      have HW4 := Lib.hid hW4
      clear hcell hc2 hba hB4 hbl4 hgl4 hin4 hW4 hbw hin
      subst hZ
      go_upto_region 7 with (fail)
      rw [HW4.out]
      clear d0 d1 d2 d3 d4 d5 d6 d7 HW4
      have n0 := HN.out.cell 0
      have n1 := HN.out.cell 1
      have n2 := HN.out.cell 2
      have n3 := HN.out.cell 3
      have n4 := HN.out.cell 4
      have n5 := HN.out.cell 5
      have n6 := HN.out.cell 6
      have n7 := HN.out.cell 7
      simp at n0 n1 n2 n3 n4 n5 n6 n7
      by_cases hk10 : k < 12
      · have hD := Do_any q X D (HBM4.out.ref.choose) M z HIN.out.y dd bk HIN.out.dd HIN.out.bk raw P ll.length cl ll W4 HBM4.out.led HBM4.out.ref.choose_spec.1 HBM4.out.ref.choose_spec.2 (by have := HBM4.out.few; omega) HBM4.out.low ((HIN.out.r.below HIN4.out).up HIN4.out.size) rfl HIN.out.c.1 HIN.out.c.2 HIN.out.l HGL4.out (fun h => by
          have := HBM4.out.off _ h
          omega)
        unfold actC at hD
        have HD := Lib.hid hD
        clear hD
        go_wp2_with fail
        refine HD.out.mono ?_
        intro e w5 hd
        obtain ⟨M5, D5, hB5, hb5, hgo⟩ := HBM4.out.step hd HBL4.out.size
        obtain ⟨rfl, _⟩ := hd
        have HB5 : Hid (Both w5 q X w.heap.size (min (k + 1) 12) M5 D5) := Lib.hid (by
          rw [show min (k + 1) 12 = min k 12 + 1 by omega]
          exact hB5)
        have HBL5 := Lib.hid (HBL4.out.trans hb5)
        have HCN5 := Lib.hid (cnt_of HCN.out hgo)
        clear hB5 hb5 hgo n0 n1 n2 n3 n4 n5 n6 n7
        go_wp2_with fail
        go_roundw
        case rel => exact ⟨k + 1, M5, D5, by omega, by go_num, HB5, HBL5, HCN5⟩
        case measure => simp [intOf]; omega
      · have HB5 : Hid (Both W4 q X w.heap.size (min (k + 1) 12) M D) := Lib.hid (by
          rw [show min (k + 1) 12 = min k 12 by omega]
          exact HBM4.out)
        go_wp2_with fail
        go_roundw
        case rel => exact ⟨k + 1, M, D, by omega, by go_num, HB5, HBL4, HCN⟩
        case measure => simp [intOf]; omega
    · clear HRA HIA
      have hM12 : M.length ≤ 12 := Nat.le_trans HBM.out.few (Nat.min_le_right _ _)
      have HCp := Lib.hid (Copy_any q D M wr HBM.out.led (by omega))
      go_wp2_with fail
      refine HCp.out.mono ?_
      rintro e w3 ⟨cc, Dc, rfl, hlc, hdc, hbc⟩
      have HBM3 : Hid (Both w3 q X w.heap.size (12 + min 0 12) M D) := Lib.hid (by
        have h := HBM.out.below hbc
        exact ⟨h.led, h.ref, h.low, h.off, by omega⟩)
      have HWS := Lib.hid (show Was w3 cc X Dc D M from ⟨hlc, fun i hi => ⟨fun hD => by
        have := hdc i hi
        have := HBM.out.led.lt i hD
        omega, fun e => by
        have := hdc i hi
        obtain ⟨E, hE, _⟩ := HBM.out.ref
        have := hE.lt X hE.self
        omega⟩⟩)
      have HB03 := Lib.hid (HBL.out.trans (hbc.mono HBL.out.size))
      obtain ⟨M1, hM1⟩ : ∃ M1, M = M1 := ⟨_, rfl⟩
      rw [hM1] at HBM3 HWS HCN hM12
      clear hlc hdc hbc HCp HBM HBL HBo HB3 hlt hk hM1
      go_wp2_with fail
      go_loopw [10, 11, 49] (fun _ _ i wr => ∃ (k : Nat) (M : List Li) (D : Nat → Prop), k ≤ l2.length ∧ i = .int .i64 k ∧ Hid (Both wr q X w.heap.size (12 + min k 12) M D) ∧ Hid (Below w.heap.size w wr) ∧ Hid (Cnt M) ∧ Hid (M1 <+: M) ∧ Hid (Was wr cc X Dc D M1)) (fun _ _ i _ => l2.length - (intOf i).toNat)
      case atStart => exact ⟨0, M1, D, Nat.zero_le _, rfl, HBM3, HB03, HCN, Lib.hid (List.prefix_refl _), HWS⟩
      case round =>
        obtain ⟨k, M, D, hk, rfl, HBM, HBL, HCN, HPR, HWA⟩ := hrel
        by_cases hlt : k < l2.length
        · obtain ⟨b, o, rfl, hb, hcell⟩ := HRA2.out.at_ hlt
          have hin := HIA2.out _ (List.getElem_mem hlt)
          generalize l2[k] = v at *
          obtain ⟨dd, z, P, ll, cl, raw, bk⟩ := v
          have hbw : Below w.heap.size w wr := HBL.out
          have hc2 : ∀ (i : Nat) x, (actCs ⟨dd, z, P, ll, cl, raw, bk⟩)[i]? = some x → wr.cell? ⟨b, o + (k * 8 + i), none⟩ = some x := fun i x hx => (hbw.cell (p := ⟨b, o + (k * 8 + i), none⟩) hb).trans (hcell i x hx)
          have d0 := hc2 0 _ rfl
          have d1 := hc2 1 _ rfl
          have d2 := hc2 2 _ rfl
          have d3 := hc2 3 _ rfl
          have d4 := hc2 4 _ rfl
          have d5 := hc2 5 _ rfl
          have d6 := hc2 6 _ rfl
          have d7 := hc2 7 _ rfl
          simp only [Nat.add_zero, ← Nat.add_assoc] at d0 d1 d2 d3 d4 d5 d6 d7
          obtain ⟨Z, hZ⟩ : ∃ Z : Array Value, Z = #[.int .u8 (dd : Int), .int .u32 (z.a : Int), .int .i32 z.d, .int .u8 (z.k : Int), .int .u32 (z.s : Int), .slice P ll.length cl, .bool raw, .int .u8 (bk : Int)] := ⟨_, rfl⟩
          have HN := Lib.hid (Blk.new wr 36 Z)
          have hba := b_alloc wr (.cells Z 36)
          have hB4 := HBM.out.below hba
          have hbl4 := HBL.out.trans (hba.mono HBL.out.size)
          have hgl4 : Laid (wr.alloc (.cells Z 36)) := HGL.out.chg (Chg.of_below (D := fun _ => False) (hbw.trans (hba.mono hbw.size))) (fun h => h)
          have hin4 := hbw.trans (hba.mono hbw.size)
          have hwa4 := HWA.out.below hba
          obtain ⟨W4, hW4⟩ : ∃ W, wr.alloc (.cells Z 36) = W := ⟨_, rfl⟩
          rw [hW4] at HN hB4 hbl4 hgl4 hin4 hwa4
          have HBM4 := Lib.hid hB4
          have HBL4 := Lib.hid hbl4
          have HGL4 := Lib.hid hgl4
          have HIN4 := Lib.hid hin4
          have HIN := Lib.hid hin
          have HW4 := Lib.hid hW4
          have HWA4 := Lib.hid hwa4
          clear hcell hc2 hba hB4 hbl4 hgl4 hin4 hW4 hbw hin hwa4
          subst hZ
          go_upto_region 14 with (fail)
          rw [HW4.out]
          clear d0 d1 d2 d3 d4 d5 d6 d7 HW4
          have n0 := HN.out.cell 0
          have n1 := HN.out.cell 1
          have n2 := HN.out.cell 2
          have n3 := HN.out.cell 3
          have n4 := HN.out.cell 4
          have n5 := HN.out.cell 5
          have n6 := HN.out.cell 6
          have n7 := HN.out.cell 7
          simp at n0 n1 n2 n3 n4 n5 n6 n7
          by_cases hk10 : k < 12
          · have hD := Do_any q X D (HBM4.out.ref.choose) M z HIN.out.y dd bk HIN.out.dd HIN.out.bk raw P ll.length cl ll W4 HBM4.out.led HBM4.out.ref.choose_spec.1 HBM4.out.ref.choose_spec.2 (by have := HBM4.out.few; omega) HBM4.out.low ((HIN.out.r.below HIN4.out).up HIN4.out.size) rfl HIN.out.c.1 HIN.out.c.2 HIN.out.l HGL4.out (fun h => by
              have := HBM4.out.off _ h
              omega)
            unfold actC at hD
            have HD := Lib.hid hD
            clear hD
            go_wp2_with fail
            refine HD.out.mono ?_
            intro e w5 hd
            obtain ⟨M5, D5, hB5, hb5, hgo, hwa5⟩ := HBM4.out.step2 hd HBL4.out.size HWA4.out
            obtain ⟨rfl, _⟩ := hd
            have HB5 : Hid (Both w5 q X w.heap.size (12 + min (k + 1) 12) M5 D5) := Lib.hid (by
              rw [show 12 + min (k + 1) 12 = 12 + min k 12 + 1 by omega]
              exact hB5)
            have HBL5 := Lib.hid (HBL4.out.trans hb5)
            have HCN5 := Lib.hid (cnt_of HCN.out hgo)
            have HPR5 := Lib.hid (pre_of HPR.out hgo)
            have HWA5 := Lib.hid hwa5
            clear hB5 hb5 hgo n0 n1 n2 n3 n4 n5 n6 n7 hwa5
            go_wp2_with fail
            go_roundw
            case rel => exact ⟨k + 1, M5, D5, by omega, by go_num, HB5, HBL5, HCN5, HPR5, HWA5⟩
            case measure => simp [intOf]; omega
          · have HB5 : Hid (Both W4 q X w.heap.size (12 + min (k + 1) 12) M D) := Lib.hid (by
              rw [show 12 + min (k + 1) 12 = 12 + min k 12 by omega]
              exact HBM4.out)
            go_wp2_with fail
            go_roundw
            case rel => exact ⟨k + 1, M, D, by omega, by go_num, HB5, HBL4, HCN, HPR, HWA4⟩
            case measure => simp [intOf]; omega
        · clear HRA2 HIA2 HGL
          have hM24 : M.length ≤ 24 := by have := HBM.out.few; omega
          have hlen : M1.length ≤ M.length := HPR.out.length_le
          have hnl : ¬ (M.length : Int) < (M1.length : Int) := by omega
          obtain ⟨wB, rfl⟩ : ∃ x, x = wr := ⟨wr, rfl⟩
          have HL1 := Lib.hid (Len_any q D M _ HBM.out.led)
          go_wp2_with fail
          refine HL1.out.mono ?_
          rintro e w3 ⟨rfl, hb3⟩
          have HBM3 := Lib.hid (HBM.out.below hb3)
          have HWA3 := Lib.hid (HWA.out.below hb3)
          have HBL3 := Lib.hid (HBL.out.trans (hb3.mono HBL.out.size))
          have HL2 := Lib.hid (Len_any cc Dc M1 _ HWA3.out.led)
          clear HL1 HBM HWA HBL hb3 hlt hk
          go_wp2_with fail
          refine HL2.out.mono ?_
          rintro e w4 ⟨rfl, hb4⟩
          have HBM4 := Lib.hid (HBM3.out.below hb4)
          have HWA4 := Lib.hid (HWA3.out.below hb4)
          have HBL4 := Lib.hid (HBL3.out.trans (hb4.mono HBL3.out.size))
          have HL3 := Lib.hid (Len_any cc Dc M1 _ HWA4.out.led)
          clear HL2 HBM3 HWA3 HBL3 hb4
          go_wp2_with fail
          refine HL3.out.mono ?_
          rintro e wL ⟨rfl, hb5⟩
          have HBM5 := Lib.hid (HBM4.out.below hb5)
          have HWA5 := Lib.hid (HWA4.out.below hb5)
          have HBL5 := Lib.hid (HBL4.out.trans (hb5.mono HBL4.out.size))
          clear HL3 HBM4 HWA4 HBL4 hb5
          go_wp2_with fail
          go_loopw [12, 13, 14, 15, 16, 68] (fun _ _ _ _ _ i w9 => ∃ (j : Nat), j ≤ M1.length ∧ i = .int .i64 j ∧ Hid (Below wL.heap.size wL w9)) (fun _ _ _ _ _ i _ => M1.length - (intOf i).toNat)
          case atStart => exact ⟨0, Nat.zero_le _, rfl, Lib.hid (Below.refl _ _)⟩
          case round =>
            obtain ⟨j, hj, rfl, HB9⟩ := hrel
            by_cases hlt : j < M1.length
            · have hx : M[j]'(by omega) = M1[j] := (List.IsPrefix.getElem HPR.out hlt).symm
              have h1 := Line_any cc Dc M1 (j : Int) (by omega) wr (HWA5.out.led.below HB9.out) (by omega)
              have h2 := fun W (h : Led W q D M) => Line_any q D M (j : Int) (by omega) W h (by omega)
              rw [line_at hlt] at h1
              simp only [line_at (show j < M.length by omega), hx] at h2
              have hin := HWA5.out.led.fine.inn M1[j] (List.getElem_mem hlt)
              have hll : M1[j].l.length ≤ 100000 := by have := hin.2.2.2.1; omega
              generalize M1[j] = x at *
              obtain ⟨y, ll, oo⟩ := x
              unfold LinePost linW at h1 h2
              simp only at h1 h2 hll
              have HP1 := Lib.hid h1
              have HP2 := Lib.hid h2
              clear h1 h2 hin hx
              go_wp2_with fail
              refine HP1.out.mono ?_
              rintro e w6 ⟨A6, c6, rfl, ho6, hb6⟩
              have HN := Lib.hid (Blk.new w6 42 #[.int .u32 (y.a : Int), .int .i32 y.d, .int .u8 (y.k : Int), .int .u32 (y.s : Int), .slice A6 ll.length c6, .int .i64 (oo : Int)])
              have hba := b_alloc w6 (.cells #[.int .u32 (y.a : Int), .int .i32 y.d, .int .u8 (y.k : Int), .int .u32 (y.s : Int), .slice A6 ll.length c6, .int .i64 (oo : Int)] 42)
              have hr6 : Rs legT w6 w6.heap.size A6 ll := by
                obtain ⟨_, A9, c9, he, _, _, hr9⟩ := ho6.form (by decide)
                injection he with e1
                rw [e1]
                exact hr9
              have HR6 := Lib.hid (hr6.below hba)
              have HB6 := Lib.hid (HB9.out.trans ((hb6.trans (hba.mono hb6.size)).mono HB9.out.size))
              have hs6 := hba.size
              obtain ⟨W7, hW7⟩ : ∃ W, w6.alloc (.cells #[.int .u32 (y.a : Int), .int .i32 y.d, .int .u8 (y.k : Int), .int .u32 (y.s : Int), .slice A6 ll.length c6, .int .i64 (oo : Int)] 42) = W := ⟨_, rfl⟩
              rw [hW7] at HN HR6 HB6 hs6
              have HW7 := Lib.hid hW7
              have HP2' := Lib.hid (HP2.out W7 (HBM5.out.led.below HB6.out))
              clear hW7 hba hr6 ho6 hb6 HP1 HP2
              go_upto_region 23 with (fail)
              rw [HW7.out]
              clear HW7
              go_wp2_with fail
              refine HP2'.out.mono ?_
              rintro e w8 ⟨A8, c8, rfl, ho8, hb8⟩
              have hba := b_alloc w8 (.cells #[.int .u32 (y.a : Int), .int .i32 y.d, .int .u8 (y.k : Int), .int .u32 (y.s : Int), .slice A8 ll.length c8, .int .i64 (oo : Int)] 42)
              have hb79 := hb8.trans (hba.mono hb8.size)
              have HN1 := Lib.hid (HN.out.below hb79 HN.out.lt)
              have HN2 := Lib.hid (Blk.new w8 42 #[.int .u32 (y.a : Int), .int .i32 y.d, .int .u8 (y.k : Int), .int .u32 (y.s : Int), .slice A8 ll.length c8, .int .i64 (oo : Int)])
              have hr8 : Rs legT w8 w8.heap.size A8 ll := by
                obtain ⟨_, A9, c9, he, _, _, hr9⟩ := ho8.form (by decide)
                injection he with e1
                rw [e1]
                exact hr9
              have hr6' := HR6.out.below (hb79.mono hs6)
              have hr8' := hr8.below hba
              have HB8 := Lib.hid (HB6.out.trans (hb79.mono HB6.out.size))
              have hs79 := hb79.size
              have hs89 := hba.size
              obtain ⟨W9, hW9⟩ : ∃ W, w8.alloc (.cells #[.int .u32 (y.a : Int), .int .i32 y.d, .int .u8 (y.k : Int), .int .u32 (y.s : Int), .slice A8 ll.length c8, .int .i64 (oo : Int)] 42) = W := ⟨_, rfl⟩
              rw [hW9] at HN1 HN2 hr6' hr8' HB8 hs79 hs89
              have hS := Same13_any y y A6 A8 ll.length ll.length c6 c8 w6.heap.size w8.heap.size ll ll W9 hr6' rfl hll (by omega) hr8' rfl hll (by omega)
              rw [show decide (y = y ∧ ll = ll) = true by simp] at hS
              change Calls _ _ #[.agg #[.int .u32 (y.a : Int), .int .i32 y.d, .int .u8 (y.k : Int), .int .u32 (y.s : Int), .slice A6 ll.length c6], .agg #[.int .u32 (y.a : Int), .int .i32 y.d, .int .u8 (y.k : Int), .int .u32 (y.s : Int), .slice A8 ll.length c8]] W9 _ at hS
              have HS := Lib.hid hS
              have HW9 := Lib.hid hW9
              clear hW9 hba hr6' hr8' hr8 ho8 hb8 hb79 hS HP2' HR6 HN
              go_upto_region 24 with (fail)
              rw [HW9.out]
              clear HW9
              have n0 := HN1.out.cell 0
              have n1 := HN1.out.cell 1
              have n2 := HN1.out.cell 2
              have n3 := HN1.out.cell 3
              have n4 := HN1.out.cell 4
              have n5 := HN1.out.cell 5
              have m0 := HN2.out.cell 0
              have m1 := HN2.out.cell 1
              have m2 := HN2.out.cell 2
              have m3 := HN2.out.cell 3
              have m4 := HN2.out.cell 4
              have m5 := HN2.out.cell 5
              simp at n0 n1 n2 n3 n4 n5 m0 m1 m2 m3 m4 m5
              go_wp2_with fail
              refine HS.out.mono ?_
              rintro e w10 ⟨rfl, hb10⟩
              have HB10 := Lib.hid (HB8.out.trans (hb10.mono HB8.out.size))
              clear hb10 n0 n1 n2 n3 n4 n5 m0 m1 m2 m3 m4 m5 HS
              go_wp2_with fail
              go_roundw
              case rel => exact ⟨j + 1, by omega, by go_num, HB10⟩
              case measure => simp [intOf]; omega
            · obtain ⟨wC, rfl⟩ : ∃ x, x = wr := ⟨wr, rfl⟩
              have HBM6 := Lib.hid (HBM5.out.below HB9.out)
              have HBL6 := Lib.hid (HBL5.out.trans (HB9.out.mono HBL5.out.size))
              have HL4 := Lib.hid (Len_any q D M _ HBM6.out.led)
              clear HBM5 HWA5 HBL5 HB9
              go_wp2_with fail
              refine HL4.out.mono ?_
              rintro e wD ⟨rfl, hbD⟩
              have HBM7 := Lib.hid (HBM6.out.below hbD)
              have HBL7 := Lib.hid (HBL6.out.trans (hbD.mono HBL6.out.size))
              clear HL4 HBM6 HBL6 hbD hlt hj
              go_wp2_with fail
              go_loopw [17, 18, 19, 20, 21, 22, 99] (fun n _ _ _ _ _ i w9 => ∃ (j : Nat), j ≤ M.length ∧ i = .int .i64 j ∧ n = .int .i64 (revs (M.take j) : Int) ∧ Hid (Below wD.heap.size wD w9)) (fun _ _ _ _ _ _ i _ => M.length - (intOf i).toNat)
              case atStart => exact ⟨0, Nat.zero_le _, rfl, rfl, Lib.hid (Below.refl _ _)⟩
              case round =>
                obtain ⟨j, hj, rfl, rfl, HB9⟩ := hrel
                by_cases hlt : j < M.length
                · have hrv := revs_le (M.take j)
                  rw [List.length_take] at hrv
                  have hrs := revs_snoc (M.take j) M[j]
                  rw [← take_snoc M hlt] at hrs
                  have h1 := Line_any q D M (j : Int) (by omega) wr (HBM7.out.led.below HB9.out) (by omega)
                  rw [line_at hlt] at h1
                  have hof := HBM7.out.led.fine.of j M[j] (List.getElem?_eq_getElem hlt)
                  generalize M[j] = x at *
                  obtain ⟨y, ll, oo⟩ := x
                  unfold LinePost linW at h1
                  simp only at h1 hof hrs
                  obtain ⟨rv, hrv0⟩ : ∃ rv, revs (M.take j) = rv := ⟨_, rfl⟩
                  rw [hrv0] at hrs hrv
                  rw [hrv0]
                  have HP1 := Lib.hid h1
                  have HOF := Lib.hid hof
                  have HRS := Lib.hid hrs
                  clear h1 hof hrs hrv0
                  go_wp2_with fail
                  refine HP1.out.mono ?_
                  rintro e w6 ⟨A6, c6, rfl, ho6, hb6⟩
                  have HN := Lib.hid (Blk.new w6 42 #[.int .u32 (y.a : Int), .int .i32 y.d, .int .u8 (y.k : Int), .int .u32 (y.s : Int), .slice A6 ll.length c6, .int .i64 (oo : Int)])
                  have hba := b_alloc w6 (.cells #[.int .u32 (y.a : Int), .int .i32 y.d, .int .u8 (y.k : Int), .int .u32 (y.s : Int), .slice A6 ll.length c6, .int .i64 (oo : Int)] 42)
                  have HB6 := Lib.hid (HB9.out.trans ((hb6.trans (hba.mono hb6.size)).mono HB9.out.size))
                  obtain ⟨W7, hW7⟩ : ∃ W, w6.alloc (.cells #[.int .u32 (y.a : Int), .int .i32 y.d, .int .u8 (y.k : Int), .int .u32 (y.s : Int), .slice A6 ll.length c6, .int .i64 (oo : Int)] 42) = W := ⟨_, rfl⟩
                  rw [hW7] at HN HB6
                  have HW7 := Lib.hid hW7
                  clear hW7 hba ho6 hb6 HP1
                  go_upto_region 32 with (fail)
                  rw [HW7.out]
                  clear HW7
                  have n5 := HN.out.cell 5
                  simp at n5
                  rcases oo with _ | p
                  · have HRS0 : Hid (revs (M.take (j + 1)) = rv) := Lib.hid (by rw [HRS.out, if_neg (by omega), Nat.add_zero])
                    simp only [Int.ofNat_zero] at n5
                    go_wp2_with fail
                    go_roundw
                    case rel => exact ⟨j + 1, by omega, by go_num, by rw [HRS0.out], HB6⟩
                    case measure => simp [intOf]; omega
                  · have HRS1 : Hid (revs (M.take (j + 1)) = rv + 1) := Lib.hid (by rw [HRS.out, if_pos (by omega)])
                    obtain ⟨hpj, z, hz, hz0, hzy⟩ := HOF.out (by omega)
                    simp only [Nat.add_sub_cancel] at hpj hz
                    have hpl : p < M.length := (List.getElem?_eq_some_iff.1 hz).1
                    have h2 := Line_any q D M (p : Int) (by omega) W7 (HBM7.out.led.below HB6.out) (by omega)
                    rw [line_at hpl, show M[p] = z from (List.getElem?_eq_some_iff.1 hz).2] at h2
                    obtain ⟨y2, l2', o2⟩ := z
                    simp only at hz0 hzy
                    subst hz0 hzy
                    unfold LinePost linW at h2
                    simp only [Int.ofNat_zero] at h2
                    have HP2 := Lib.hid h2
                    have hgt : (0 : Int) < ((p + 1 : Nat) : Int) := by omega
                    have hpm : ((p + 1 : Nat) : Int) - 1 = (p : Int) := by omega
                    have hge : ¬ (j : Int) ≤ (p : Int) := by omega
                    clear h2 hz
                    go_wp2_with fail
                    refine HP2.out.mono ?_
                    rintro e w8 ⟨A8, c8, rfl, ho8, hb8⟩
                    have hba := b_alloc w8 (.cells #[.int .u32 (y2.a : Int), .int .i32 y2.d, .int .u8 (y2.k : Int), .int .u32 (y2.s : Int), .slice A8 l2'.length c8, .int .i64 0] 42)
                    have hb79 := hb8.trans (hba.mono hb8.size)
                    have HN1 := Lib.hid (HN.out.below hb79 HN.out.lt)
                    have HN2 := Lib.hid (Blk.new w8 42 #[.int .u32 (y2.a : Int), .int .i32 y2.d, .int .u8 (y2.k : Int), .int .u32 (y2.s : Int), .slice A8 l2'.length c8, .int .i64 0])
                    have HB8 := Lib.hid (HB6.out.trans (hb79.mono HB6.out.size))
                    obtain ⟨W9, hW9⟩ : ∃ W, w8.alloc (.cells #[.int .u32 (y2.a : Int), .int .i32 y2.d, .int .u8 (y2.k : Int), .int .u32 (y2.s : Int), .slice A8 l2'.length c8, .int .i64 0] 42) = W := ⟨_, rfl⟩
                    rw [hW9] at HN1 HN2 HB8
                    have HW9 := Lib.hid hW9
                    clear hW9 hba ho8 hb8 hb79 HP2 HN n5
                    go_upto_region 35 with (fail)
                    rw [HW9.out]
                    clear HW9
                    have n0 := HN1.out.cell 0
                    have n1 := HN1.out.cell 1
                    have n2 := HN1.out.cell 2
                    have n3 := HN1.out.cell 3
                    have n5 := HN1.out.cell 5
                    have m0 := HN2.out.cell 0
                    have m1 := HN2.out.cell 1
                    have m2 := HN2.out.cell 2
                    have m3 := HN2.out.cell 3
                    have m5 := HN2.out.cell 5
                    simp at n0 n1 n2 n3 n5 m0 m1 m2 m3 m5
                    go_wp2_with fail
                    go_roundw
                    case rel => exact ⟨j + 1, by omega, by go_num, by rw [HRS1.out]; go_num, HB8⟩
                    case measure => simp [intOf]; omega
                · obtain rfl : j = M.length := by omega
                  rw [List.take_length]
                  obtain ⟨wE, rfl⟩ : ∃ x, x = wr := ⟨wr, rfl⟩
                  have HBM8 := Lib.hid (HBM7.out.below HB9.out)
                  have HBL8 := Lib.hid (HBL7.out.trans (HB9.out.mono HBL7.out.size))
                  obtain ⟨K, hKn, hKi, hKl⟩ := HCN.out
                  have HLo := Lib.hid (Loans_any q D M _ HBM8.out.led (by omega))
                  have hrv := revs_le M
                  obtain ⟨rv, hrv0⟩ : ∃ rv, revs M = rv := ⟨_, rfl⟩
                  rw [hrv0] at hKl hrv
                  rw [hrv0]
                  have HK := Lib.hid (And.intro hKn hKi)
                  clear hKn hKi hrv0 HBM7 HBL7 HB9
                  go_wp2_with fail
                  refine HLo.out.mono ?_
                  rintro e w5 ⟨R, A5, c5, rfl, hp, hiff, hin, hrs, hb5⟩
                  have HB5 := Lib.hid (HBM8.out.below hb5)
                  have HW5 := Lib.hid (HBL8.out.trans (hb5.mono HBL8.out.size))
                  have HSUM := Lib.hid (sum_live HK.out.2 hp hiff)
                  have hRM : R.length ≤ 1000000 := by
                    have hs : R ⊆ M.map (fun x => x.y.a) := fun a ha => by
                      have e := (hiff a).1 ha
                      unfold hasLn at e
                      rw [List.any_eq_true] at e
                      obtain ⟨z, hz, hz2⟩ := e
                      exact List.mem_map.2 ⟨z, hz, by simpa using hz2⟩
                    have := (List.nodup_iff_pairwise_ne.2 (hp.imp fun h => Nat.ne_of_lt h)).length_le_of_subset hs
                    simp at this
                    omega
                  have HR5 := Lib.hid (And.intro hin hrs)
                  clear HLo HBM8 HBL8 hp hiff hin hrs hb5 hlt hj
                  go_wp2_with fail
                  go_loopw [23, 25, 148] (fun s _ i w9 => ∃ (j : Nat), j ≤ R.length ∧ i = .int .i64 j ∧ s = .int .i64 (((R.take j).map (fun a => K.countP (fun y => y.a == a))).sum : Int) ∧ ((R.take j).map (fun a => K.countP (fun y => y.a == a))).sum ≤ 100 * j ∧ Hid (Below w5.heap.size w5 w9)) (fun _ _ i _ => R.length - (intOf i).toNat)
                  case atStart => exact ⟨0, Nat.zero_le _, rfl, rfl, by simp, Lib.hid (Below.refl _ _)⟩
                  case round =>
                    obtain ⟨j, hj, rfl, rfl, hsm, HB9⟩ := hrel
                    by_cases hlt : j < R.length
                    · obtain ⟨g, o, rfl, hg, hcell⟩ := HR5.out.2.at_ hlt
                      have h0 := (HB9.out.cell (p := ⟨g, o + (j * u32T.k + 0), none⟩) hg).trans (hcell 0 _ rfl)
                      rw [show o + (j * u32T.k + 0) = o + j by show o + (j * 1 + 0) = o + j; omega] at h0
                      have hst := sum_take (fun a => K.countP (fun y => y.a == a)) hlt
                      have hla := Loan_any q D M R[j] (HR5.out.1 _ (List.getElem_mem hlt)) wr (HB5.out.led.below HB9.out) (by omega)
                      have hcl : K.countP (fun y => y.a == R[j]) ≤ K.length := List.countP_le_length
                      obtain ⟨rj, hrj⟩ : ∃ rj, R[j] = rj := ⟨_, rfl⟩
                      unfold u32E at h0
                      rw [hrj] at h0 hst hla hcl
                      obtain ⟨sm, hsm0⟩ : ∃ sm, ((R.take j).map (fun a => K.countP (fun y => y.a == a))).sum = sm := ⟨_, rfl⟩
                      rw [hsm0] at hst hsm
                      rw [hsm0]
                      have HLA := Lib.hid hla
                      have HST := Lib.hid hst
                      clear hla hst hsm0 hcell hrj
                      go_wp2_with fail
                      refine HLA.out.mono ?_
                      rintro e w6 ⟨R6, A6, c6, rfl, hn6, hR6, hb6⟩
                      have hl6 := loan_len HK.out.1 HK.out.2 hn6 hR6
                      rw [← hl6] at hcl
                      have HST6 : Hid (((R.take (j + 1)).map (fun a => K.countP (fun y => y.a == a))).sum = sm + R6.length) := Lib.hid (by rw [HST.out, hl6])
                      have HB10 := Lib.hid (HB9.out.trans (hb6.mono HB9.out.size))
                      clear hn6 hR6 hl6 HST hb6 HLA
                      go_wp2_with fail
                      go_roundw
                      case rel => exact ⟨j + 1, by omega, by go_num, by rw [HST6.out]; go_num, by rw [HST6.out]; omega, HB10⟩
                      case measure => simp [intOf]; omega
                    · obtain rfl : j = R.length := by omega
                      rw [List.take_length, HSUM.out]
                      have hfin : (K.length : Int) = (M.length : Int) - 2 * (rv : Int) := by omega
                      have HL5 := Lib.hid (Len_any q D M _ (HB5.out.led.below HB9.out))
                      have HW9 := Lib.hid (HW5.out.trans (HB9.out.mono HW5.out.size))
                      clear hsm
                      go_wp2_with fail
                      refine HL5.out.mono ?_
                      rintro e w6 ⟨rfl, hb6⟩
                      have HW10 := Lib.hid (HW9.out.trans (hb6.mono HW9.out.size))
                      clear hb6 HL5
                      go_wp2_with fail
                      refine fin_tmp rfl (by rfl) ?_
                      exact ⟨rfl, HW10.out⟩
theorem law_keeps2 (A : Option Addr) (n c : Nat) (l : List ActV) (hl : l.length = n) (A2 : Option Addr) (n2 c2 : Nat) (l2 : List ActV) (hl2 : l2.length = n2) (w : World) (hR : Rs actT w w.heap.size A l) (hI : ∀ u ∈ l, u.In w) (hR2 : Rs actT w w.heap.size A2 l2) (hI2 : ∀ u ∈ l2, u.In w) (hgl : Laid w) (hx : n ≤ maxLen) (hx2 : n2 ≤ maxLen) :
    Calls Tryz.prog 3 #[.slice A n c, .slice A2 n2 c2] w (Ret (.bool true) w) := by
  subst hl hl2
  exact law_keeps A c l A2 c2 l2 w hR hI hR2 hI2 hgl hx hx2
end Go.Proofs.YtdnnkdldolhbpaaGreatDoor
