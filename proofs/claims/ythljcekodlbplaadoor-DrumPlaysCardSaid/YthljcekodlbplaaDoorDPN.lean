/-
  The document's turned: bits of a sector as it is flushed. Conditions: the drum is there.
-/
import Derived.Test.YthljcekodlbplaaDoorDPO
namespace Go.Proofs.YthljcekodlbplaaDoor
open Go.ChangeShapes Go.WideShapes Go.ChangeAt Go.RowKit

set_option maxRecDepth 100000 in
set_option maxHeartbeats 4000000 in
theorem turned_any {w : World} {base x : Nat} {oo : Nat → Prop} {AF AD AP AK : Option Addr} {cF cD nP cP nK cK a p N kk : Nat} {gs : List Seg} {ds : List (Int × Seg)} {left : Int} (h : XD w base x oo AF cF gs AD cD ds left) (hown : ∀ i, ownD x (.slice AF gs.length cF) (.slice AD ds.length cD) i → oo i) (hoo : ∀ i, oo i → i < w.heap.size) (hg : gs.length ≤ 1000) (hd : ds.length ≤ 100000) (hs : ∀ s ∈ gs, s.l.length = 256) (he : ∀ d ∈ ds, 0 ≤ d.1 → d.2.l.length = 256) (hp : p < gs.length) (hN : N < 2048) (hkk : kk < 4294967296) :
    Calls Tryd.prog 24 #[.pointer (some ⟨x, 0, none⟩), .agg #[.int .u8 (a : Int), .int .i64 (p : Int), .slice AP nP cP, .slice AK nK cK, .int .i64 (N : Int), .int .u32 (kk : Int)]] w (TurnX w base x oo gs ds left p N kk) := by
  obtain ⟨b, hb⟩ : ∃ b, w.heap.size = b := ⟨_, rfl⟩
  obtain ⟨W, hW⟩ : ∃ W, w.alloc (.cells #[.int .u8 (a : Int), .int .i64 (p : Int), .slice AP nP cP, .slice AK nK cK, .int .i64 (N : Int), .int .u32 (kk : Int)] 35) = W := ⟨_, rfl⟩
  have hbx := Blk.new w 35 #[.int .u8 (a : Int), .int .i64 (p : Int), .slice AP nP cP, .slice AK nK cK, .int .i64 (N : Int), .int .u32 (kk : Int)]
  have hbl := (Below.refl _ w).alloc (Nat.le_refl _) (.cells #[.int .u8 (a : Int), .int .i64 (p : Int), .slice AP nP cP, .slice AK nK cK, .int .i64 (N : Int), .int .u32 (kk : Int)] 35)
  rw [hW] at hbx hbl
  rw [hb] at hbx
  have hXW := h.below hbl
  have HW := Lib.hid (And.intro hW hb)
  have HX := Lib.hid hXW
  have HBX := Lib.hid hbx
  have HBL := Lib.hid hbl
  have HOO := Lib.hid (And.intro hown hoo)
  have HXX := Lib.hid h
  have HS9 := Lib.hid hs
  have HE9 := Lib.hid he
  have HG9 : Hid (gs.length ≤ 100000) := Lib.hid (by omega)
  have HD9 := Lib.hid hd
  clear h hbx hbl hXW hW hb hown hoo hs he
  go_enter Tryd.func24, Tryd.ntmps24
  go_wp2_with fail
  rw [HW.out.1, HW.out.2]
  refine (RWaits_any ds HX.out.head HX.out.rsD.1 rfl HD9.out).mono ?_
  rintro e w1 ⟨AW, cW, rfl, -, -, hwo, hw1⟩
  have hx1 := HX.out.below hw1
  have c0 := hx1.head.cell 0
  simp at c0
  have HX1 := Lib.hid hx1
  have HWO := Lib.hid hwo
  have HBX1 := Lib.hid (HBX.out.below hw1 HBX.out.lt)
  have HW1 := Lib.hid hw1
  clear hx1 hwo hw1 HX HBX
  go_wp2_with fail
  refine (RNew_any gs.length hg w1).mono ?_
  rintro e w2 ⟨x2, AF2, cF2, g20, rfl, hn2, hl2, -, hb2⟩
  have c0 := hn2.head.cell 0
  simp at c0
  rw [hl2] at c0
  have HN2 := Lib.hid hn2
  have HL2 := Lib.hid hl2
  have HB2 := Lib.hid hb2
  clear hn2 hl2 hb2
  go_wp2_with fail
  go_loopw [6, 22] (fun _ j wr => ∃ (k : Nat) (g2 : List Seg), k ≤ gs.length ∧ j = .int .i64 (k : Int) ∧ Hid (g2.length = gs.length) ∧ Hid (XD wr w1.heap.size x2 (nw w1.heap.size (ownD x2 (.slice AF2 g2.length cF2) (.slice none 0 0))) AF2 cF2 g2 none 0 [] (-1)) ∧ Hid (Copied wr w1.heap.size gs ds g2 k) ∧ Hid (Below w1.heap.size w1 wr)) (fun _ j _ => gs.length - (intOf j).toNat)
  case atStart => exact ⟨0, g20, Nat.zero_le _, rfl, HL2, HN2, Lib.hid (Copied.zero _ _ _ _ _), HB2⟩
  case round =>
    obtain ⟨k, g2, hk, rfl, HL, HN, HC, HB⟩ := hrel
    by_cases hlt : k < gs.length
    · have hk2 : k < g2.length := by rw [HL.out]; exact hlt
      obtain ⟨g, e, -, hgb, -, -, -⟩ := own_setF HN.out.rowF hk2
      subst e
      obtain ⟨sg, hsg⟩ : ∃ sg, sfS gs ds k = sg := ⟨_, rfl⟩
      have hX := HX1.out.below HB.out
      have hsg2 : Rd wr wr.heap.size sg.at_ sg.l := by
        rw [← hsg]
        exact (sfS_in (p := fun s => RdK oo wr s.at_ s.l) hX.segs (fun d hd _ => hX.deeds d hd) hlt).rd
      have hsg3 : sg.l.length = 256 := by
        rw [← hsg]
        exact sfS_in (p := fun s => s.l.length = 256) HS9.out HE9.out hlt
      have HLW : Hid (∀ W', Below wr.heap.size wr W' → XD W' base x oo AF cF gs AD cD ds left) := Lib.hid (fun W' hb => hX.below hb)
      have hk0 : (0 : Int) ≤ (k : Int) := by omega
      have hkn : (k : Int) < (gs.length : Int) := by omega
      have LF : ∀ W', Below wr.heap.size wr W' → (Instr.loadAt 50 (.pointer (some ⟨x2, 0, none⟩))).run Tryd.prog W' = .ok (.slice (some ⟨g, 0, none⟩) gs.length cF2) W' := fun W' hb => by
        have c0 := (HN.out.below hb).head.cell 0
        simp at c0
        rw [HL.out] at c0
        go_simp
      have CS : ∀ W', Below wr.heap.size wr W' → Calls Tryd.prog 21 #[.pointer (some ⟨x, 0, none⟩), .int .i64 (k : Int)] W' fun e w' => e = .returned sg.val ∧ Below W'.heap.size W' w' := fun W' hb => by
        rw [← hsg]
        exact safe_x (HLW.out W' hb) k hlt HG9.out HD9.out
      have CC : ∀ W', Below wr.heap.size wr W' → Calls Tryd.prog 7 #[sg.val, .int .i64 256] W' (ToF (newF wr.heap.size sg.l) W') := fun W' hb =>
        cutNew hb hsg3 ((hsg2.below hb).more hb.size)
      have HSG := Lib.hid hsg
      clear hsg hsg2 hsg3 hX
      go_wp2_with fail
      refine wp_region_flow_last (l := [_, _, _, _, _, _, _, _, _, _]) (ol := _) rfl [some 25, some 26, some 27, some 28, some 29, some 30, some 31, some 32, some 33, some 34] (fun i => ([.is (.pointer (some ⟨x2, 0, none⟩)), .is (.pointer (some ⟨x2, 0, none⟩)), .is (.pointer (some ⟨x2, 0, none⟩)), .is (.slice (some ⟨g, 0, none⟩) gs.length cF2), .is (.int .i64 (k : Int)), .is (.pointer (some ⟨x, 0, none⟩)), .is (.int .i64 (k : Int)), .is (sg.val), newF wr.heap.size sg.l, .is (.pointer (some ⟨g, k, none⟩))] : List Flw).getD i .any) (by kernel_rfl) (by kernel_rfl) (by kernel_rfl) rfl rfl ?_ ?_
      · refine ⟨step_free rfl (fun aF wF hs hb => ?_), ?_⟩
        · obtain ⟨x0, -⟩ := hs
          have e0 : aF.eval (.tmp 5) = .pointer (some ⟨x2, 0, none⟩) := x0
          exact opC_move e0 ⟨rfl, below_same wF⟩
        refine ⟨step_free rfl (fun aF wF hs hb => ?_), ?_⟩
        · obtain ⟨x0, -⟩ := hs
          have e0 : aF.eval (.tmp 25) = .pointer (some ⟨x2, 0, none⟩) := x0
          refine opC_value (v := .pointer (some ⟨x2, 0, none⟩)) ?_ ⟨rfl, below_same wF⟩
          have t0 := ev_of e0
          simp [execOp, go_sem, t0]
        refine ⟨step_free rfl (fun aF wF hs hb => ?_), ?_⟩
        · obtain ⟨x0, -⟩ := hs
          have e0 : aF.eval (.tmp 26) = .pointer (some ⟨x2, 0, none⟩) := x0
          refine opC_value (v := .pointer (some ⟨x2, 0, none⟩)) ?_ ⟨rfl, below_same wF⟩
          have t0 := ev_of e0
          simp [execOp, go_sem, t0]
        refine ⟨step_free rfl (fun aF wF hs hb => ?_), ?_⟩
        · obtain ⟨x0, -⟩ := hs
          have e0 : aF.eval (.tmp 27) = .pointer (some ⟨x2, 0, none⟩) := x0
          exact opC_load e0 (LF wF hb) ⟨rfl, below_same wF⟩
        refine ⟨step_free rfl (fun aF wF hs hb => ?_), ?_⟩
        · obtain ⟨x0, -⟩ := hs
          have e0 : aF.eval (.tmp 6) = .int .i64 (k : Int) := x0
          exact opC_move e0 ⟨rfl, below_same wF⟩
        refine ⟨step_free rfl (fun aF wF hs hb => ?_), ?_⟩
        · obtain ⟨x0, -⟩ := hs
          have e0 : aF.eval (.tmp 0) = .pointer (some ⟨x, 0, none⟩) := x0
          exact opC_move e0 ⟨rfl, below_same wF⟩
        refine ⟨step_free rfl (fun aF wF hs hb => ?_), ?_⟩
        · obtain ⟨x0, -⟩ := hs
          have e0 : aF.eval (.tmp 6) = .int .i64 (k : Int) := x0
          exact opC_move e0 ⟨rfl, below_same wF⟩
        refine ⟨step_free rfl (fun aF wF hs hb => ?_), ?_⟩
        · obtain ⟨x0, x1, -⟩ := hs
          have e0 : aF.eval (.tmp 30) = .pointer (some ⟨x, 0, none⟩) := x0
          have e1 : aF.eval (.tmp 31) = .int .i64 (k : Int) := x1
          exact opC_call (args := #[.pointer (some ⟨x, 0, none⟩), .int .i64 (k : Int)]) (enters9 Tryd.func21 (by kernel_rfl) rfl) (by simp [e0, e1]) (CS wF hb) (fun _ h => ⟨rfl, h⟩)
        refine ⟨step_free rfl (fun aF wF hs hb => ?_), ?_⟩
        · obtain ⟨x0, -⟩ := hs
          have e0 : aF.eval (.tmp 32) = sg.val := x0
          exact opC_callF (args := #[sg.val, .int .i64 256]) (enters9 Tryd.func7 (by kernel_rfl) rfl) (by simp [e0]; rfl) (CC wF hb) (fun _ _ h1 h2 => ⟨h1, h2⟩)
        refine ⟨step_free rfl (fun aF wF hs hb => ?_), ?_⟩
        · obtain ⟨x0, x1, -⟩ := hs
          have e0 : aF.eval (.tmp 28) = .slice (some ⟨g, 0, none⟩) gs.length cF2 := x0
          have e1 : aF.eval (.tmp 29) = .int .i64 (k : Int) := x1
          refine opC_value (v := .pointer (some ⟨g, k, none⟩)) ?_ ⟨rfl, below_same wF⟩
          simp [execOp, go_sem, ev_of e0, ev_of e1, hk0, hkn]
        exact trivial
      · intro fv w6 hf hb6
        have h1 : (newF wr.heap.size sg.l).p (fv 8) w6 := hf 8 33 rfl
        obtain ⟨s, h1, hsl, -, hso⟩ := h1
        obtain ⟨hsr, hsn⟩ := own_seg hso
        have h2 : fv 9 = .pointer (some ⟨g, k, none⟩) := hf 9 34 rfl
        obtain ⟨g', e, hbg, qc, qf, -, -, qX⟩ := XD.setF (ds := []) (AD := none) (cD := 0) (s := s) HN.out HB.out.size hk2 hb6 hsr hsn
        injection e with e
        injection e with e _ _
        subst e
        have qk : Kept (fun i => i = g) w6 (w6.setCell ⟨g, k, none⟩ s.val) := ⟨rfl, rfl, rfl, by simp [World.setCell], fun j hj hn => Below.heap_setCell w6 ⟨g, k, none⟩ _ j hn⟩
        have qg : ∃ cs, Blk w6 g 31 cs := by
          have h := (HN.out.below hb6).rowF
          unfold OwnS at h
          rcases h.2 with ⟨h, _⟩ | ⟨g', cap, cur, h, _, h3, _⟩
          · injection h with h; cases h
          · injection h with h _ _
            injection h with h
            injection h with h _ _
            subst h
            exact ⟨cur, h3⟩
        simp only [putF, Act.put, List.setIfInBounds_toArray, List.set_cons_zero, List.set_cons_succ]
        rw [h1, h2]
        have HC2 := Lib.hid (HC.out.next (gs := gs) (ds := ds) hb6 hk2 (by rw [hsl, HSG.out]) HB.out.size hso qk qg)
        have HL3 : Hid ((g2.set k s).length = gs.length) := Lib.hid (by rw [List.length_set]; exact HL.out)
        have HX4 := Lib.hid qX
        have HB4 : Hid (Below w1.heap.size w1 (w6.setCell ⟨g, k, none⟩ s.val)) := Lib.hid ((HB.out.trans (hb6.mono HB.out.size)).trans (qk.below (Nat.le_trans HB.out.size hb6.size) (fun i hi e => by omega)))
        generalize g2[k] = old at qc
        unfold Seg.val at qc
        clear hf h1 h2 qX qk qg hb6 hsr hsn hso LF CS CC HC HN HL HB hsl HLW HSG
        refine opC_skip (w' := w6.setCell ⟨g, k, none⟩ s.val) (by unfold Seg.val; simp [execOp, go_sem, qc, qf]) ?_
        go_wp2_with fail
        go_roundw
        case rel => exact ⟨k + 1, _, by omega, by go_num, HL3, HX4, HC2, HB4⟩
        case measure => simp [intOf]; omega
    · obtain rfl : k = gs.length := by omega
      have hp2 : p < g2.length := by rw [HL.out]; exact hp
      have hsp := HC.out.own p hp
      have hsl := HC.out.val p hp
      have hslen : (g2.getD p noSeg).l.length = 256 := by
        rw [hsl]
        exact sfS_in (p := fun s => s.l.length = 256) HS9.out HE9.out hp
      obtain ⟨l0, hl0⟩ : ∃ l, (g2.getD p noSeg).l = l := ⟨_, rfl⟩
      obtain ⟨sp, hsp0⟩ : ∃ s, g2.getD p noSeg = s := ⟨_, rfl⟩
      rw [hl0] at hslen hsp
      rw [hsp0] at hsp
      obtain ⟨g5, c5, hv5, hg5b, hg5, -, -, -⟩ := own_setB hsp (j := 0) (by omega)
      rw [hslen] at hv5 hsp
      rw [hv5] at hsp
      obtain ⟨g, e, hgl, hgb, hcg, -, -⟩ := own_setF HN.out.rowF hp2
      subst e
      have hcg : wr.cell? ⟨g, p, none⟩ = some (.slice (some ⟨g5, 0, none⟩) 256 c5) := by
        rw [hcg, ← hv5, ← hsp0, List.getD_eq_getElem?_getD, List.getElem?_eq_getElem hp2]
        rfl
      have hgg : g ≠ g5 := fun e => own_apartB hsp (show Blk wr g 31 _ from (own_blkF HN.out.rowF).choose_spec) (by decide) (by rw [e]; rfl)
      have hxg : x2 ≠ g5 := fun e => own_apartB hsp HN.out.head (by decide) (by rw [e]; rfl)
      have hbx := HBX1.out.below HB.out HBX1.out.lt
      have hbg : b ≠ g5 := fun e => by have := HBX1.out.lt; omega
      have HSP := Lib.hid hsp
      have HL0 := Lib.hid (And.intro hl0 hsp0)
      have HV5 := Lib.hid hv5
      have HCG := Lib.hid hcg
      have HBXR := Lib.hid hbx
      have HNE := Lib.hid (And.intro hgg (And.intro hxg hbg))
      have HHX2 := Lib.hid HN.out.head
      have HL256 := Lib.hid hslen
      clear hsp hsl hslen hl0 hsp0 hv5 hcg hbx hgg hxg hbg
      obtain ⟨w4, rfl⟩ : ∃ W, W = wr := ⟨_, rfl⟩
      go_wp2_with fail
      go_loopw [7, 8] (fun j _ wq => ∃ (k : Nat), k ≤ 32 ∧ j = .int .i64 (k : Int) ∧ Hid (OwnB wq w1.heap.size (.slice (some ⟨g5, 0, none⟩) 256 c5) 256 (turnK l0 N kk (min k (2048 - N)))) ∧ Hid (Kept (fun i => i = g5) w4 wq)) (fun j _ _ => 32 - (intOf j).toNat)
      case atStart => exact ⟨0, by omega, rfl, Lib.hid (by rw [Nat.zero_min]; exact HSP.out), Lib.hid (Kept.refl _ _)⟩
      case round =>
        obtain ⟨k, hk, rfl, HO, HK⟩ := hrel
        by_cases hlt : k < 32
        · have c0 := ((show Blk wr x2 53 _ from (HK.out.block x2 HHX2.out.lt HNE.out.2.1).trans HHX2.out)).cell 0
          have hbq := (show Blk wr b 35 _ from (HK.out.block b HBXR.out.lt HNE.out.2.2).trans HBXR.out)
          have b4 := hbq.cell 4
          have b5 := hbq.cell 5
          simp at c0 b4 b5
          rw [HL.out] at c0
          by_cases hb8 : N + k < 2048
          · have hb9 : (N : Int) + (k : Int) < 2048 := by omega
            go_wp2_with fail
            · rename_i hbit
              have hbit2 : kk.testBit k = true := by
                rw [Nat.testBit_eq_decide_div_mod_eq]
                have e := tdiv_bit kk k
                rw [e] at hbit
                have := eq_of_beq hbit
                exact decide_eq_true (by omega)
              have hmin : min k (2048 - N) = k := by omega
              have ho := HO.out
              rw [hmin] at ho
              obtain ⟨q, hq0⟩ : ∃ q, (N + k) / 8 = q := ⟨_, rfl⟩
              obtain ⟨j, hj0⟩ : ∃ j, (N + k) % 8 = j := ⟨_, rfl⟩
              have hll : (turnK l0 N kk k).length = 256 := by rw [turnK_length]; exact HL256.out
              have j8 : j < 8 := by omega
              have q8 : q < 256 := by omega
              obtain ⟨g6, c6, e6, -, -, c65, f65, hset⟩ := own_setB ho (j := q) (by omega)
              injection e6 with e6 _ _
              injection e6 with e6
              injection e6 with e6 _ _
              subst e6
              obtain ⟨x8, hx8⟩ : ∃ x, (turnK l0 N kk k)[q]'(by omega) = x := ⟨_, rfl⟩
              rw [hx8] at c65
              obtain ⟨u, hu⟩ : ∃ u, UInt8.ofNat (x8.toNat ^^^ 2 ^ j) = u := ⟨_, rfl⟩
              have HT : Hid (turnK l0 N kk (k + 1) = (turnK l0 N kk k).set q u) := Lib.hid (by
                rw [turnK, if_pos hbit2, turn1, hq0, hj0, ← hu, ← hx8, List.getD_eq_getElem?_getD, List.getElem?_eq_getElem (by omega)]
                rfl)
              have hq : ((N : Int) + (k : Int)).tdiv 8 = (q : Int) := by rw [Int.tdiv_eq_ediv_of_nonneg (by omega)]; omega
              have hr : ((N : Int) + (k : Int)).tmod 8 = (j : Int) := by rw [Int.tmod_eq_emod_of_nonneg (by omega)]; omega
              obtain ⟨pw, hpw⟩ : ∃ pw : Nat, 2 ^ j = pw := ⟨_, rfl⟩
              have hxo : bits .xor .u8 (x8.toNat : Int) (pw : Int) = (u.toNat : Int) := by
                have h2 : 2 ^ j < 256 := Nat.pow_lt_pow_right (m := j) (n := 8) (by decide) j8
                have h := xor_two x8 pw (by omega)
                rw [show ((pw : Int) % 256) = (pw : Int) by omega] at h
                rw [h, ← hu, UInt8.toNat_ofNat', hpw, Nat.mod_eq_of_lt (by rw [← hpw]; exact xor_u8 _ _ j8)]
              have HPW := Lib.hid hpw
              have hqw : IntKind.i64.wrap (q : Int) = (q : Int) := by rw [IntKind.wrap_i64]; omega
              have hjw : IntKind.i64.wrap (j : Int) = (j : Int) := by rw [IntKind.wrap_i64]; omega
              have p0 : (0 : Int) ≤ (p : Int) := by omega
              have p1 : (p : Int) < (gs.length : Int) := by omega
              have q0 : (0 : Int) ≤ (q : Int) := by omega
              have q1 : (q : Int) < 256 := by omega
              have j0 : (0 : Int) ≤ (j : Int) := by omega
              have j1 : (j : Int) < 8 := by omega
              have hx2q := (show Blk wr x2 53 _ from (HK.out.block x2 HHX2.out.lt HNE.out.2.1).trans HHX2.out)
              have hgq : wr.cell? ⟨g, p, none⟩ = some (.slice (some ⟨g5, 0, none⟩) 256 c5) := (World.cell?_of_block (a := ⟨g, p, none⟩) (HK.out.block g hgl HNE.out.1)).trans HCG.out
              have hgsz : g < wr.heap.size := Nat.lt_of_lt_of_le hgl HK.out.size
              have L57 : ∀ W', Below wr.heap.size wr W' → (Instr.loadAt 50 (.pointer (some ⟨x2, 0, none⟩))).run Tryd.prog W' = .ok (.slice (some ⟨g, 0, none⟩) gs.length cF2) W' := fun W' hb => by
                have c0 := (hx2q.below hb hx2q.lt).cell 0
                simp at c0
                rw [HL.out] at c0
                go_simp
              have L59 : ∀ W', Below wr.heap.size wr W' → (Instr.loadAt 3 (.pointer (some ⟨b, 1, none⟩))).run Tryd.prog W' = .ok (.int .i64 (p : Int)) W' := fun W' hb => by
                have c0 := (hbq.below hb hbq.lt).cell 1
                simp at c0
                go_simp
              have L61 : ∀ W', Below wr.heap.size wr W' → (Instr.loadAt 31 (.pointer (some ⟨g, p, none⟩))).run Tryd.prog W' = .ok (.slice (some ⟨g5, 0, none⟩) 256 c5) W' := fun W' hb => by
                exact load_slice ((hb.cell (p := ⟨g, p, none⟩) hgsz).trans hgq)
              have hg5s : g5 < wr.heap.size := Nat.lt_of_lt_of_le hg5 HK.out.size
              have L65 : ∀ W', Below wr.heap.size wr W' → (Instr.loadAt 5 (.pointer (some ⟨g5, q, none⟩))).run Tryd.prog W' = .ok (.int .u8 (x8.toNat : Int)) W' := fun W' hb => by
                have c0 := (hb.cell (p := ⟨g5, q, none⟩) hg5s).trans c65
                go_simp
              have HOS := Lib.hid ho
              have HQ8 := Lib.hid hll
              clear hset ho hq0 hj0 hx8 hu hbit hbit2 hll c0 b4 b5 hpw
              refine wp_region_flow_last (l := [_, _, _, _, _, _, _, _, _, _, _, _, _, _, _, _, _, _, _]) (ol := _) rfl [some 54, some 55, some 56, some 57, some 58, some 59, some 60, some 61, some 62, some 63, some 64, some 65, some 66, some 67, some 68, some 69, some 70, some 71, some 72] (fun i => ([.is (.pointer (some ⟨x2, 0, none⟩)), .is (.pointer (some ⟨x2, 0, none⟩)), .is (.pointer (some ⟨x2, 0, none⟩)), .is (.slice (some ⟨g, 0, none⟩) gs.length cF2), .is (.pointer (some ⟨b, 1, none⟩)), .is (.int .i64 (p : Int)), .is (.pointer (some ⟨g, p, none⟩)), .is (.slice (some ⟨g5, 0, none⟩) 256 c5), .is (.int .i64 ((N : Int) + (k : Int))), .is (.int .i64 (q : Int)), .is (.pointer (some ⟨g5, q, none⟩)), .is (.int .u8 (x8.toNat : Int)), tabF, .is (.int .i64 ((N : Int) + (k : Int))), .is (.int .i64 (j : Int)), tabP j, .is (.int .u8 (pw : Int)), .is (.int .u8 (u.toNat : Int)), .is (.pointer (some ⟨g5, q, none⟩))] : List Flw).getD i .any) (by kernel_rfl) (by kernel_rfl) (by kernel_rfl) rfl rfl ?_ ?_
              · refine ⟨step_free rfl (fun aF wF hs hb => ?_), ?_⟩
                · obtain ⟨x0, -⟩ := hs
                  have e0 : aF.eval (.tmp 5) = .pointer (some ⟨x2, 0, none⟩) := x0
                  exact opC_move e0 ⟨rfl, below_same wF⟩
                refine ⟨step_free rfl (fun aF wF hs hb => ?_), ?_⟩
                · obtain ⟨x0, -⟩ := hs
                  have e0 : aF.eval (.tmp 54) = .pointer (some ⟨x2, 0, none⟩) := x0
                  refine opC_value (v := .pointer (some ⟨x2, 0, none⟩)) ?_ ⟨rfl, below_same wF⟩
                  have t0 := ev_of e0
                  simp [execOp, go_sem, t0]
                refine ⟨step_free rfl (fun aF wF hs hb => ?_), ?_⟩
                · obtain ⟨x0, -⟩ := hs
                  have e0 : aF.eval (.tmp 55) = .pointer (some ⟨x2, 0, none⟩) := x0
                  refine opC_value (v := .pointer (some ⟨x2, 0, none⟩)) ?_ ⟨rfl, below_same wF⟩
                  have t0 := ev_of e0
                  simp [execOp, go_sem, t0]
                refine ⟨step_free rfl (fun aF wF hs hb => ?_), ?_⟩
                · obtain ⟨x0, -⟩ := hs
                  have e0 : aF.eval (.tmp 56) = .pointer (some ⟨x2, 0, none⟩) := x0
                  exact opC_load e0 (L57 wF hb) ⟨rfl, below_same wF⟩
                refine ⟨step_free rfl (fun aF wF hs hb => ?_), ?_⟩
                · obtain ⟨x0, -⟩ := hs
                  have e0 : aF.eval (.tmp 3) = .pointer (some ⟨b, 0, none⟩) := x0
                  refine opC_value (v := .pointer (some ⟨b, 1, none⟩)) ?_ ⟨rfl, below_same wF⟩
                  have t0 := ev_of e0
                  simp [execOp, go_sem, t0]
                refine ⟨step_free rfl (fun aF wF hs hb => ?_), ?_⟩
                · obtain ⟨x0, -⟩ := hs
                  have e0 : aF.eval (.tmp 58) = .pointer (some ⟨b, 1, none⟩) := x0
                  exact opC_load e0 (L59 wF hb) ⟨rfl, below_same wF⟩
                refine ⟨step_free rfl (fun aF wF hs hb => ?_), ?_⟩
                · obtain ⟨x0, x1, -⟩ := hs
                  have e0 : aF.eval (.tmp 57) = .slice (some ⟨g, 0, none⟩) gs.length cF2 := x0
                  have e1 : aF.eval (.tmp 59) = .int .i64 (p : Int) := x1
                  refine opC_value (v := .pointer (some ⟨g, p, none⟩)) ?_ ⟨rfl, below_same wF⟩
                  simp [execOp, go_sem, ev_of e0, ev_of e1, p0, p1]
                refine ⟨step_free rfl (fun aF wF hs hb => ?_), ?_⟩
                · obtain ⟨x0, -⟩ := hs
                  have e0 : aF.eval (.tmp 60) = .pointer (some ⟨g, p, none⟩) := x0
                  exact opC_load e0 (L61 wF hb) ⟨rfl, below_same wF⟩
                refine ⟨step_free rfl (fun aF wF hs hb => ?_), ?_⟩
                · obtain ⟨x0, -⟩ := hs
                  have e0 : aF.eval (.tmp 8) = .int .i64 ((N : Int) + (k : Int)) := x0
                  exact opC_move e0 ⟨rfl, below_same wF⟩
                refine ⟨step_free rfl (fun aF wF hs hb => ?_), ?_⟩
                · obtain ⟨x0, -⟩ := hs
                  have e0 : aF.eval (.tmp 62) = .int .i64 ((N : Int) + (k : Int)) := x0
                  refine opC_value (v := .int .i64 (q : Int)) ?_ ⟨rfl, below_same wF⟩
                  simp [execOp, go_sem, ev_of e0, hq, hqw]
                refine ⟨step_free rfl (fun aF wF hs hb => ?_), ?_⟩
                · obtain ⟨x0, x1, -⟩ := hs
                  have e0 : aF.eval (.tmp 61) = .slice (some ⟨g5, 0, none⟩) 256 c5 := x0
                  have e1 : aF.eval (.tmp 63) = .int .i64 (q : Int) := x1
                  refine opC_value (v := .pointer (some ⟨g5, q, none⟩)) ?_ ⟨rfl, below_same wF⟩
                  simp [execOp, go_sem, ev_of e0, ev_of e1, q0, q1]
                refine ⟨step_free rfl (fun aF wF hs hb => ?_), ?_⟩
                · obtain ⟨x0, -⟩ := hs
                  have e0 : aF.eval (.tmp 64) = .pointer (some ⟨g5, q, none⟩) := x0
                  exact opC_load e0 (L65 wF hb) ⟨rfl, below_same wF⟩
                refine ⟨step_free rfl (fun aF wF hs hb => ?_), ?_⟩
                · exact opC_tab ⟨⟨_, rfl, Blk.new _ _ _⟩, (Below.refl _ wF).alloc (Nat.le_refl _) _⟩
                refine ⟨step_free rfl (fun aF wF hs hb => ?_), ?_⟩
                · obtain ⟨x0, -⟩ := hs
                  have e0 : aF.eval (.tmp 8) = .int .i64 ((N : Int) + (k : Int)) := x0
                  exact opC_move e0 ⟨rfl, below_same wF⟩
                refine ⟨step_free rfl (fun aF wF hs hb => ?_), ?_⟩
                · obtain ⟨x0, -⟩ := hs
                  have e0 : aF.eval (.tmp 67) = .int .i64 ((N : Int) + (k : Int)) := x0
                  refine opC_value (v := .int .i64 (j : Int)) ?_ ⟨rfl, below_same wF⟩
                  simp [execOp, go_sem, ev_of e0, hr, hjw]
                refine ⟨step_free rfl (fun aF wF hs hb => ?_), ?_⟩
                · obtain ⟨x0, x1, -⟩ := hs
                  obtain ⟨g7, h7, hb7⟩ : (tabF).p (aF.eval (.tmp 66)) wF := x0
                  have e1 : aF.eval (.tmp 68) = .int .i64 (j : Int) := x1
                  refine opC_value (v := .pointer (some ⟨g7, j, none⟩)) ?_ ⟨⟨g7, rfl, hb7⟩, below_same wF⟩
                  simp [execOp, go_sem, ev_of h7, ev_of e1, j0, j1]
                refine ⟨step_free rfl (fun aF wF hs hb => ?_), ?_⟩
                · obtain ⟨x0, -⟩ := hs
                  obtain ⟨g7, h7, hb7⟩ : (tabP j).p (aF.eval (.tmp 69)) wF := x0
                  have c7 := tab_cell hb7 j8
                  rw [HPW.out] at c7
                  refine opC_load h7 (v := .int .u8 (pw : Int)) ?_ ⟨rfl, below_same wF⟩
                  go_simp
                refine ⟨step_free rfl (fun aF wF hs hb => ?_), ?_⟩
                · obtain ⟨x0, x1, -⟩ := hs
                  have e0 : aF.eval (.tmp 65) = .int .u8 (x8.toNat : Int) := x0
                  have e1 : aF.eval (.tmp 70) = .int .u8 (pw : Int) := x1
                  refine opC_value (v := .int .u8 (u.toNat : Int)) ?_ ⟨rfl, below_same wF⟩
                  simp [execOp, go_sem, ev_of e0, ev_of e1, hxo]
                refine ⟨step_free rfl (fun aF wF hs hb => ?_), ?_⟩
                · obtain ⟨x0, x1, -⟩ := hs
                  have e0 : aF.eval (.tmp 61) = .slice (some ⟨g5, 0, none⟩) 256 c5 := x0
                  have e1 : aF.eval (.tmp 63) = .int .i64 (q : Int) := x1
                  refine opC_value (v := .pointer (some ⟨g5, q, none⟩)) ?_ ⟨rfl, below_same wF⟩
                  simp [execOp, go_sem, ev_of e0, ev_of e1, q0, q1]
                exact trivial
              · intro fv w6 hf hb6
                have h1 : fv 17 = .int .u8 (u.toNat : Int) := hf 17 71 rfl
                have h2 : fv 18 = .pointer (some ⟨g5, q, none⟩) := hf 18 72 rfl
                have ho6 : OwnB w6 w1.heap.size (.slice (some ⟨g5, 0, none⟩) 256 c5) 256 (turnK l0 N kk k) := HOS.out.keptB (own := fun _ => False) (Kept.of_below hb6) (fun _ _ h => h)
                obtain ⟨g6, c6, e6, -, -, qc, qf, hset⟩ := own_setB ho6 (j := q) (by rw [HQ8.out]; exact q8)
                injection e6 with e6 _ _
                injection e6 with e6
                injection e6 with e6 _ _
                subst e6
                have HO7 : Hid (OwnB (w6.setCell ⟨g5, q, none⟩ (.int .u8 (u.toNat : Int))) w1.heap.size (.slice (some ⟨g5, 0, none⟩) 256 c5) 256 (turnK l0 N kk (min (k + 1) (2048 - N)))) := Lib.hid (by
                  rw [show min (k + 1) (2048 - N) = k + 1 by omega, HT.out]
                  exact hset u)
                have HK7 : Hid (Kept (fun i => i = g5) w4 (w6.setCell ⟨g5, q, none⟩ (.int .u8 (u.toNat : Int)))) := Lib.hid ((HK.out.trans (Kept.of_below (own := fun i => i = g5) hb6) (fun _ _ h => h)).trans (own' := fun i => i = g5) ⟨rfl, rfl, rfl, by simp [World.setCell], fun j hj hn => Below.heap_setCell w6 ⟨g5, q, none⟩ _ j hn⟩ (fun _ _ h => h))
                generalize (turnK l0 N kk k)[q]'(by rw [HQ8.out]; exact q8) = x9 at qc
                simp only [putF, Act.put, List.setIfInBounds_toArray, List.set_cons_zero, List.set_cons_succ]
                rw [h1, h2]
                clear hf h1 h2 hset hb6 ho6 L57 L59 L61 L65 HT HO HK hx2q hgq hbq
                refine opC_skip (w' := w6.setCell ⟨g5, q, none⟩ (.int .u8 (u.toNat : Int))) (by simp [execOp, go_sem, qc, qf]) ?_
                go_wp2_with fail
                go_roundw
                case rel => exact ⟨k + 1, by omega, by go_num, HO7, HK7⟩
                case measure => simp [intOf]; omega
            · rename_i hbit
              have hbit2 : ¬ kk.testBit k = true := by
                rw [Nat.testBit_eq_decide_div_mod_eq]
                intro h
                have e := tdiv_bit kk k
                rw [e] at hbit
                have h := of_decide_eq_true h
                rw [h] at hbit
                cases hbit
              have HO7 : Hid (OwnB wr w1.heap.size (.slice (some ⟨g5, 0, none⟩) 256 c5) 256 (turnK l0 N kk (min (k + 1) (2048 - N)))) := Lib.hid (by
                have h := HO.out
                rw [show min k (2048 - N) = k by omega] at h
                rw [show min (k + 1) (2048 - N) = k + 1 by omega, turnK, if_neg hbit2]
                exact h)
              go_roundw
              case rel => exact ⟨k + 1, by omega, by go_num, HO7, HK⟩
              case measure => simp [intOf]; omega
          · have hb9 : decide ((N : Int) + (k : Int) < 2048) = false := decide_eq_false (by omega)
            go_wp2_with fail
            go_roundw
            case rel => exact ⟨k + 1, by omega, by go_num, Lib.hid (by have h := HO.out; rw [show min k (2048 - N) = min (k + 1) (2048 - N) by omega] at h; exact h), HK⟩
            case measure => simp [intOf]; omega
        · obtain rfl : k = 32 := by omega
          have hx4 := HX1.out.below HB.out
          have hxr : Blk wr x 53 _ := (HK.out.block x hx4.head.lt (fun e => by have := HX1.out.head.lt; omega)).trans hx4.head
          have c0 := (show Blk wr x2 53 _ from (HK.out.block x2 HHX2.out.lt HNE.out.2.1).trans HHX2.out).cell 0
          simp at c0
          rw [HL.out] at c0
          have d0 := hxr.cell 0
          have d1 := hxr.cell 1
          have e0 := hxr.frozen 0
          have e1 := hxr.frozen 1
          simp at d0 d1
          have d2 := fun v => (World.cell?_setCell_other wr ⟨x, 0, none⟩ ⟨x, 1, none⟩ v (by simp)).trans d1
          have HFIN := Lib.hid (XD.turned HXX.out HOO.out.1 HOO.out.2 (HBL.out.trans (HW1.out.mono HBL.out.size)) HWO.out HBL.out.size HB.out (by have h := HN.out; exact h) HC.out HL.out hp (by rw [HL0.out.2]; exact HV5.out) (by rw [turnK_length]; exact HL256.out) HO.out HK.out)
          have HMAP : Hid ((g2.set p ⟨some ⟨g5, 0, none⟩, c5, turnK l0 N kk (min 32 (2048 - N))⟩).map Seg.l = (sfA (gs.map Seg.l) (dsl ds)).set p (turnK ((sfA (gs.map Seg.l) (dsl ds)).getD p []) N kk (min 32 (2048 - N)))) := Lib.hid (by
            rw [List.map_set, copied_map HC.out HL.out]
            congr 2
            rw [← copied_map HC.out HL.out, ← HL0.out.1, List.getD_eq_getElem?_getD, List.getD_eq_getElem?_getD, List.getElem?_map, List.getElem?_eq_getElem hp2]
            rfl)
          have HNEW : Hid (∀ i, i < w.heap.size → ownD x (.slice (some ⟨g, 0, none⟩) (g2.set p ⟨some ⟨g5, 0, none⟩, c5, turnK l0 N kk (min 32 (2048 - N))⟩).length cF2) (.slice AW (waS ds).length cW) i → i = x) := Lib.hid (by
            rintro i hi (e | e | e)
            · exact e
            · injection e with e
              have e : g = i := e
              have := HBL.out.size
              have := HW1.out.size
              omega
            · have := (HWO.out.lt i e).1
              have := HBL.out.size
              omega)
          clear hx4 hxr HO HK HN HC HXX HOO HX1 HWO HL0 HV5 HNE HHX2 HSP HCG HBXR HBX1 HS9 HE9
          go_wp2_with fail
          exact bodyPost_ret (v := .tuple #[]) (by simp [results, Tryd.results24, go_sem, Result.andThen]) rfl ⟨_, _, _, _, _, rfl, HFIN.out.1, HMAP.out, HFIN.out.2, HNEW.out⟩
end Go.Proofs.YthljcekodlbplaaDoor
