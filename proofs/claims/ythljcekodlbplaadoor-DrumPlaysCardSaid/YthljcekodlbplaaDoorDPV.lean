/-
  The document's Play: a Fall. Conditions: the document's drum is there.
-/
import Derived.Test.YthljcekodlbplaaDoorDPE
import Derived.Test.YthljcekodlbplaaDoorDPR
import Derived.Test.YthljcekodlbplaaDoorDPU
import Derived.BigQuiet
namespace Go.Proofs.YthljcekodlbplaaDoor
open Go.ChangeShapes Go.WideShapes Go.ChangeAt Go.RowKit

/-- What a Fall leaves. -/
def PlayL (w : World) (oo : Nat → Prop) (gs : List Seg) (ds : List (Int × Seg)) (K : List Bool) (N : Int) (e : Ending) (w' : World) : Prop :=
  ∃ x2 AF' cF' gs', e = .returned (.tuple #[.pointer (some ⟨x2, 0, none⟩), .int .i64 0]) ∧ XD w' w.heap.size x2 (fun i => oo i ∨ ownD x2 (.slice AF' gs'.length cF') (.slice none 0 0) i) AF' cF' gs' none 0 [] (-1) ∧ gs'.map Seg.l = rfOf (sfA (gs.map Seg.l) (dsl ds)) (dn (waR (dsl ds))) K N ∧ Below w.heap.size w w'
set_option maxRecDepth 100000 in
set_option maxHeartbeats 4000000 in
theorem Play_fall_neg {w : World} {x : Nat} {AF AP AK : Option Addr} {nF cF nP cP nK cK a k : Nat} {p N left : Int} {v1 : Value} (hp : ¬ 0 ≤ p) (ha : a % 7 = 4) {base cD : Nat} {oo : Nat → Prop} {gs : List Seg} {AD : Option Addr} {ds : List (Int × Seg)} {K : List Bool} (hv1 : v1 = .slice AD ds.length cD) (hnF : gs.length = nF) (hXD : XD w base x oo AF cF gs AD cD ds left) (hown : ∀ i, ownD x (.slice AF gs.length cF) (.slice AD ds.length cD) i → oo i) (hoo : ∀ i, oo i → i < w.heap.size) (hg9 : gs.length ≤ 1000) (hd9 : ds.length ≤ 100000) (hs : ∀ s ∈ gs, s.l.length = 256) (he : ∀ d ∈ ds, 0 ≤ d.1 → d.2.l.length = 256) (hc9 : ∀ d ∈ ds, 0 ≤ d.1 → 256 ≤ d.2.cap) (hwa : ∀ d ∈ waS ds, 0 ≤ d.1 ∧ d.1 < (gs.length : Int)) (hKK : Rb w w.heap.size AK K) (hnK : K.length = nK) (hmK : nK ≤ maxLen) (h : Blk w x 53 #[.slice AF nF cF, v1, .int .i64 left]) :
    Calls Tryd.prog 9 #[.pointer (some ⟨x, 0, none⟩), .agg #[.int .u8 (a : Int), .int .i64 p, .slice AP nP cP, .slice AK nK cK, .int .i64 N, .int .u32 (k : Int)]] w fun e w' => PlayL w oo gs ds K N e w' := by
  obtain ⟨b, hb⟩ : ∃ b, w.heap.size = b := ⟨_, rfl⟩
  obtain ⟨W, hW⟩ : ∃ W, w.alloc (.cells #[.int .u8 (a : Int), .int .i64 p, .slice AP nP cP, .slice AK nK cK, .int .i64 N, .int .u32 (k : Int)] 35) = W := ⟨_, rfl⟩
  have hbx := Blk.new w 35 #[.int .u8 (a : Int), .int .i64 p, .slice AP nP cP, .slice AK nK cK, .int .i64 N, .int .u32 (k : Int)]
  have hx := h.alloc (.cells #[.int .u8 (a : Int), .int .i64 p, .slice AP nP cP, .slice AK nK cK, .int .i64 N, .int .u32 (k : Int)] 35)
  have hbl := (Below.refl _ w).alloc (Nat.le_refl _) (.cells #[.int .u8 (a : Int), .int .i64 p, .slice AP nP cP, .slice AK nK cK, .int .i64 N, .int .u32 (k : Int)] 35)
  have hxl := h.lt
  rw [hW] at hbx hx hbl
  rw [hb] at hbx hxl
  have HW := Lib.hid (And.intro hW hb)
  have LP : ∀ W', Below W.heap.size W W' → (Instr.loadAt 3 (.pointer (some ⟨b, 1, none⟩))).run Tryd.prog W' = .ok (.int .i64 p) W' := fun W' hb' => by
    have c0 := (hbx.below hb' hbx.lt).cell 1
    simp at c0
    go_simp
  have LF : ∀ W', Below W.heap.size W W' → (Instr.loadAt 50 (.pointer (some ⟨x, 0, none⟩))).run Tryd.prog W' = .ok (.slice AF nF cF) W' := fun W' hb' => by
    have c0 := (hx.below hb' hx.lt).cell 0
    simp at c0
    go_simp
  have HX := Lib.hid hx
  have HBX := Lib.hid hbx
  have HBL := Lib.hid hbl
  have HXL := Lib.hid hxl
  have hr : ((a : Int)).tmod 7 = 4 := by
    rw [Int.tmod_eq_emod_of_nonneg (by omega)]
    omega
  clear ha
  subst hv1
  have HOO := Lib.hid (And.intro hown hoo)
  have HXD := Lib.hid hXD
  have HS9 := Lib.hid hs
  have HE9 := Lib.hid he
  have HWA := Lib.hid hwa
  have HC9 := Lib.hid hc9
  have HKK := Lib.hid hKK
  have HG9 : Hid (gs.length ≤ 100000) := Lib.hid (by omega)
  have HD9 := Lib.hid hd9
  clear hXD hown hoo hs he hwa hKK hd9 hc9
  clear h hbx hx hbl hxl hW hb
  go_enter Tryd.func9, Tryd.ntmps9
  go_wp2_with fail
  rw [HW.out.1, HW.out.2]
  refine wp_region_flow [some 13, some 14, some 15, some 16, some 17, some 18, some 19, some 20, some 21, some 22, some 23, some 24, some 25, some 6] (fun i => ([.is (.pointer (some ⟨b, 1, none⟩)), .is (.int .i64 p), .is (.bool false), .is (.bool false), .is undef, .is undef, .is undef, .is undef, .is undef, .is undef, .is undef, .is undef, .is (.bool false), .is (.bool false)] : List Flw).getD i .any) (by kernel_rfl) (by kernel_rfl) rfl ?_ ?_
  · refine ⟨step_free rfl (fun aF wF hs hb => ?_), ?_⟩
    · obtain ⟨x0, -⟩ := hs
      have e0 : aF.eval (.tmp 3) = .pointer (some ⟨b, 0, none⟩) := x0
      refine opC_value (v := .pointer (some ⟨b, 1, none⟩)) ?_ ⟨rfl, below_same wF⟩
      have t0 := ev_of e0
      simp [execOp, go_sem, t0]
    refine ⟨step_free rfl (fun aF wF hs hb => ?_), ?_⟩
    · obtain ⟨x0, -⟩ := hs
      have e0 : aF.eval (.tmp 13) = .pointer (some ⟨b, 1, none⟩) := x0
      exact opC_load e0 (LP wF hb) ⟨rfl, below_same wF⟩
    refine ⟨step_free rfl (fun aF wF hs hb => ?_), ?_⟩
    · obtain ⟨x0, -⟩ := hs
      have e0 : aF.eval (.tmp 14) = .int .i64 p := x0
      refine opC_value (v := .bool false) ?_ ⟨rfl, below_same wF⟩
      simp [execOp, go_sem, ev_of e0, hp]
    refine ⟨step_free rfl (fun aF wF hs hb => ?_), ?_⟩
    · obtain ⟨x0, -⟩ := hs
      have e0 : aF.eval (.tmp 15) = .bool false := x0
      exact opC_move e0 ⟨rfl, below_same wF⟩
    refine ⟨step_no 3 16 rfl rfl (fun _ _ h => h) (fun _ => rfl), ?_⟩
    refine ⟨step_no 3 16 rfl rfl (fun _ _ h => h) (fun _ => rfl), ?_⟩
    refine ⟨step_no 3 16 rfl rfl (fun _ _ h => h) (fun _ => rfl), ?_⟩
    refine ⟨step_no 3 16 rfl rfl (fun _ _ h => h) (fun _ => rfl), ?_⟩
    refine ⟨step_no 3 16 rfl rfl (fun _ _ h => h) (fun _ => rfl), ?_⟩
    refine ⟨step_no 3 16 rfl rfl (fun _ _ h => h) (fun _ => rfl), ?_⟩
    refine ⟨step_no 3 16 rfl rfl (fun _ _ h => h) (fun _ => rfl), ?_⟩
    refine ⟨step_no 3 16 rfl rfl (fun _ _ h => h) (fun _ => rfl), ?_⟩
    refine ⟨step_free rfl (fun aF wF hs hb => ?_), ?_⟩
    · obtain ⟨x0, x1, -⟩ := hs
      have e0 : aF.eval (.tmp 16) = .bool false := x0
      have e1 : aF.eval (.tmp 24) = undef := x1
      refine opC_value (v := .bool false) ?_ ⟨rfl, below_same wF⟩
      have t0 := ev_of e0
      have t1 := ev_of e1
      simp [execOp, go_sem, t0, t1]
    refine ⟨step_free rfl (fun aF wF hs hb => ?_), ?_⟩
    · obtain ⟨x0, -⟩ := hs
      have e0 : aF.eval (.tmp 25) = .bool false := x0
      exact opC_assign e0 ⟨rfl, below_same wF⟩
    exact trivial
  · intro f w6 hf hb6
    have h9 : f 13 = .bool false := hf 13 6 rfl
    simp only [putF, Act.put, List.setIfInBounds_toArray, List.set_cons_zero, List.set_cons_succ]
    rw [h9]
    have HX6 := Lib.hid (HX.out.below hb6 HX.out.lt)
    have HBX6 := Lib.hid (HBX.out.below hb6 HBX.out.lt)
    have HB6 := Lib.hid (HBL.out.trans (hb6.mono HBL.out.size))
    clear hf h9 hb6 LP LF HX HBX HBL HW
    have b0 := HBX6.out.cell 0
    have b1 := HBX6.out.cell 1
    have b4 := HBX6.out.cell 4
    simp at b0 b1 b4
    subst hnF
    have HXD6 := Lib.hid (HXD.out.below HB6.out)
    obtain ⟨w1, rfl⟩ : ∃ W, W = w6 := ⟨_, rfl⟩
    have HX1 := HXD6
    have HBX1 := HBX6
    have HW1 := HB6
    have c0 := HX1.out.head.cell 0
    simp at c0
    clear HX6 HXD HXD6 HBX6 HB6 b1 b4
    go_wp2_with fail
    refine (RNew_any gs.length hg9 w1).mono ?_
    rintro e w2 ⟨x2, AF2, cF2, g20, rfl, hn2, hl2, -, hb2⟩
    have c0 := hn2.head.cell 0
    simp at c0
    rw [hl2] at c0
    have HN2 := Lib.hid hn2
    have HL2 := Lib.hid hl2
    have HB2 := Lib.hid hb2
    clear hn2 hl2 hb2 b0
    go_wp2_with fail
    go_loopw [8, 83] (fun _ j wr => ∃ (k : Nat) (g2 : List Seg), k ≤ gs.length ∧ j = .int .i64 (k : Int) ∧ Hid (g2.length = gs.length) ∧ Hid (XD wr w1.heap.size x2 (nw w1.heap.size (ownD x2 (.slice AF2 g2.length cF2) (.slice none 0 0))) AF2 cF2 g2 none 0 [] (-1)) ∧ Hid (Copied wr w1.heap.size gs ds g2 k) ∧ Hid (Below w1.heap.size w1 wr)) (fun _ j _ => gs.length - (intOf j).toNat)
    case atStart => exact ⟨0, g20, Nat.zero_le _, rfl, HL2, HN2, Lib.hid (Copied.zero _ _ _ _ _), HB2⟩
    case round =>
      obtain ⟨k, g2, hk, rfl, HL, HN, HC, HB⟩ := hrel
      by_cases hlt : k < gs.length
      · have hk2 : k < g2.length := by rw [HL.out]; exact hlt
        obtain ⟨g, e, -, hgb, -, -, -⟩ := own_setF HN.out.rowF hk2
        subst e
        obtain ⟨sg, hsg⟩ : ∃ sg, sfS gs ds k = sg := ⟨_, rfl⟩
        have hX := HX1.out.below HB.out
        have hsg2 : Rd wr wr.heap.size sg.at_ sg.l := by
          rw [← hsg]
          exact (sfS_in (p := fun s => RdK oo wr s.at_ s.l) hX.segs (fun d hd _ => hX.deeds d hd) hlt).rd
        have hsg3 : sg.l.length = 256 := by
          rw [← hsg]
          exact sfS_in (p := fun s => s.l.length = 256) HS9.out HE9.out hlt
        have HLW : Hid (∀ W', Below wr.heap.size wr W' → XD W' base x oo AF cF gs AD cD ds left) := Lib.hid (fun W' hb => hX.below hb)
        have hk0 : (0 : Int) ≤ (k : Int) := by omega
        have hkn : (k : Int) < (gs.length : Int) := by omega
        have LF : ∀ W', Below wr.heap.size wr W' → (Instr.loadAt 50 (.pointer (some ⟨x2, 0, none⟩))).run Tryd.prog W' = .ok (.slice (some ⟨g, 0, none⟩) gs.length cF2) W' := fun W' hb => by
          have c0 := (HN.out.below hb).head.cell 0
          simp at c0
          rw [HL.out] at c0
          go_simp
        have CS : ∀ W', Below wr.heap.size wr W' → Calls Tryd.prog 21 #[.pointer (some ⟨x, 0, none⟩), .int .i64 (k : Int)] W' fun e w' => e = .returned sg.val ∧ Below W'.heap.size W' w' := fun W' hb => by
          rw [← hsg]
          exact safe_x (HLW.out W' hb) k hlt HG9.out HD9.out
        have CC : ∀ W', Below wr.heap.size wr W' → Calls Tryd.prog 7 #[sg.val, .int .i64 256] W' (ToF (newF wr.heap.size sg.l) W') := fun W' hb =>
          cutNew hb hsg3 ((hsg2.below hb).more hb.size)
        have HSG := Lib.hid hsg
        clear hsg hsg2 hsg3 hX
        go_wp2_with fail
        refine wp_region_flow_last (l := [_, _, _, _, _, _, _, _, _, _]) (ol := _) rfl [some 86, some 87, some 88, some 89, some 90, some 91, some 92, some 93, some 94, some 95] (fun i => ([.is (.pointer (some ⟨x2, 0, none⟩)), .is (.pointer (some ⟨x2, 0, none⟩)), .is (.pointer (some ⟨x2, 0, none⟩)), .is (.slice (some ⟨g, 0, none⟩) gs.length cF2), .is (.int .i64 (k : Int)), .is (.pointer (some ⟨x, 0, none⟩)), .is (.int .i64 (k : Int)), .is (sg.val), newF wr.heap.size sg.l, .is (.pointer (some ⟨g, k, none⟩))] : List Flw).getD i .any) (by kernel_rfl) (by kernel_rfl) (by kernel_rfl) rfl rfl ?_ ?_
        · refine ⟨step_free rfl (fun aF wF hs hb => ?_), ?_⟩
          · obtain ⟨x0, -⟩ := hs
            have e0 : aF.eval (.tmp 7) = .pointer (some ⟨x2, 0, none⟩) := x0
            exact opC_move e0 ⟨rfl, below_same wF⟩
          refine ⟨step_free rfl (fun aF wF hs hb => ?_), ?_⟩
          · obtain ⟨x0, -⟩ := hs
            have e0 : aF.eval (.tmp 86) = .pointer (some ⟨x2, 0, none⟩) := x0
            refine opC_value (v := .pointer (some ⟨x2, 0, none⟩)) ?_ ⟨rfl, below_same wF⟩
            have t0 := ev_of e0
            simp [execOp, go_sem, t0]
          refine ⟨step_free rfl (fun aF wF hs hb => ?_), ?_⟩
          · obtain ⟨x0, -⟩ := hs
            have e0 : aF.eval (.tmp 87) = .pointer (some ⟨x2, 0, none⟩) := x0
            refine opC_value (v := .pointer (some ⟨x2, 0, none⟩)) ?_ ⟨rfl, below_same wF⟩
            have t0 := ev_of e0
            simp [execOp, go_sem, t0]
          refine ⟨step_free rfl (fun aF wF hs hb => ?_), ?_⟩
          · obtain ⟨x0, -⟩ := hs
            have e0 : aF.eval (.tmp 88) = .pointer (some ⟨x2, 0, none⟩) := x0
            exact opC_load e0 (LF wF hb) ⟨rfl, below_same wF⟩
          refine ⟨step_free rfl (fun aF wF hs hb => ?_), ?_⟩
          · obtain ⟨x0, -⟩ := hs
            have e0 : aF.eval (.tmp 8) = .int .i64 (k : Int) := x0
            exact opC_move e0 ⟨rfl, below_same wF⟩
          refine ⟨step_free rfl (fun aF wF hs hb => ?_), ?_⟩
          · obtain ⟨x0, -⟩ := hs
            have e0 : aF.eval (.tmp 0) = .pointer (some ⟨x, 0, none⟩) := x0
            exact opC_move e0 ⟨rfl, below_same wF⟩
          refine ⟨step_free rfl (fun aF wF hs hb => ?_), ?_⟩
          · obtain ⟨x0, -⟩ := hs
            have e0 : aF.eval (.tmp 8) = .int .i64 (k : Int) := x0
            exact opC_move e0 ⟨rfl, below_same wF⟩
          refine ⟨step_free rfl (fun aF wF hs hb => ?_), ?_⟩
          · obtain ⟨x0, x1, -⟩ := hs
            have e0 : aF.eval (.tmp 91) = .pointer (some ⟨x, 0, none⟩) := x0
            have e1 : aF.eval (.tmp 92) = .int .i64 (k : Int) := x1
            exact opC_call (args := #[.pointer (some ⟨x, 0, none⟩), .int .i64 (k : Int)]) (enters9 Tryd.func21 (by kernel_rfl) rfl) (by simp [e0, e1]) (CS wF hb) (fun _ h => ⟨rfl, h⟩)
          refine ⟨step_free rfl (fun aF wF hs hb => ?_), ?_⟩
          · obtain ⟨x0, -⟩ := hs
            have e0 : aF.eval (.tmp 93) = sg.val := x0
            exact opC_callF (args := #[sg.val, .int .i64 256]) (enters9 Tryd.func7 (by kernel_rfl) rfl) (by simp [e0]; rfl) (CC wF hb) (fun _ _ h1 h2 => ⟨h1, h2⟩)
          refine ⟨step_free rfl (fun aF wF hs hb => ?_), ?_⟩
          · obtain ⟨x0, x1, -⟩ := hs
            have e0 : aF.eval (.tmp 89) = .slice (some ⟨g, 0, none⟩) gs.length cF2 := x0
            have e1 : aF.eval (.tmp 90) = .int .i64 (k : Int) := x1
            refine opC_value (v := .pointer (some ⟨g, k, none⟩)) ?_ ⟨rfl, below_same wF⟩
            simp [execOp, go_sem, ev_of e0, ev_of e1, hk0, hkn]
          exact trivial
        · intro fv w6 hf hb6
          have h1 : (newF wr.heap.size sg.l).p (fv 8) w6 := hf 8 94 rfl
          obtain ⟨s, h1, hsl, -, hso⟩ := h1
          obtain ⟨hsr, hsn⟩ := own_seg hso
          have h2 : fv 9 = .pointer (some ⟨g, k, none⟩) := hf 9 95 rfl
          obtain ⟨g', e, hbg, qc, qf, -, -, qX⟩ := XD.setF (ds := []) (AD := none) (cD := 0) (s := s) HN.out HB.out.size hk2 hb6 hsr hsn
          injection e with e
          injection e with e _ _
          subst e
          have qk : Kept (fun i => i = g) w6 (w6.setCell ⟨g, k, none⟩ s.val) := ⟨rfl, rfl, rfl, by simp [World.setCell], fun j hj hn => Below.heap_setCell w6 ⟨g, k, none⟩ _ j hn⟩
          have qg : ∃ cs, Blk w6 g 31 cs := by
            have h := (HN.out.below hb6).rowF
            unfold OwnS at h
            rcases h.2 with ⟨h, _⟩ | ⟨g', cap, cur, h, _, h3, _⟩
            · injection h with h; cases h
            · injection h with h _ _
              injection h with h
              injection h with h _ _
              subst h
              exact ⟨cur, h3⟩
          simp only [putF, Act.put, List.setIfInBounds_toArray, List.set_cons_zero, List.set_cons_succ]
          rw [h1, h2]
          have HC2 := Lib.hid (HC.out.next (gs := gs) (ds := ds) hb6 hk2 (by rw [hsl, HSG.out]) HB.out.size hso qk qg)
          have HL3 : Hid ((g2.set k s).length = gs.length) := Lib.hid (by rw [List.length_set]; exact HL.out)
          have HX4 := Lib.hid qX
          have HB4 : Hid (Below w1.heap.size w1 (w6.setCell ⟨g, k, none⟩ s.val)) := Lib.hid ((HB.out.trans (hb6.mono HB.out.size)).trans (qk.below (Nat.le_trans HB.out.size hb6.size) (fun i hi e => by omega)))
          generalize g2[k] = old at qc
          unfold Seg.val at qc
          clear hf h1 h2 qX qk qg hb6 hsr hsn hso LF CS CC HC HN HL HB hsl HLW HSG
          refine opC_skip (w' := w6.setCell ⟨g, k, none⟩ s.val) (by unfold Seg.val; simp [execOp, go_sem, qc, qf]) ?_
          go_wp2_with fail
          go_roundw
          case rel => exact ⟨k + 1, _, by omega, by go_num, HL3, HX4, HC2, HB4⟩
          case measure => simp [intOf]; omega
      · obtain rfl : k = gs.length := by omega
        have hX4 := HX1.out.below HB.out
        have HN0 : Hid (XD wr w1.heap.size x2 (fun i => oo i ∨ ownD x2 (.slice AF2 g2.length cF2) (.slice none 0 0) i) AF2 cF2 g2 none 0 [] (-1)) := Lib.hid (HN.out.weaken (fun i hi e => by
          rcases e with e | e
          · exact .inl (Nat.lt_of_lt_of_le (HOO.out.2 i e) HW1.out.size)
          · exact .inr e))
        have HM0 := Lib.hid (copied_map HC.out HL.out)
        have HL256 := Lib.hid (copied_len HC.out HL.out HS9.out HE9.out)
        have HBB : Hid (Blk wr b 35 _) := Lib.hid (HBX1.out.below HB.out HBX1.out.lt)
        have HXr := Lib.hid hX4
        have HBr : Hid (Below w1.heap.size w1 wr) := HB
        have HOWN2 : Hid (∀ i, ownD x2 (.slice AF2 gs.length cF2) (.slice none 0 0) i → w1.heap.size ≤ i ∧ i < wr.heap.size) := Lib.hid (fun i e => ⟨HN.out.gee i (by rw [HL.out]; exact e), HN.out.lt i (by rw [HL.out]; exact e)⟩)
        clear hX4 HN HC HB
        have c1 := HXr.out.head.cell 1
        simp at c1
        obtain ⟨w4, rfl⟩ : ∃ W, W = wr := ⟨_, rfl⟩
        go_wp2_with fail
        refine (RWaits_any ds HXr.out.head HXr.out.rsD.1 rfl HD9.out).mono ?_
        rintro e w5 ⟨AW, cW, rfl, hwc, hwm, hwo, hw5⟩
        obtain ⟨_, A8, c8, e8, _, _, hrsW⟩ := hwo.form (by decide)
        injection e8 with e8 _ _
        subst e8
        have HAW : Hid (∀ b q, AW = some ⟨b, q, none⟩ → w4.heap.size ≤ b) := Lib.hid (fun b q e => (hwo.lt b (by rw [e]; rfl)).1)
        have HRW := Lib.hid hrsW
        have HN5 := Lib.hid (HN0.out.below hw5)
        have HBB5 := Lib.hid (HBB.out.below hw5 HBB.out.lt)
        have HB5 := Lib.hid (HBr.out.trans (hw5.mono HBr.out.size))
        clear hwc hwm hwo hw5 hrsW HN0 HBB HXr HBr c1
        obtain ⟨fl, hfl⟩ : ∃ fl, sfA (gs.map Seg.l) (dsl ds) = fl := ⟨_, rfl⟩
        rw [hfl] at HM0
        have HFL := Lib.hid hfl
        obtain ⟨wz, hwz⟩ : ∃ wz, dn (waR (dsl ds)) = wz := ⟨_, rfl⟩
        have HWZ := Lib.hid hwz
        have HWL : Hid (wz.length = (waS ds).length) := Lib.hid (by rw [← hwz]; exact dn_len ds)
        have hwl9 : (waS ds).length ≤ 100000 := by have := waS_le ds; have := HD9.out; omega
        clear hfl hwz
        go_wp2_with fail
        go_loopw [9, 10, 11, 12, 100] (fun la wv _ _ j wr => ∃ (k : Nat) (g3 : List Seg) (sw : Seg) (lz : Option Nat), k ≤ (waS ds).length ∧ j = .int .i64 (k : Int) ∧ la = .int .i64 (lastI lz) ∧ wv = sw.val ∧ Hid (g3.length = gs.length) ∧ Hid (rfK fl wz K k = (g3.map Seg.l, lz, sw.l)) ∧ Hid (∀ a, lz = some a → a < gs.length ∧ sw.l.length = 256 ∧ 256 ≤ sw.cap) ∧ Hid (∀ s ∈ g3, s.l.length = 256 ∧ 256 ≤ s.cap) ∧ Hid (RdK (fun i => oo i ∨ ownD x2 (.slice AF2 g3.length cF2) (.slice none 0 0) i) wr sw.at_ sw.l) ∧ Hid (XD wr w1.heap.size x2 (fun i => oo i ∨ ownD x2 (.slice AF2 g3.length cF2) (.slice none 0 0) i) AF2 cF2 g3 none 0 [] (-1)) ∧ Hid (Kept (ownD x2 (.slice AF2 gs.length cF2) (.slice none 0 0)) w5 wr)) (fun _ _ _ _ j _ => (waS ds).length - (intOf j).toNat)
        case atStart => exact ⟨0, g2, noSeg, none, Nat.zero_le _, rfl, rfl, rfl, HL, Lib.hid (by rw [HM0.out]; rfl), Lib.hid (fun a e => by cases e), HL256, Lib.hid (fun h => absurd h (by decide)), HN5, Lib.hid (Kept.refl _ _)⟩
        case round =>
          obtain ⟨k, g3, sw0, lz, hk, rfl, rfl, rfl, HL3, HR3, HA3, HS3, HW3, HN3, HK3⟩ := hrel
          have HBW : Hid (Below w1.heap.size w1 wr) := Lib.hid (HB5.out.trans (HK3.out.below HB5.out.size (fun i hi e => absurd (HOWN2.out i e).1 (by omega))))
          have hbq := HBB5.out
          have hbr : Blk wr b 35 _ := (HK3.out.block b hbq.lt (fun e => absurd (HOWN2.out b e).1 (by have := HBX1.out.lt; omega))).trans hbq
          by_cases hlt : k < (waS ds).length
          · obtain ⟨bD, oD, hAe, hbD, hcD⟩ := HRW.out.at_ hlt
            have hbDn : ¬ ownD x2 (.slice AF2 gs.length cF2) (.slice none 0 0) bD := fun e => by have := (HOWN2.out bD e).2; have := HAW.out bD oD hAe; omega
            subst hAe
            obtain ⟨d, hd⟩ : ∃ d, (waS ds)[k] = d := ⟨_, rfl⟩
            obtain ⟨a9, sp⟩ := d
            have hmem : (a9, sp) ∈ waS ds := by rw [← hd]; exact List.getElem_mem hlt
            obtain ⟨p0, p1⟩ := HWA.out _ hmem
            obtain ⟨aw, haw⟩ := Int.eq_ofNat_of_zero_le p0
            have haw : a9 = (aw : Int) := haw
            subst haw
            have hawl : aw < gs.length := by have : (aw : Int) < (gs.length : Int) := p1; omega
            rw [hd] at hcD
            have e0 : wr.cell? ⟨bD, oD + k * 2, none⟩ = some (.int .i64 (aw : Int)) := (World.cell?_of_block (a := ⟨bD, oD + k * 2, none⟩) (HK3.out.block bD hbD hbDn)).trans (hcD 0 _ rfl)
            have e1 : wr.cell? ⟨bD, oD + k * 2 + 1, none⟩ = some (.slice sp.at_ sp.l.length sp.cap) := (World.cell?_of_block (a := ⟨bD, oD + k * 2 + 1, none⟩) (HK3.out.block bD hbD hbDn)).trans (hcD 1 _ rfl)
            have HGET : Hid (wz.getD k (0, []) = (aw, sp.l)) := Lib.hid (by rw [← HWZ.out, dn_at ds k hlt, hd]; rfl)
            have HSP : Hid (sp.l.length = 256 ∧ 256 ≤ sp.cap ∧ RdK oo w1 sp.at_ sp.l) := Lib.hid ⟨HE9.out _ (waS_sub ds _ hmem) (by omega), HC9.out _ (waS_sub ds _ hmem) (by omega), HX1.out.deeds _ (waS_sub ds _ hmem)⟩
            have b3 := (hbr.alloc (.cells #[.int .i64 (aw : Int), .slice sp.at_ sp.l.length sp.cap] 59)).cell 3
            simp at b3
            have HBRR := Lib.hid hbr
            clear hcD hbD hbDn hd hmem p0 p1 hbq hbr
            by_cases hkn : k < K.length
            · obtain ⟨bK, oK, hKe, hbK, hcK⟩ := HKK.out.at_ (k := k) (by omega)
              subst hKe
              have hcK2 : (wr.alloc (.cells #[.int .i64 (aw : Int), .slice sp.at_ sp.l.length sp.cap] 59)).cell? ⟨bK, oK + k, none⟩ = some (.bool (K[k]'hkn)) := by
                rw [World.cell?_alloc_lt _ _ _ (by have := HW1.out.size; have := HBW.out.size; show bK < wr.heap.size; omega)]
                exact (HBW.out.cell (p := ⟨bK, oK + k, none⟩) (by have := HW1.out.size; show bK < w1.heap.size; omega)).trans ((HW1.out.cell (p := ⟨bK, oK + k, none⟩) hbK).trans hcK)
              have hgd : K.getD k false = K[k]'hkn := by rw [List.getD_eq_getElem?_getD, List.getElem?_eq_getElem hkn]; rfl
              have k1 : (k : Int) < (nK : Int) := by omega
              have k0 : (0 : Int) ≤ (k : Int) := by omega
              cases hv : K[k]'hkn
              · rw [hv] at hcK2 hgd
                have HR4 : Hid (rfK fl wz K (k + 1) = (g3.map Seg.l, lz, sw0.l)) := Lib.hid (by
                  rw [rfK, if_neg (by rw [hgd]; decide)]
                  exact HR3.out)
                clear hv hgd hbK hcK
                have HK4 : Hid (Kept (ownD x2 (.slice AF2 gs.length cF2) (.slice none 0 0)) w5 (wr.alloc (.cells #[.int .i64 (aw : Int), .slice sp.at_ sp.l.length sp.cap] 59))) := Lib.hid (HK3.out.trans (Kept.of_below (own := fun _ => False) ((Below.refl _ wr).alloc (Nat.le_refl _) _)) (fun _ _ h => h.elim))
                have HW4 := Lib.hid (HW3.out.below ((Below.refl _ wr).alloc (Nat.le_refl _) (.cells #[.int .i64 (aw : Int), .slice sp.at_ sp.l.length sp.cap] 59)))
                have HN4 := Lib.hid (HN3.out.below ((Below.refl _ wr).alloc (Nat.le_refl _) (.cells #[.int .i64 (aw : Int), .slice sp.at_ sp.l.length sp.cap] 59)))
                clear HK3 HW3 HN3 HR3 HSP HGET
                go_wp2_with fail
                go_roundw
                case rel => exact ⟨k + 1, g3, sw0, lz, by omega, by go_num, rfl, rfl, HL3, HR4, HA3, HS3, HW4, HN4, HK4⟩
                case measure => simp [intOf]; omega
              · rw [hv] at hcK2 hgd
                have HR4 : Hid (rfK fl wz K (k + 1) = ((g3.map Seg.l).set aw sp.l, some aw, (g3.map Seg.l).getD aw [])) := Lib.hid (by
                  rw [rfK, if_pos hgd, HGET.out, HR3.out])
                clear hv hgd hbK hcK
                obtain ⟨W1, hW1⟩ : ∃ W, wr.alloc (.cells #[.int .i64 (aw : Int), .slice sp.at_ sp.l.length sp.cap] 59) = W := ⟨_, rfl⟩
                have hbox := Blk.new wr 59 #[.int .i64 (aw : Int), .slice sp.at_ sp.l.length sp.cap]
                have hbw := (Below.refl _ wr).alloc (Nat.le_refl _) (.cells #[.int .i64 (aw : Int), .slice sp.at_ sp.l.length sp.cap] 59)
                rw [hW1] at hbox hbw
                obtain ⟨q, hq⟩ : ∃ q, wr.heap.size = q := ⟨_, rfl⟩
                rw [hq] at hbox
                have HQ := Lib.hid hq
                have HEQ := Lib.hid (And.intro hW1 hq)
                have hN1 := HN3.out.below hbw
                obtain ⟨g, e, hgb, hgl, -, -, -⟩ := own_setF hN1.rowF (k := aw) (by rw [HL3.out]; exact hawl)
                subst e
                obtain ⟨sw, hsw⟩ : ∃ s, g3[aw]'(by rw [HL3.out]; exact hawl) = s := ⟨_, rfl⟩
                have hswm : sw ∈ g3 := by rw [← hsw]; exact List.getElem_mem _
                have HSW := Lib.hid (HS3.out sw hswm)
                have HGW : Hid ((g3.map Seg.l).getD aw [] = sw.l) := Lib.hid (by rw [List.getD_eq_getElem?_getD, List.getElem?_map, List.getElem?_eq_getElem (by rw [HL3.out]; exact hawl), hsw]; rfl)
                have HSWM := Lib.hid hswm
                have HSWE := Lib.hid hsw
                have HN1 := Lib.hid hN1
                have HBX1q := Lib.hid hbox
                have HBWq := Lib.hid hbw
                have a0 : (0 : Int) ≤ (aw : Int) := by omega
                have a1 : (aw : Int) < (gs.length : Int) := by omega
                have LQ0 : ∀ W', Below W1.heap.size W1 W' → (Instr.loadAt 3 (.pointer (some ⟨q, 0, none⟩))).run Tryd.prog W' = .ok (.int .i64 (aw : Int)) W' := fun W' hb => load_int (by have c0 := (hbox.below hb hbox.lt).cell 0; simpa using c0)
                have LG : ∀ W', Below W1.heap.size W1 W' → (Instr.loadAt 50 (.pointer (some ⟨x2, 0, none⟩))).run Tryd.prog W' = .ok (.slice (some ⟨g, 0, none⟩) gs.length cF2) W' := fun W' hb => load_rows (by have c0 := (HN1.out.below hb).head.cell 0; rw [HL3.out] at c0; simpa using c0)
                have LW : ∀ W', Below W1.heap.size W1 W' → (Instr.loadAt 31 (.pointer (some ⟨g, aw, none⟩))).run Tryd.prog W' = .ok sw.val W' := fun W' hb => by
                  obtain ⟨g', e, _, _, hc, _⟩ := own_setF (HN1.out.below hb).rowF (k := aw) (by rw [HL3.out]; exact hawl)
                  injection e with e
                  injection e with e _ _
                  subst e
                  rw [hsw] at hc
                  exact load_slice hc
                rw [hW1] at b3 hcK2
                clear hbox hbw hN1 hswm hW1 hq
                rw [← HEQ.out.1] at b3 hcK2
                go_wp2_with fail
                clear b3 hcK2
                rw [HEQ.out.1, HEQ.out.2]
                have q0c : W1.cell? ⟨q, 0, none⟩ = some (.int .i64 (aw : Int)) := by have c0 := HBX1q.out.cell 0; simpa using c0
                have xc : W1.cell? ⟨x2, 0, none⟩ = some (.slice (some ⟨g, 0, none⟩) gs.length cF2) := by have c0 := HN1.out.head.cell 0; rw [HL3.out] at c0; simpa using c0
                have gc : W1.cell? ⟨g, aw, none⟩ = some (.slice sw.at_ sw.l.length sw.cap) := by
                  obtain ⟨g', e, _, _, hc, _⟩ := own_setF HN1.out.rowF (k := aw) (by rw [HL3.out]; exact hawl)
                  injection e with e
                  injection e with e _ _
                  subst e
                  rw [HSWE.out] at hc
                  exact hc
                clear LQ0 LG LW
                go_quiet (fail)
                clear q0c xc gc
                obtain ⟨w6, hw6⟩ : ∃ W, W1.drewN nq = W := ⟨_, rfl⟩
                rw [hw6]
                have hbd : Below W1.heap.size W1 w6 := by rw [← hw6]; exact ⟨rfl, rfl, rfl, Nat.le_refl _, fun _ _ => rfl⟩
                have HDR := Lib.hid hbd
                have hbox := HBX1q.out.below HDR.out HBX1q.out.lt
                have LQ0 : ∀ W', Below w6.heap.size w6 W' → (Instr.loadAt 3 (.pointer (some ⟨q, 0, none⟩))).run Tryd.prog W' = .ok (.int .i64 (aw : Int)) W' := fun W' hb => load_int (by have c0 := (hbox.below hb hbox.lt).cell 0; simpa using c0)
                have LQ1 : ∀ W', Below w6.heap.size w6 W' → (Instr.loadAt 31 (.pointer (some ⟨q, 1, none⟩))).run Tryd.prog W' = .ok sp.val W' := fun W' hb => load_slice (by have c0 := (hbox.below hb hbox.lt).cell 1; simpa using c0)
                have HN6 := Lib.hid (HN1.out.below HDR.out)
                have LG : ∀ W', Below w6.heap.size w6 W' → (Instr.loadAt 50 (.pointer (some ⟨x2, 0, none⟩))).run Tryd.prog W' = .ok (.slice (some ⟨g, 0, none⟩) gs.length cF2) W' := fun W' hb => load_rows (by have c0 := (HN6.out.below hb).head.cell 0; rw [HL3.out] at c0; simpa using c0)
                clear hw6 hbd
                go_wp2_with fail
                refine wp_region_flow_last (l := [_, _, _, _, _, _, _, _, _]) (ol := _) rfl [some 127, some 128, some 129, some 130, some 131, some 132, some 133, some 134, some 135] (fun i => ([.is (.pointer (some ⟨x2, 0, none⟩)), .is (.pointer (some ⟨x2, 0, none⟩)), .is (.pointer (some ⟨x2, 0, none⟩)), .is (.slice (some ⟨g, 0, none⟩) gs.length cF2), .is (.pointer (some ⟨q, 0, none⟩)), .is (.int .i64 (aw : Int)), .is (.pointer (some ⟨q, 1, none⟩)), .is (sp.val), .is (.pointer (some ⟨g, aw, none⟩))] : List Flw).getD i .any) (by kernel_rfl) (by kernel_rfl) (by kernel_rfl) rfl rfl ?_ ?_
                · refine ⟨step_free rfl (fun aF wF hs hb => ?_), ?_⟩
                  · obtain ⟨x0, -⟩ := hs
                    have e0 : aF.eval (.tmp 7) = .pointer (some ⟨x2, 0, none⟩) := x0
                    exact opC_move e0 ⟨rfl, below_same wF⟩
                  refine ⟨step_free rfl (fun aF wF hs hb => ?_), ?_⟩
                  · obtain ⟨x0, -⟩ := hs
                    have e0 : aF.eval (.tmp 127) = .pointer (some ⟨x2, 0, none⟩) := x0
                    refine opC_value (v := .pointer (some ⟨x2, 0, none⟩)) ?_ ⟨rfl, below_same wF⟩
                    have t0 := ev_of e0
                    simp [execOp, go_sem, t0]
                  refine ⟨step_free rfl (fun aF wF hs hb => ?_), ?_⟩
                  · obtain ⟨x0, -⟩ := hs
                    have e0 : aF.eval (.tmp 128) = .pointer (some ⟨x2, 0, none⟩) := x0
                    refine opC_value (v := .pointer (some ⟨x2, 0, none⟩)) ?_ ⟨rfl, below_same wF⟩
                    have t0 := ev_of e0
                    simp [execOp, go_sem, t0]
                  refine ⟨step_free rfl (fun aF wF hs hb => ?_), ?_⟩
                  · obtain ⟨x0, -⟩ := hs
                    have e0 : aF.eval (.tmp 129) = .pointer (some ⟨x2, 0, none⟩) := x0
                    exact opC_load e0 (LG wF hb) ⟨rfl, below_same wF⟩
                  refine ⟨step_free rfl (fun aF wF hs hb => ?_), ?_⟩
                  · obtain ⟨x0, -⟩ := hs
                    have e0 : aF.eval (.tmp 12) = .pointer (some ⟨q, 0, none⟩) := x0
                    refine opC_value (v := .pointer (some ⟨q, 0, none⟩)) ?_ ⟨rfl, below_same wF⟩
                    have t0 := ev_of e0
                    simp [execOp, go_sem, t0]
                  refine ⟨step_free rfl (fun aF wF hs hb => ?_), ?_⟩
                  · obtain ⟨x0, -⟩ := hs
                    have e0 : aF.eval (.tmp 131) = .pointer (some ⟨q, 0, none⟩) := x0
                    exact opC_load e0 (LQ0 wF hb) ⟨rfl, below_same wF⟩
                  refine ⟨step_free rfl (fun aF wF hs hb => ?_), ?_⟩
                  · obtain ⟨x0, -⟩ := hs
                    have e0 : aF.eval (.tmp 12) = .pointer (some ⟨q, 0, none⟩) := x0
                    refine opC_value (v := .pointer (some ⟨q, 1, none⟩)) ?_ ⟨rfl, below_same wF⟩
                    have t0 := ev_of e0
                    simp [execOp, go_sem, t0]
                  refine ⟨step_free rfl (fun aF wF hs hb => ?_), ?_⟩
                  · obtain ⟨x0, -⟩ := hs
                    have e0 : aF.eval (.tmp 133) = .pointer (some ⟨q, 1, none⟩) := x0
                    exact opC_load e0 (LQ1 wF hb) ⟨rfl, below_same wF⟩
                  refine ⟨step_free rfl (fun aF wF hs hb => ?_), ?_⟩
                  · obtain ⟨x0, x1, -⟩ := hs
                    have e0 : aF.eval (.tmp 130) = .slice (some ⟨g, 0, none⟩) gs.length cF2 := x0
                    have e1 : aF.eval (.tmp 132) = .int .i64 (aw : Int) := x1
                    refine opC_value (v := .pointer (some ⟨g, aw, none⟩)) ?_ ⟨rfl, below_same wF⟩
                    simp [execOp, go_sem, ev_of e0, ev_of e1, a0, a1]
                  exact trivial
                · intro fv2 w7 hf hb7
                  have h1 : fv2 7 = sp.val := hf 7 134 rfl
                  have h2 : fv2 8 = .pointer (some ⟨g, aw, none⟩) := hf 8 135 rfl
                  simp only [putF, Act.put, List.setIfInBounds_toArray, List.set_cons_zero, List.set_cons_succ]
                  rw [h1, h2]
                  have hb17 : Below wr.heap.size wr w7 := HBWq.out.trans ((HDR.out.trans (hb7.mono HDR.out.size)).mono HBWq.out.size)
                  have hN7 := HN3.out.below hb17
                  have hspk : RdK (fun i => oo i ∨ ownD x2 (.slice (some ⟨g, 0, none⟩) g3.length cF2) (.slice none 0 0) i) w7 sp.at_ sp.l := fun h0 => by
                    obtain ⟨b', q', e, hb', hno, hc⟩ := HSP.out.2.2 h0
                    have hbw7 := HBW.out.trans (hb17.mono HBW.out.size)
                    refine ⟨b', q', e, Nat.lt_of_lt_of_le hb' hbw7.size, ?_, fun j u hu => (hbw7.cell (p := ⟨b', q' + j, none⟩) hb').trans (hc j u hu)⟩
                    rintro (e1 | e1)
                    · exact hno e1
                    · have := (HOWN2.out b' (by rw [← HL3.out]; exact e1)).1
                      omega
                  obtain ⟨g', e, _, _, qc, qf, qk, qX⟩ := hN7.putF (k := aw) (s := sp) (by rw [HL3.out]; exact hawl) hspk
                  injection e with e
                  injection e with e _ _
                  subst e
                  have hlen4 : (g3.set aw sp).length = gs.length := by rw [List.length_set]; exact HL3.out
                  have HL4 := Lib.hid hlen4
                  have HN4 := Lib.hid qX
                  have HR5 : Hid (rfK fl wz K (k + 1) = ((g3.set aw sp).map Seg.l, some aw, sw.l)) := Lib.hid (by rw [HR4.out, HGW.out, List.map_set])
                  have HA4 : Hid (∀ a, some aw = some a → a < gs.length ∧ sw.l.length = 256 ∧ 256 ≤ sw.cap) := Lib.hid (fun a e => by injection e with e; subst e; exact ⟨hawl, HSW.out⟩)
                  have HS4 : Hid (∀ s ∈ g3.set aw sp, s.l.length = 256 ∧ 256 ≤ s.cap) := Lib.hid (fun s hs => by
                    rcases List.mem_or_eq_of_mem_set hs with h | h
                    · exact HS3.out s h
                    · rw [h]; exact ⟨HSP.out.1, HSP.out.2.1⟩)
                  have HW5 : Hid (RdK (fun i => oo i ∨ ownD x2 (.slice (some ⟨g, 0, none⟩) (g3.set aw sp).length cF2) (.slice none 0 0) i) (w7.setCell ⟨g, aw, none⟩ sp.val) sw.at_ sw.l) := Lib.hid (by
                    rw [hlen4, ← HL3.out]
                    exact (hN7.segs sw HSWM.out).kept (qk.mono (fun i e => by subst e; exact .inr (.inr (.inl rfl)))) (fun _ _ h => h))
                  have HK4 : Hid (Kept (ownD x2 (.slice (some ⟨g, 0, none⟩) gs.length cF2) (.slice none 0 0)) w5 (w7.setCell ⟨g, aw, none⟩ sp.val)) := Lib.hid ((HK3.out.trans (Kept.of_below (own := fun _ => False) hb17) (fun _ _ h => h.elim)).trans qk (fun i _ e => by subst e; exact .inr (.inl rfl)))
                  generalize g3[aw]'(by rw [HL3.out]; exact hawl) = old at qc
                  unfold Seg.val at qc
                  clear hf h1 h2 hb7 hb17 hN7 hspk qk qX hlen4 LQ0 LQ1 LG hbox HN6 HN1 HBX1q HBWq HN3 HW3 HK3 HR3 HR4 HS3 HSP HGET HSW HSWM HGW HA3
                  refine opC_skip (w' := w7.setCell ⟨g, aw, none⟩ sp.val) (by unfold Seg.val; simp [execOp, go_sem, qc, qf]) ?_
                  go_wp2_with fail
                  go_roundw
                  case rel => exact ⟨k + 1, g3.set aw sp, sw, some aw, by omega, by go_num, rfl, rfl, HL4, HR5, HA4, HS4, HW5, HN4, HK4⟩
                  case measure => simp [intOf]; omega
            · have k1 : ¬ (k : Int) < (nK : Int) := by omega
              have hgd : K.getD k false = false := by rw [List.getD_eq_getElem?_getD, List.getElem?_eq_none (by omega)]; rfl
              have HR4 : Hid (rfK fl wz K (k + 1) = (g3.map Seg.l, lz, sw0.l)) := Lib.hid (by
                rw [rfK, if_neg (by rw [hgd]; decide)]
                exact HR3.out)
              clear hgd hkn
              have HK4 : Hid (Kept (ownD x2 (.slice AF2 gs.length cF2) (.slice none 0 0)) w5 (wr.alloc (.cells #[.int .i64 (aw : Int), .slice sp.at_ sp.l.length sp.cap] 59))) := Lib.hid (HK3.out.trans (Kept.of_below (own := fun _ => False) ((Below.refl _ wr).alloc (Nat.le_refl _) _)) (fun _ _ h => h.elim))
              have HW4 := Lib.hid (HW3.out.below ((Below.refl _ wr).alloc (Nat.le_refl _) (.cells #[.int .i64 (aw : Int), .slice sp.at_ sp.l.length sp.cap] 59)))
              have HN4 := Lib.hid (HN3.out.below ((Below.refl _ wr).alloc (Nat.le_refl _) (.cells #[.int .i64 (aw : Int), .slice sp.at_ sp.l.length sp.cap] 59)))
              clear HK3 HW3 HN3 HR3 HSP HGET
              go_wp2_with fail
              go_roundw
              case rel => exact ⟨k + 1, g3, sw0, lz, by omega, by go_num, rfl, rfl, HL3, HR4, HA3, HS3, HW4, HN4, HK4⟩
              case measure => simp [intOf]; omega
          · obtain rfl : k = (waS ds).length := by omega
            have HFIN : ∀ (g4 : List Seg) (wf : World), XD wf w1.heap.size x2 (fun i => oo i ∨ ownD x2 (.slice AF2 g4.length cF2) (.slice none 0 0) i) AF2 cF2 g4 none 0 [] (-1) → g4.map Seg.l = rfOf fl wz K N → Below w1.heap.size w1 wf → PlayL w oo gs ds K N (.returned (.tuple #[.pointer (some ⟨x2, 0, none⟩), .int .i64 0])) wf := fun g4 wf h1 h2 h3 => ⟨x2, AF2, cF2, g4, rfl, h1.base HW1.out.size, by rw [HFL.out, HWZ.out]; exact h2, HW1.out.trans (h3.mono HW1.out.size)⟩
            have HFIN := Lib.hid HFIN
            have b4 := hbr.cell 4
            simp at b4
            have HBR := Lib.hid hbr
            clear hbr hbq
            cases lz with
            | none =>
              have HRF : Hid (g3.map Seg.l = rfOf fl wz K N) := Lib.hid (by unfold rfOf; rw [HWL.out, HR3.out])
              simp only [lastI]
              have n1 : ¬ (0 : Int) ≤ -1 := by omega
              clear HR3 HA3 HS3 HW3 HK3
              go_wp2_with fail
              exact bodyPost_ret (v := .tuple #[.pointer (some ⟨x2, 0, none⟩), .int .i64 0]) (by simp [results, Tryd.results9, go_sem, Result.andThen]) rfl (HFIN.out g3 _ HN3.out HRF.out HBW.out)
            | some aw =>
              obtain ⟨hawl, hswl, hswc⟩ := HA3.out aw rfl
              simp only [lastI]
              have n1 : (0 : Int) ≤ (aw : Int) := by omega
              by_cases hN0 : 0 ≤ N
              · by_cases hN1 : N < 256
                · obtain ⟨Nn, hNn⟩ := Int.eq_ofNat_of_zero_le hN0
                  have hNn : N = (Nn : Int) := hNn
                  subst hNn
                  obtain ⟨b9, q9, hs9, hb9, -, -⟩ := HW3.out (by rw [hswl]; decide)
                  have hsv : sw0.val = .slice (some ⟨b9, q9, none⟩) 256 sw0.cap := by unfold Seg.val; rw [hs9, hswl]
                  obtain ⟨g, e, hgb, hgl, -, -, -⟩ := own_setF HN3.out.rowF (k := aw) (by rw [HL3.out]; exact hawl)
                  subst e
                  obtain ⟨sx, hsx⟩ : ∃ s, g3[aw]'(by rw [HL3.out]; exact hawl) = s := ⟨_, rfl⟩
                  have hsxm : sx ∈ g3 := by rw [← hsx]; exact List.getElem_mem _
                  obtain ⟨hsxl, hsxc⟩ := HS3.out sx hsxm
                  have m0 : (0 : Int) ≤ (Nn : Int) := by omega
                  have m1 : (Nn : Int) ≤ (sx.cap : Int) := by omega
                  have m2 : (Nn : Int) ≤ 256 := by omega
                  have m3 : (256 : Int) ≤ (sw0.cap : Int) := by omega
                  have m4 : sw0.cap ≠ Nn := by omega
                  have a0 : (0 : Int) ≤ (aw : Int) := by omega
                  have a1 : (aw : Int) < (gs.length : Int) := by omega
                  have hv1 : (⟨sx.at_, sx.cap, sx.l.take Nn⟩ : Seg).val = .slice sx.at_ Nn sx.cap := by
                    unfold Seg.val
                    show Value.slice sx.at_ (sx.l.take Nn).length sx.cap = _
                    rw [List.length_take, hsxl, Nat.min_eq_left (by omega)]
                  have hv2 : (⟨some ⟨b9, q9 + Nn, none⟩, sw0.cap - Nn, sw0.l.drop Nn⟩ : Seg).val = .slice (some ⟨b9, q9 + Nn, none⟩) (256 - Nn) (sw0.cap - Nn) := by
                    unfold Seg.val
                    show Value.slice _ (sw0.l.drop Nn).length _ = _
                    rw [List.length_drop, hswl]
                  have hrd1 : Rd wr wr.heap.size sx.at_ (sx.l.take Nn) := ((HN3.out.segs sx hsxm).rd).take Nn
                  have hrd2 : Rd wr wr.heap.size (some ⟨b9, q9 + Nn, none⟩) (sw0.l.drop Nn) := Rd.past_k (by have h := HW3.out.rd; rwa [hs9] at h) Nn
                  have HV := Lib.hid (And.intro hv1 hv2)
                  have HRD := Lib.hid (And.intro hrd1 hrd2)
                  have HSX := Lib.hid hsx
                  have HSL := Lib.hid (And.intro hsxl hswl)
                  have LG : ∀ W', Below wr.heap.size wr W' → (Instr.loadAt 50 (.pointer (some ⟨x2, 0, none⟩))).run Tryd.prog W' = .ok (.slice (some ⟨g, 0, none⟩) gs.length cF2) W' := fun W' hb => load_rows (by have c0 := (HN3.out.below hb).head.cell 0; rw [HL3.out] at c0; simpa using c0)
                  have LX : ∀ W', Below wr.heap.size wr W' → (Instr.loadAt 31 (.pointer (some ⟨g, aw, none⟩))).run Tryd.prog W' = .ok (.slice sx.at_ 256 sx.cap) W' := fun W' hb => by
                    obtain ⟨g', e, _, _, hc, _⟩ := own_setF (HN3.out.below hb).rowF (k := aw) (by rw [HL3.out]; exact hawl)
                    injection e with e
                    injection e with e _ _
                    subst e
                    rw [hsx] at hc
                    unfold Seg.val at hc
                    rw [hsxl] at hc
                    exact load_slice hc
                  have LN : ∀ W', Below wr.heap.size wr W' → (Instr.loadAt 3 (.pointer (some ⟨b, 4, none⟩))).run Tryd.prog W' = .ok (.int .i64 (Nn : Int)) W' := fun W' hb => load_int (by have c0 := (HBR.out.below hb HBR.out.lt).cell 4; simpa using c0)
                  have CJ : ∀ W' (hb : Below wr.heap.size wr W') {v : Value}, (rows2F (.slice sx.at_ Nn sx.cap) (.slice (some ⟨b9, q9 + Nn, none⟩) (256 - Nn) (sw0.cap - Nn))).p v W' → Calls Tryd.prog 23 #[v] W' (ToF (newF wr.heap.size (sx.l.take Nn ++ sw0.l.drop Nn)) W') := fun W' hb v hv => joinNew (s1 := ⟨sx.at_, sx.cap, sx.l.take Nn⟩) (s2 := ⟨some ⟨b9, q9 + Nn, none⟩, sw0.cap - Nn, sw0.l.drop Nn⟩) hb HRD.out.1 HRD.out.2 (by show (sx.l.take Nn).length ≤ 1000; rw [List.length_take]; omega) (by show (sw0.l.drop Nn).length ≤ 1000; rw [List.length_drop]; omega) (by rw [HV.out.1, HV.out.2]; exact hv)
                  rw [hsv]
                  clear hsx hsxm hv1 hv2 hrd1 hrd2 hs9 hb9 hsv hsxl hswl
                  go_wp2_with fail
                  refine wp_region_flow_last (l := [_, _, _, _, _, _, _, _, _, _, _, _, _, _, _, _, _, _, _, _, _, _]) (ol := _) rfl [some 149, some 150, some 151, some 152, some 153, some 154, some 155, some 156, some 157, some 158, some 159, some 160, some 161, some 162, some 163, some 164, some 165, some 166, some 167, some 168, some 169, some 170] (fun i => ([.is (.pointer (some ⟨x2, 0, none⟩)), .is (.pointer (some ⟨x2, 0, none⟩)), .is (.pointer (some ⟨x2, 0, none⟩)), .is (.slice (some ⟨g, 0, none⟩) gs.length cF2), .is (.int .i64 (aw : Int)), .is (.pointer (some ⟨x2, 0, none⟩)), .is (.pointer (some ⟨x2, 0, none⟩)), .is (.pointer (some ⟨x2, 0, none⟩)), .is (.slice (some ⟨g, 0, none⟩) gs.length cF2), .is (.int .i64 (aw : Int)), .is (.pointer (some ⟨g, aw, none⟩)), .is (.slice sx.at_ 256 sx.cap), .is (.pointer (some ⟨b, 4, none⟩)), .is (.int .i64 (Nn : Int)), .is (.slice sx.at_ Nn sx.cap), .is (.slice (some ⟨b9, q9, none⟩) 256 sw0.cap), .is (.pointer (some ⟨b, 4, none⟩)), .is (.int .i64 (Nn : Int)), .is (.slice (some ⟨b9, q9 + Nn, none⟩) (256 - Nn) (sw0.cap - Nn)), rows2F (.slice sx.at_ Nn sx.cap) (.slice (some ⟨b9, q9 + Nn, none⟩) (256 - Nn) (sw0.cap - Nn)), newF wr.heap.size (sx.l.take Nn ++ sw0.l.drop Nn), .is (.pointer (some ⟨g, aw, none⟩))] : List Flw).getD i .any) (by kernel_rfl) (by kernel_rfl) (by kernel_rfl) rfl rfl ?_ ?_
                  · refine ⟨step_free rfl (fun aF wF hs hb => ?_), ?_⟩
                    · obtain ⟨x0, -⟩ := hs
                      have e0 : aF.eval (.tmp 7) = .pointer (some ⟨x2, 0, none⟩) := x0
                      exact opC_move e0 ⟨rfl, below_same wF⟩
                    refine ⟨step_free rfl (fun aF wF hs hb => ?_), ?_⟩
                    · obtain ⟨x0, -⟩ := hs
                      have e0 : aF.eval (.tmp 149) = .pointer (some ⟨x2, 0, none⟩) := x0
                      refine opC_value (v := .pointer (some ⟨x2, 0, none⟩)) ?_ ⟨rfl, below_same wF⟩
                      have t0 := ev_of e0
                      simp [execOp, go_sem, t0]
                    refine ⟨step_free rfl (fun aF wF hs hb => ?_), ?_⟩
                    · obtain ⟨x0, -⟩ := hs
                      have e0 : aF.eval (.tmp 150) = .pointer (some ⟨x2, 0, none⟩) := x0
                      refine opC_value (v := .pointer (some ⟨x2, 0, none⟩)) ?_ ⟨rfl, below_same wF⟩
                      have t0 := ev_of e0
                      simp [execOp, go_sem, t0]
                    refine ⟨step_free rfl (fun aF wF hs hb => ?_), ?_⟩
                    · obtain ⟨x0, -⟩ := hs
                      have e0 : aF.eval (.tmp 151) = .pointer (some ⟨x2, 0, none⟩) := x0
                      exact opC_load e0 (LG wF hb) ⟨rfl, below_same wF⟩
                    refine ⟨step_free rfl (fun aF wF hs hb => ?_), ?_⟩
                    · obtain ⟨x0, -⟩ := hs
                      have e0 : aF.eval (.tmp 9) = .int .i64 (aw : Int) := x0
                      exact opC_move e0 ⟨rfl, below_same wF⟩
                    refine ⟨step_free rfl (fun aF wF hs hb => ?_), ?_⟩
                    · obtain ⟨x0, -⟩ := hs
                      have e0 : aF.eval (.tmp 7) = .pointer (some ⟨x2, 0, none⟩) := x0
                      exact opC_move e0 ⟨rfl, below_same wF⟩
                    refine ⟨step_free rfl (fun aF wF hs hb => ?_), ?_⟩
                    · obtain ⟨x0, -⟩ := hs
                      have e0 : aF.eval (.tmp 154) = .pointer (some ⟨x2, 0, none⟩) := x0
                      refine opC_value (v := .pointer (some ⟨x2, 0, none⟩)) ?_ ⟨rfl, below_same wF⟩
                      have t0 := ev_of e0
                      simp [execOp, go_sem, t0]
                    refine ⟨step_free rfl (fun aF wF hs hb => ?_), ?_⟩
                    · obtain ⟨x0, -⟩ := hs
                      have e0 : aF.eval (.tmp 155) = .pointer (some ⟨x2, 0, none⟩) := x0
                      refine opC_value (v := .pointer (some ⟨x2, 0, none⟩)) ?_ ⟨rfl, below_same wF⟩
                      have t0 := ev_of e0
                      simp [execOp, go_sem, t0]
                    refine ⟨step_free rfl (fun aF wF hs hb => ?_), ?_⟩
                    · obtain ⟨x0, -⟩ := hs
                      have e0 : aF.eval (.tmp 156) = .pointer (some ⟨x2, 0, none⟩) := x0
                      exact opC_load e0 (LG wF hb) ⟨rfl, below_same wF⟩
                    refine ⟨step_free rfl (fun aF wF hs hb => ?_), ?_⟩
                    · obtain ⟨x0, -⟩ := hs
                      have e0 : aF.eval (.tmp 9) = .int .i64 (aw : Int) := x0
                      exact opC_move e0 ⟨rfl, below_same wF⟩
                    refine ⟨step_free rfl (fun aF wF hs hb => ?_), ?_⟩
                    · obtain ⟨x0, x1, -⟩ := hs
                      have e0 : aF.eval (.tmp 157) = .slice (some ⟨g, 0, none⟩) gs.length cF2 := x0
                      have e1 : aF.eval (.tmp 158) = .int .i64 (aw : Int) := x1
                      refine opC_value (v := .pointer (some ⟨g, aw, none⟩)) ?_ ⟨rfl, below_same wF⟩
                      simp [execOp, go_sem, ev_of e0, ev_of e1, a0, a1]
                    refine ⟨step_free rfl (fun aF wF hs hb => ?_), ?_⟩
                    · obtain ⟨x0, -⟩ := hs
                      have e0 : aF.eval (.tmp 159) = .pointer (some ⟨g, aw, none⟩) := x0
                      exact opC_load e0 (LX wF hb) ⟨rfl, below_same wF⟩
                    refine ⟨step_free rfl (fun aF wF hs hb => ?_), ?_⟩
                    · obtain ⟨x0, -⟩ := hs
                      have e0 : aF.eval (.tmp 3) = .pointer (some ⟨b, 0, none⟩) := x0
                      refine opC_value (v := .pointer (some ⟨b, 4, none⟩)) ?_ ⟨rfl, below_same wF⟩
                      have t0 := ev_of e0
                      simp [execOp, go_sem, t0]
                    refine ⟨step_free rfl (fun aF wF hs hb => ?_), ?_⟩
                    · obtain ⟨x0, -⟩ := hs
                      have e0 : aF.eval (.tmp 161) = .pointer (some ⟨b, 4, none⟩) := x0
                      exact opC_load e0 (LN wF hb) ⟨rfl, below_same wF⟩
                    refine ⟨step_free rfl (fun aF wF hs hb => ?_), ?_⟩
                    · obtain ⟨x0, x1, -⟩ := hs
                      have e0 : aF.eval (.tmp 160) = .slice sx.at_ 256 sx.cap := x0
                      have e1 : aF.eval (.tmp 162) = .int .i64 (Nn : Int) := x1
                      refine opC_value (v := .slice sx.at_ Nn sx.cap) ?_ ⟨rfl, below_same wF⟩
                      simp [execOp, go_sem, ev_of e0, ev_of e1, m0, m1]
                    refine ⟨step_free rfl (fun aF wF hs hb => ?_), ?_⟩
                    · obtain ⟨x0, -⟩ := hs
                      have e0 : aF.eval (.tmp 10) = .slice (some ⟨b9, q9, none⟩) 256 sw0.cap := x0
                      exact opC_move e0 ⟨rfl, below_same wF⟩
                    refine ⟨step_free rfl (fun aF wF hs hb => ?_), ?_⟩
                    · obtain ⟨x0, -⟩ := hs
                      have e0 : aF.eval (.tmp 3) = .pointer (some ⟨b, 0, none⟩) := x0
                      refine opC_value (v := .pointer (some ⟨b, 4, none⟩)) ?_ ⟨rfl, below_same wF⟩
                      have t0 := ev_of e0
                      simp [execOp, go_sem, t0]
                    refine ⟨step_free rfl (fun aF wF hs hb => ?_), ?_⟩
                    · obtain ⟨x0, -⟩ := hs
                      have e0 : aF.eval (.tmp 165) = .pointer (some ⟨b, 4, none⟩) := x0
                      exact opC_load e0 (LN wF hb) ⟨rfl, below_same wF⟩
                    refine ⟨step_free rfl (fun aF wF hs hb => ?_), ?_⟩
                    · obtain ⟨x0, x1, -⟩ := hs
                      have e0 : aF.eval (.tmp 164) = .slice (some ⟨b9, q9, none⟩) 256 sw0.cap := x0
                      have e1 : aF.eval (.tmp 166) = .int .i64 (Nn : Int) := x1
                      refine opC_value (v := .slice (some ⟨b9, q9 + Nn, none⟩) (256 - Nn) (sw0.cap - Nn)) ?_ ⟨rfl, below_same wF⟩
                      simp [execOp, go_sem, ev_of e0, ev_of e1, m0, m2, m3, m4]
                    refine ⟨step_free rfl (fun aF wF hs hb => ?_), ?_⟩
                    · obtain ⟨x0, x1, -⟩ := hs
                      have e0 : aF.eval (.tmp 163) = .slice sx.at_ Nn sx.cap := x0
                      have e1 : aF.eval (.tmp 167) = .slice (some ⟨b9, q9 + Nn, none⟩) (256 - Nn) (sw0.cap - Nn) := x1
                      exact opC_rows2 e0 e1 ⟨⟨_, rfl, Blk.new _ _ _⟩, (Below.refl _ wF).alloc (Nat.le_refl _) _⟩
                    refine ⟨step_free rfl (fun aF wF hs hb => ?_), ?_⟩
                    · obtain ⟨x0, -⟩ := hs
                      have y0 : (rows2F (.slice sx.at_ Nn sx.cap) (.slice (some ⟨b9, q9 + Nn, none⟩) (256 - Nn) (sw0.cap - Nn))).p (aF.eval (.tmp 168)) wF := x0
                      exact opC_callF (args := #[aF.eval (.tmp 168)]) (enters9 Tryd.func23 (by kernel_rfl) rfl) (by simp) (CJ wF hb y0) (fun _ _ h1 h2 => ⟨h1, h2⟩)
                    refine ⟨step_free rfl (fun aF wF hs hb => ?_), ?_⟩
                    · obtain ⟨x0, x1, -⟩ := hs
                      have e0 : aF.eval (.tmp 152) = .slice (some ⟨g, 0, none⟩) gs.length cF2 := x0
                      have e1 : aF.eval (.tmp 153) = .int .i64 (aw : Int) := x1
                      refine opC_value (v := .pointer (some ⟨g, aw, none⟩)) ?_ ⟨rfl, below_same wF⟩
                      simp [execOp, go_sem, ev_of e0, ev_of e1, a0, a1]
                    exact trivial
                  · intro fv w7 hf hb7
                    have h1 : (newF wr.heap.size (sx.l.take Nn ++ sw0.l.drop Nn)).p (fv 20) w7 := hf 20 169 rfl
                    obtain ⟨s, h1, hsl, -, hso⟩ := h1
                    obtain ⟨hsr, hsn⟩ := own_seg hso
                    have h2 : fv 21 = .pointer (some ⟨g, aw, none⟩) := hf 21 170 rfl
                    simp only [putF, Act.put, List.setIfInBounds_toArray, List.set_cons_zero, List.set_cons_succ]
                    rw [h1, h2]
                    have hN7 := HN3.out.below hb7
                    have hspk : RdK (fun i => oo i ∨ ownD x2 (.slice (some ⟨g, 0, none⟩) g3.length cF2) (.slice none 0 0) i) w7 s.at_ s.l := RdK.of_new hsr hsn (by
                      rintro i (e | e)
                      · have := HOO.out.2 i e; have := HW1.out.size; have := HBW.out.size; omega
                      · exact HN3.out.lt i e)
                    obtain ⟨g', e, _, _, qc, qf, qk, qX⟩ := hN7.putF (k := aw) (s := s) (by rw [HL3.out]; exact hawl) hspk
                    injection e with e
                    injection e with e _ _
                    subst e
                    have HN4 := Lib.hid qX
                    have HRF : Hid ((g3.set aw s).map Seg.l = rfOf fl wz K (Nn : Int)) := Lib.hid (by
                      unfold rfOf
                      rw [HWL.out, HR3.out]
                      show _ = if 0 ≤ (Nn : Int) ∧ (Nn : Int) < 256 then _ else _
                      rw [if_pos ⟨hN0, hN1⟩, List.map_set, hsl]
                      congr 2
                      rw [List.getD_eq_getElem?_getD, List.getElem?_map, List.getElem?_eq_getElem (by rw [HL3.out]; exact hawl), HSX.out]
                      rfl)
                    have HB4 : Hid (Below w1.heap.size w1 (w7.setCell ⟨g, aw, none⟩ s.val)) := Lib.hid ((HBW.out.trans (hb7.mono HBW.out.size)).trans (qk.below (Nat.le_trans HBW.out.size hb7.size) (fun i hi e => by omega)))
                    generalize g3[aw]'(by rw [HL3.out]; exact hawl) = old at qc
                    unfold Seg.val at qc
                    clear hf h1 h2 hb7 hN7 hspk qk qX hsr hsn hso hsl LG LX LN CJ HN3 HW3 HK3 HR3 HS3 HA3 HV HRD HSX HSL b4
                    refine opC_skip (w' := w7.setCell ⟨g, aw, none⟩ s.val) (by unfold Seg.val; simp [execOp, go_sem, qc, qf]) ?_
                    go_wp2_with fail
                    exact bodyPost_ret (v := .tuple #[.pointer (some ⟨x2, 0, none⟩), .int .i64 0]) (by simp [results, Tryd.results9, go_sem, Result.andThen]) rfl (HFIN.out _ _ HN4.out HRF.out HB4.out)
                · have HRF : Hid (g3.map Seg.l = rfOf fl wz K N) := Lib.hid (by unfold rfOf; rw [HWL.out, HR3.out]; show _ = if 0 ≤ N ∧ N < 256 then _ else _; rw [if_neg (by omega)])
                  clear HR3 HA3 HS3 HW3 HK3
                  go_wp2_with fail
                  exact bodyPost_ret (v := .tuple #[.pointer (some ⟨x2, 0, none⟩), .int .i64 0]) (by simp [results, Tryd.results9, go_sem, Result.andThen]) rfl (HFIN.out g3 _ HN3.out HRF.out HBW.out)
              · have HRF : Hid (g3.map Seg.l = rfOf fl wz K N) := Lib.hid (by unfold rfOf; rw [HWL.out, HR3.out]; show _ = if 0 ≤ N ∧ N < 256 then _ else _; rw [if_neg (by omega)])
                clear HR3 HA3 HS3 HW3 HK3
                go_wp2_with fail
                exact bodyPost_ret (v := .tuple #[.pointer (some ⟨x2, 0, none⟩), .int .i64 0]) (by simp [results, Tryd.results9, go_sem, Result.andThen]) rfl (HFIN.out g3 _ HN3.out HRF.out HBW.out)
set_option maxRecDepth 100000 in
set_option maxHeartbeats 4000000 in
theorem Play_fall_pos {w : World} {x : Nat} {AF AP AK : Option Addr} {nF cF nP cP nK cK a k : Nat} {p N left : Int} {v1 : Value} (hp : 0 ≤ p) {th : Bool} (hth : decide (p < (nF : Int)) = th) (ha : a % 7 = 4) {base cD : Nat} {oo : Nat → Prop} {gs : List Seg} {AD : Option Addr} {ds : List (Int × Seg)} {K : List Bool} (hv1 : v1 = .slice AD ds.length cD) (hnF : gs.length = nF) (hXD : XD w base x oo AF cF gs AD cD ds left) (hown : ∀ i, ownD x (.slice AF gs.length cF) (.slice AD ds.length cD) i → oo i) (hoo : ∀ i, oo i → i < w.heap.size) (hg9 : gs.length ≤ 1000) (hd9 : ds.length ≤ 100000) (hs : ∀ s ∈ gs, s.l.length = 256) (he : ∀ d ∈ ds, 0 ≤ d.1 → d.2.l.length = 256) (hc9 : ∀ d ∈ ds, 0 ≤ d.1 → 256 ≤ d.2.cap) (hwa : ∀ d ∈ waS ds, 0 ≤ d.1 ∧ d.1 < (gs.length : Int)) (hKK : Rb w w.heap.size AK K) (hnK : K.length = nK) (hmK : nK ≤ maxLen) (h : Blk w x 53 #[.slice AF nF cF, v1, .int .i64 left]) :
    Calls Tryd.prog 9 #[.pointer (some ⟨x, 0, none⟩), .agg #[.int .u8 (a : Int), .int .i64 p, .slice AP nP cP, .slice AK nK cK, .int .i64 N, .int .u32 (k : Int)]] w fun e w' => PlayL w oo gs ds K N e w' := by
  obtain ⟨b, hb⟩ : ∃ b, w.heap.size = b := ⟨_, rfl⟩
  obtain ⟨W, hW⟩ : ∃ W, w.alloc (.cells #[.int .u8 (a : Int), .int .i64 p, .slice AP nP cP, .slice AK nK cK, .int .i64 N, .int .u32 (k : Int)] 35) = W := ⟨_, rfl⟩
  have hbx := Blk.new w 35 #[.int .u8 (a : Int), .int .i64 p, .slice AP nP cP, .slice AK nK cK, .int .i64 N, .int .u32 (k : Int)]
  have hx := h.alloc (.cells #[.int .u8 (a : Int), .int .i64 p, .slice AP nP cP, .slice AK nK cK, .int .i64 N, .int .u32 (k : Int)] 35)
  have hbl := (Below.refl _ w).alloc (Nat.le_refl _) (.cells #[.int .u8 (a : Int), .int .i64 p, .slice AP nP cP, .slice AK nK cK, .int .i64 N, .int .u32 (k : Int)] 35)
  have hxl := h.lt
  rw [hW] at hbx hx hbl
  rw [hb] at hbx hxl
  have HW := Lib.hid (And.intro hW hb)
  have LP : ∀ W', Below W.heap.size W W' → (Instr.loadAt 3 (.pointer (some ⟨b, 1, none⟩))).run Tryd.prog W' = .ok (.int .i64 p) W' := fun W' hb' => by
    have c0 := (hbx.below hb' hbx.lt).cell 1
    simp at c0
    go_simp
  have LF : ∀ W', Below W.heap.size W W' → (Instr.loadAt 50 (.pointer (some ⟨x, 0, none⟩))).run Tryd.prog W' = .ok (.slice AF nF cF) W' := fun W' hb' => by
    have c0 := (hx.below hb' hx.lt).cell 0
    simp at c0
    go_simp
  have HX := Lib.hid hx
  have HBX := Lib.hid hbx
  have HBL := Lib.hid hbl
  have HXL := Lib.hid hxl
  have hr : ((a : Int)).tmod 7 = 4 := by
    rw [Int.tmod_eq_emod_of_nonneg (by omega)]
    omega
  clear ha
  subst hv1
  have HOO := Lib.hid (And.intro hown hoo)
  have HXD := Lib.hid hXD
  have HS9 := Lib.hid hs
  have HE9 := Lib.hid he
  have HWA := Lib.hid hwa
  have HC9 := Lib.hid hc9
  have HKK := Lib.hid hKK
  have HG9 : Hid (gs.length ≤ 100000) := Lib.hid (by omega)
  have HD9 := Lib.hid hd9
  clear hXD hown hoo hs he hwa hKK hd9 hc9
  clear h hbx hx hbl hxl hW hb
  go_enter Tryd.func9, Tryd.ntmps9
  go_wp2_with fail
  rw [HW.out.1, HW.out.2]
  refine wp_region_flow [some 13, some 14, some 15, some 16, some 17, some 18, some 19, some 20, some 21, some 22, some 23, some 24, some 25, some 6] (fun i => ([.is (.pointer (some ⟨b, 1, none⟩)), .is (.int .i64 p), .is (.bool true), .is (.bool true), .is (.pointer (some ⟨b, 1, none⟩)), .is (.int .i64 p), .is (.pointer (some ⟨x, 0, none⟩)), .is (.pointer (some ⟨x, 0, none⟩)), .is (.pointer (some ⟨x, 0, none⟩)), .is (.slice AF nF cF), .is (.int .i64 (nF : Int)), .is (.bool th), .is (.bool th), .is (.bool th)] : List Flw).getD i .any) (by kernel_rfl) (by kernel_rfl) rfl ?_ ?_
  · refine ⟨step_free rfl (fun aF wF hs hb => ?_), ?_⟩
    · obtain ⟨x0, -⟩ := hs
      have e0 : aF.eval (.tmp 3) = .pointer (some ⟨b, 0, none⟩) := x0
      refine opC_value (v := .pointer (some ⟨b, 1, none⟩)) ?_ ⟨rfl, below_same wF⟩
      have t0 := ev_of e0
      simp [execOp, go_sem, t0]
    refine ⟨step_free rfl (fun aF wF hs hb => ?_), ?_⟩
    · obtain ⟨x0, -⟩ := hs
      have e0 : aF.eval (.tmp 13) = .pointer (some ⟨b, 1, none⟩) := x0
      exact opC_load e0 (LP wF hb) ⟨rfl, below_same wF⟩
    refine ⟨step_free rfl (fun aF wF hs hb => ?_), ?_⟩
    · obtain ⟨x0, -⟩ := hs
      have e0 : aF.eval (.tmp 14) = .int .i64 p := x0
      refine opC_value (v := .bool true) ?_ ⟨rfl, below_same wF⟩
      simp [execOp, go_sem, ev_of e0, hp]
    refine ⟨step_free rfl (fun aF wF hs hb => ?_), ?_⟩
    · obtain ⟨x0, -⟩ := hs
      have e0 : aF.eval (.tmp 15) = .bool true := x0
      exact opC_move e0 ⟨rfl, below_same wF⟩
    refine ⟨step_yes 3 16 rfl rfl (fun _ _ h => h) (fun aF wF hs hb => ?_), ?_⟩
    · obtain ⟨x0, -⟩ := hs
      have e0 : aF.eval (.tmp 3) = .pointer (some ⟨b, 0, none⟩) := x0
      refine opC_value (v := .pointer (some ⟨b, 1, none⟩)) ?_ ⟨rfl, below_same wF⟩
      have t0 := ev_of e0
      simp [execOp, go_sem, t0]
    refine ⟨step_yes 3 16 rfl rfl (fun _ _ h => h) (fun aF wF hs hb => ?_), ?_⟩
    · obtain ⟨x0, -⟩ := hs
      have e0 : aF.eval (.tmp 17) = .pointer (some ⟨b, 1, none⟩) := x0
      exact opC_load e0 (LP wF hb) ⟨rfl, below_same wF⟩
    refine ⟨step_yes 3 16 rfl rfl (fun _ _ h => h) (fun aF wF hs hb => ?_), ?_⟩
    · obtain ⟨x0, -⟩ := hs
      have e0 : aF.eval (.tmp 0) = .pointer (some ⟨x, 0, none⟩) := x0
      exact opC_move e0 ⟨rfl, below_same wF⟩
    refine ⟨step_yes 3 16 rfl rfl (fun _ _ h => h) (fun aF wF hs hb => ?_), ?_⟩
    · obtain ⟨x0, -⟩ := hs
      have e0 : aF.eval (.tmp 19) = .pointer (some ⟨x, 0, none⟩) := x0
      refine opC_value (v := .pointer (some ⟨x, 0, none⟩)) ?_ ⟨rfl, below_same wF⟩
      have t0 := ev_of e0
      simp [execOp, go_sem, t0]
    refine ⟨step_yes 3 16 rfl rfl (fun _ _ h => h) (fun aF wF hs hb => ?_), ?_⟩
    · obtain ⟨x0, -⟩ := hs
      have e0 : aF.eval (.tmp 20) = .pointer (some ⟨x, 0, none⟩) := x0
      refine opC_value (v := .pointer (some ⟨x, 0, none⟩)) ?_ ⟨rfl, below_same wF⟩
      have t0 := ev_of e0
      simp [execOp, go_sem, t0]
    refine ⟨step_yes 3 16 rfl rfl (fun _ _ h => h) (fun aF wF hs hb => ?_), ?_⟩
    · obtain ⟨x0, -⟩ := hs
      have e0 : aF.eval (.tmp 21) = .pointer (some ⟨x, 0, none⟩) := x0
      exact opC_load e0 (LF wF hb) ⟨rfl, below_same wF⟩
    refine ⟨step_yes 3 16 rfl rfl (fun _ _ h => h) (fun aF wF hs hb => ?_), ?_⟩
    · obtain ⟨x0, -⟩ := hs
      have e0 : aF.eval (.tmp 22) = .slice AF nF cF := x0
      refine opC_value (v := .int .i64 (nF : Int)) ?_ ⟨rfl, below_same wF⟩
      have t0 := ev_of e0
      simp [execOp, go_sem, t0]
    refine ⟨step_yes 3 16 rfl rfl (fun _ _ h => h) (fun aF wF hs hb => ?_), ?_⟩
    · obtain ⟨x0, x1, -⟩ := hs
      have e0 : aF.eval (.tmp 18) = .int .i64 p := x0
      have e1 : aF.eval (.tmp 23) = .int .i64 (nF : Int) := x1
      refine opC_value (v := .bool th) ?_ ⟨rfl, below_same wF⟩
      simp [execOp, go_sem, ev_of e0, ev_of e1, hth]
    refine ⟨step_free rfl (fun aF wF hs hb => ?_), ?_⟩
    · obtain ⟨x0, x1, -⟩ := hs
      have e0 : aF.eval (.tmp 16) = .bool true := x0
      have e1 : aF.eval (.tmp 24) = .bool th := x1
      refine opC_value (v := .bool th) ?_ ⟨rfl, below_same wF⟩
      have t0 := ev_of e0
      have t1 := ev_of e1
      simp [execOp, go_sem, t0, t1]
    refine ⟨step_free rfl (fun aF wF hs hb => ?_), ?_⟩
    · obtain ⟨x0, -⟩ := hs
      have e0 : aF.eval (.tmp 25) = .bool th := x0
      exact opC_assign e0 ⟨rfl, below_same wF⟩
    exact trivial
  · intro f w6 hf hb6
    have h9 : f 13 = .bool th := hf 13 6 rfl
    simp only [putF, Act.put, List.setIfInBounds_toArray, List.set_cons_zero, List.set_cons_succ]
    rw [h9]
    have HX6 := Lib.hid (HX.out.below hb6 HX.out.lt)
    have HBX6 := Lib.hid (HBX.out.below hb6 HBX.out.lt)
    have HB6 := Lib.hid (HBL.out.trans (hb6.mono HBL.out.size))
    clear hf h9 hb6 LP LF HX HBX HBL HW
    have b0 := HBX6.out.cell 0
    have b1 := HBX6.out.cell 1
    have b4 := HBX6.out.cell 4
    simp at b0 b1 b4
    subst hnF
    have HXD6 := Lib.hid (HXD.out.below HB6.out)
    obtain ⟨w1, rfl⟩ : ∃ W, W = w6 := ⟨_, rfl⟩
    have HX1 := HXD6
    have HBX1 := HBX6
    have HW1 := HB6
    have c0 := HX1.out.head.cell 0
    simp at c0
    clear HX6 HXD HXD6 HBX6 HB6 b1 b4
    go_wp2_with fail
    refine (RNew_any gs.length hg9 w1).mono ?_
    rintro e w2 ⟨x2, AF2, cF2, g20, rfl, hn2, hl2, -, hb2⟩
    have c0 := hn2.head.cell 0
    simp at c0
    rw [hl2] at c0
    have HN2 := Lib.hid hn2
    have HL2 := Lib.hid hl2
    have HB2 := Lib.hid hb2
    clear hn2 hl2 hb2 b0
    go_wp2_with fail
    go_loopw [8, 83] (fun _ j wr => ∃ (k : Nat) (g2 : List Seg), k ≤ gs.length ∧ j = .int .i64 (k : Int) ∧ Hid (g2.length = gs.length) ∧ Hid (XD wr w1.heap.size x2 (nw w1.heap.size (ownD x2 (.slice AF2 g2.length cF2) (.slice none 0 0))) AF2 cF2 g2 none 0 [] (-1)) ∧ Hid (Copied wr w1.heap.size gs ds g2 k) ∧ Hid (Below w1.heap.size w1 wr)) (fun _ j _ => gs.length - (intOf j).toNat)
    case atStart => exact ⟨0, g20, Nat.zero_le _, rfl, HL2, HN2, Lib.hid (Copied.zero _ _ _ _ _), HB2⟩
    case round =>
      obtain ⟨k, g2, hk, rfl, HL, HN, HC, HB⟩ := hrel
      by_cases hlt : k < gs.length
      · have hk2 : k < g2.length := by rw [HL.out]; exact hlt
        obtain ⟨g, e, -, hgb, -, -, -⟩ := own_setF HN.out.rowF hk2
        subst e
        obtain ⟨sg, hsg⟩ : ∃ sg, sfS gs ds k = sg := ⟨_, rfl⟩
        have hX := HX1.out.below HB.out
        have hsg2 : Rd wr wr.heap.size sg.at_ sg.l := by
          rw [← hsg]
          exact (sfS_in (p := fun s => RdK oo wr s.at_ s.l) hX.segs (fun d hd _ => hX.deeds d hd) hlt).rd
        have hsg3 : sg.l.length = 256 := by
          rw [← hsg]
          exact sfS_in (p := fun s => s.l.length = 256) HS9.out HE9.out hlt
        have HLW : Hid (∀ W', Below wr.heap.size wr W' → XD W' base x oo AF cF gs AD cD ds left) := Lib.hid (fun W' hb => hX.below hb)
        have hk0 : (0 : Int) ≤ (k : Int) := by omega
        have hkn : (k : Int) < (gs.length : Int) := by omega
        have LF : ∀ W', Below wr.heap.size wr W' → (Instr.loadAt 50 (.pointer (some ⟨x2, 0, none⟩))).run Tryd.prog W' = .ok (.slice (some ⟨g, 0, none⟩) gs.length cF2) W' := fun W' hb => by
          have c0 := (HN.out.below hb).head.cell 0
          simp at c0
          rw [HL.out] at c0
          go_simp
        have CS : ∀ W', Below wr.heap.size wr W' → Calls Tryd.prog 21 #[.pointer (some ⟨x, 0, none⟩), .int .i64 (k : Int)] W' fun e w' => e = .returned sg.val ∧ Below W'.heap.size W' w' := fun W' hb => by
          rw [← hsg]
          exact safe_x (HLW.out W' hb) k hlt HG9.out HD9.out
        have CC : ∀ W', Below wr.heap.size wr W' → Calls Tryd.prog 7 #[sg.val, .int .i64 256] W' (ToF (newF wr.heap.size sg.l) W') := fun W' hb =>
          cutNew hb hsg3 ((hsg2.below hb).more hb.size)
        have HSG := Lib.hid hsg
        clear hsg hsg2 hsg3 hX
        go_wp2_with fail
        refine wp_region_flow_last (l := [_, _, _, _, _, _, _, _, _, _]) (ol := _) rfl [some 86, some 87, some 88, some 89, some 90, some 91, some 92, some 93, some 94, some 95] (fun i => ([.is (.pointer (some ⟨x2, 0, none⟩)), .is (.pointer (some ⟨x2, 0, none⟩)), .is (.pointer (some ⟨x2, 0, none⟩)), .is (.slice (some ⟨g, 0, none⟩) gs.length cF2), .is (.int .i64 (k : Int)), .is (.pointer (some ⟨x, 0, none⟩)), .is (.int .i64 (k : Int)), .is (sg.val), newF wr.heap.size sg.l, .is (.pointer (some ⟨g, k, none⟩))] : List Flw).getD i .any) (by kernel_rfl) (by kernel_rfl) (by kernel_rfl) rfl rfl ?_ ?_
        · refine ⟨step_free rfl (fun aF wF hs hb => ?_), ?_⟩
          · obtain ⟨x0, -⟩ := hs
            have e0 : aF.eval (.tmp 7) = .pointer (some ⟨x2, 0, none⟩) := x0
            exact opC_move e0 ⟨rfl, below_same wF⟩
          refine ⟨step_free rfl (fun aF wF hs hb => ?_), ?_⟩
          · obtain ⟨x0, -⟩ := hs
            have e0 : aF.eval (.tmp 86) = .pointer (some ⟨x2, 0, none⟩) := x0
            refine opC_value (v := .pointer (some ⟨x2, 0, none⟩)) ?_ ⟨rfl, below_same wF⟩
            have t0 := ev_of e0
            simp [execOp, go_sem, t0]
          refine ⟨step_free rfl (fun aF wF hs hb => ?_), ?_⟩
          · obtain ⟨x0, -⟩ := hs
            have e0 : aF.eval (.tmp 87) = .pointer (some ⟨x2, 0, none⟩) := x0
            refine opC_value (v := .pointer (some ⟨x2, 0, none⟩)) ?_ ⟨rfl, below_same wF⟩
            have t0 := ev_of e0
            simp [execOp, go_sem, t0]
          refine ⟨step_free rfl (fun aF wF hs hb => ?_), ?_⟩
          · obtain ⟨x0, -⟩ := hs
            have e0 : aF.eval (.tmp 88) = .pointer (some ⟨x2, 0, none⟩) := x0
            exact opC_load e0 (LF wF hb) ⟨rfl, below_same wF⟩
          refine ⟨step_free rfl (fun aF wF hs hb => ?_), ?_⟩
          · obtain ⟨x0, -⟩ := hs
            have e0 : aF.eval (.tmp 8) = .int .i64 (k : Int) := x0
            exact opC_move e0 ⟨rfl, below_same wF⟩
          refine ⟨step_free rfl (fun aF wF hs hb => ?_), ?_⟩
          · obtain ⟨x0, -⟩ := hs
            have e0 : aF.eval (.tmp 0) = .pointer (some ⟨x, 0, none⟩) := x0
            exact opC_move e0 ⟨rfl, below_same wF⟩
          refine ⟨step_free rfl (fun aF wF hs hb => ?_), ?_⟩
          · obtain ⟨x0, -⟩ := hs
            have e0 : aF.eval (.tmp 8) = .int .i64 (k : Int) := x0
            exact opC_move e0 ⟨rfl, below_same wF⟩
          refine ⟨step_free rfl (fun aF wF hs hb => ?_), ?_⟩
          · obtain ⟨x0, x1, -⟩ := hs
            have e0 : aF.eval (.tmp 91) = .pointer (some ⟨x, 0, none⟩) := x0
            have e1 : aF.eval (.tmp 92) = .int .i64 (k : Int) := x1
            exact opC_call (args := #[.pointer (some ⟨x, 0, none⟩), .int .i64 (k : Int)]) (enters9 Tryd.func21 (by kernel_rfl) rfl) (by simp [e0, e1]) (CS wF hb) (fun _ h => ⟨rfl, h⟩)
          refine ⟨step_free rfl (fun aF wF hs hb => ?_), ?_⟩
          · obtain ⟨x0, -⟩ := hs
            have e0 : aF.eval (.tmp 93) = sg.val := x0
            exact opC_callF (args := #[sg.val, .int .i64 256]) (enters9 Tryd.func7 (by kernel_rfl) rfl) (by simp [e0]; rfl) (CC wF hb) (fun _ _ h1 h2 => ⟨h1, h2⟩)
          refine ⟨step_free rfl (fun aF wF hs hb => ?_), ?_⟩
          · obtain ⟨x0, x1, -⟩ := hs
            have e0 : aF.eval (.tmp 89) = .slice (some ⟨g, 0, none⟩) gs.length cF2 := x0
            have e1 : aF.eval (.tmp 90) = .int .i64 (k : Int) := x1
            refine opC_value (v := .pointer (some ⟨g, k, none⟩)) ?_ ⟨rfl, below_same wF⟩
            simp [execOp, go_sem, ev_of e0, ev_of e1, hk0, hkn]
          exact trivial
        · intro fv w6 hf hb6
          have h1 : (newF wr.heap.size sg.l).p (fv 8) w6 := hf 8 94 rfl
          obtain ⟨s, h1, hsl, -, hso⟩ := h1
          obtain ⟨hsr, hsn⟩ := own_seg hso
          have h2 : fv 9 = .pointer (some ⟨g, k, none⟩) := hf 9 95 rfl
          obtain ⟨g', e, hbg, qc, qf, -, -, qX⟩ := XD.setF (ds := []) (AD := none) (cD := 0) (s := s) HN.out HB.out.size hk2 hb6 hsr hsn
          injection e with e
          injection e with e _ _
          subst e
          have qk : Kept (fun i => i = g) w6 (w6.setCell ⟨g, k, none⟩ s.val) := ⟨rfl, rfl, rfl, by simp [World.setCell], fun j hj hn => Below.heap_setCell w6 ⟨g, k, none⟩ _ j hn⟩
          have qg : ∃ cs, Blk w6 g 31 cs := by
            have h := (HN.out.below hb6).rowF
            unfold OwnS at h
            rcases h.2 with ⟨h, _⟩ | ⟨g', cap, cur, h, _, h3, _⟩
            · injection h with h; cases h
            · injection h with h _ _
              injection h with h
              injection h with h _ _
              subst h
              exact ⟨cur, h3⟩
          simp only [putF, Act.put, List.setIfInBounds_toArray, List.set_cons_zero, List.set_cons_succ]
          rw [h1, h2]
          have HC2 := Lib.hid (HC.out.next (gs := gs) (ds := ds) hb6 hk2 (by rw [hsl, HSG.out]) HB.out.size hso qk qg)
          have HL3 : Hid ((g2.set k s).length = gs.length) := Lib.hid (by rw [List.length_set]; exact HL.out)
          have HX4 := Lib.hid qX
          have HB4 : Hid (Below w1.heap.size w1 (w6.setCell ⟨g, k, none⟩ s.val)) := Lib.hid ((HB.out.trans (hb6.mono HB.out.size)).trans (qk.below (Nat.le_trans HB.out.size hb6.size) (fun i hi e => by omega)))
          generalize g2[k] = old at qc
          unfold Seg.val at qc
          clear hf h1 h2 qX qk qg hb6 hsr hsn hso LF CS CC HC HN HL HB hsl HLW HSG
          refine opC_skip (w' := w6.setCell ⟨g, k, none⟩ s.val) (by unfold Seg.val; simp [execOp, go_sem, qc, qf]) ?_
          go_wp2_with fail
          go_roundw
          case rel => exact ⟨k + 1, _, by omega, by go_num, HL3, HX4, HC2, HB4⟩
          case measure => simp [intOf]; omega
      · obtain rfl : k = gs.length := by omega
        have hX4 := HX1.out.below HB.out
        have HN0 : Hid (XD wr w1.heap.size x2 (fun i => oo i ∨ ownD x2 (.slice AF2 g2.length cF2) (.slice none 0 0) i) AF2 cF2 g2 none 0 [] (-1)) := Lib.hid (HN.out.weaken (fun i hi e => by
          rcases e with e | e
          · exact .inl (Nat.lt_of_lt_of_le (HOO.out.2 i e) HW1.out.size)
          · exact .inr e))
        have HM0 := Lib.hid (copied_map HC.out HL.out)
        have HL256 := Lib.hid (copied_len HC.out HL.out HS9.out HE9.out)
        have HBB : Hid (Blk wr b 35 _) := Lib.hid (HBX1.out.below HB.out HBX1.out.lt)
        have HXr := Lib.hid hX4
        have HBr : Hid (Below w1.heap.size w1 wr) := HB
        have HOWN2 : Hid (∀ i, ownD x2 (.slice AF2 gs.length cF2) (.slice none 0 0) i → w1.heap.size ≤ i ∧ i < wr.heap.size) := Lib.hid (fun i e => ⟨HN.out.gee i (by rw [HL.out]; exact e), HN.out.lt i (by rw [HL.out]; exact e)⟩)
        clear hX4 HN HC HB
        have c1 := HXr.out.head.cell 1
        simp at c1
        obtain ⟨w4, rfl⟩ : ∃ W, W = wr := ⟨_, rfl⟩
        go_wp2_with fail
        refine (RWaits_any ds HXr.out.head HXr.out.rsD.1 rfl HD9.out).mono ?_
        rintro e w5 ⟨AW, cW, rfl, hwc, hwm, hwo, hw5⟩
        obtain ⟨_, A8, c8, e8, _, _, hrsW⟩ := hwo.form (by decide)
        injection e8 with e8 _ _
        subst e8
        have HAW : Hid (∀ b q, AW = some ⟨b, q, none⟩ → w4.heap.size ≤ b) := Lib.hid (fun b q e => (hwo.lt b (by rw [e]; rfl)).1)
        have HRW := Lib.hid hrsW
        have HN5 := Lib.hid (HN0.out.below hw5)
        have HBB5 := Lib.hid (HBB.out.below hw5 HBB.out.lt)
        have HB5 := Lib.hid (HBr.out.trans (hw5.mono HBr.out.size))
        clear hwc hwm hwo hw5 hrsW HN0 HBB HXr HBr c1
        obtain ⟨fl, hfl⟩ : ∃ fl, sfA (gs.map Seg.l) (dsl ds) = fl := ⟨_, rfl⟩
        rw [hfl] at HM0
        have HFL := Lib.hid hfl
        obtain ⟨wz, hwz⟩ : ∃ wz, dn (waR (dsl ds)) = wz := ⟨_, rfl⟩
        have HWZ := Lib.hid hwz
        have HWL : Hid (wz.length = (waS ds).length) := Lib.hid (by rw [← hwz]; exact dn_len ds)
        have hwl9 : (waS ds).length ≤ 100000 := by have := waS_le ds; have := HD9.out; omega
        clear hfl hwz
        go_wp2_with fail
        go_loopw [9, 10, 11, 12, 100] (fun la wv _ _ j wr => ∃ (k : Nat) (g3 : List Seg) (sw : Seg) (lz : Option Nat), k ≤ (waS ds).length ∧ j = .int .i64 (k : Int) ∧ la = .int .i64 (lastI lz) ∧ wv = sw.val ∧ Hid (g3.length = gs.length) ∧ Hid (rfK fl wz K k = (g3.map Seg.l, lz, sw.l)) ∧ Hid (∀ a, lz = some a → a < gs.length ∧ sw.l.length = 256 ∧ 256 ≤ sw.cap) ∧ Hid (∀ s ∈ g3, s.l.length = 256 ∧ 256 ≤ s.cap) ∧ Hid (RdK (fun i => oo i ∨ ownD x2 (.slice AF2 g3.length cF2) (.slice none 0 0) i) wr sw.at_ sw.l) ∧ Hid (XD wr w1.heap.size x2 (fun i => oo i ∨ ownD x2 (.slice AF2 g3.length cF2) (.slice none 0 0) i) AF2 cF2 g3 none 0 [] (-1)) ∧ Hid (Kept (ownD x2 (.slice AF2 gs.length cF2) (.slice none 0 0)) w5 wr)) (fun _ _ _ _ j _ => (waS ds).length - (intOf j).toNat)
        case atStart => exact ⟨0, g2, noSeg, none, Nat.zero_le _, rfl, rfl, rfl, HL, Lib.hid (by rw [HM0.out]; rfl), Lib.hid (fun a e => by cases e), HL256, Lib.hid (fun h => absurd h (by decide)), HN5, Lib.hid (Kept.refl _ _)⟩
        case round =>
          obtain ⟨k, g3, sw0, lz, hk, rfl, rfl, rfl, HL3, HR3, HA3, HS3, HW3, HN3, HK3⟩ := hrel
          have HBW : Hid (Below w1.heap.size w1 wr) := Lib.hid (HB5.out.trans (HK3.out.below HB5.out.size (fun i hi e => absurd (HOWN2.out i e).1 (by omega))))
          have hbq := HBB5.out
          have hbr : Blk wr b 35 _ := (HK3.out.block b hbq.lt (fun e => absurd (HOWN2.out b e).1 (by have := HBX1.out.lt; omega))).trans hbq
          by_cases hlt : k < (waS ds).length
          · obtain ⟨bD, oD, hAe, hbD, hcD⟩ := HRW.out.at_ hlt
            have hbDn : ¬ ownD x2 (.slice AF2 gs.length cF2) (.slice none 0 0) bD := fun e => by have := (HOWN2.out bD e).2; have := HAW.out bD oD hAe; omega
            subst hAe
            obtain ⟨d, hd⟩ : ∃ d, (waS ds)[k] = d := ⟨_, rfl⟩
            obtain ⟨a9, sp⟩ := d
            have hmem : (a9, sp) ∈ waS ds := by rw [← hd]; exact List.getElem_mem hlt
            obtain ⟨p0, p1⟩ := HWA.out _ hmem
            obtain ⟨aw, haw⟩ := Int.eq_ofNat_of_zero_le p0
            have haw : a9 = (aw : Int) := haw
            subst haw
            have hawl : aw < gs.length := by have : (aw : Int) < (gs.length : Int) := p1; omega
            rw [hd] at hcD
            have e0 : wr.cell? ⟨bD, oD + k * 2, none⟩ = some (.int .i64 (aw : Int)) := (World.cell?_of_block (a := ⟨bD, oD + k * 2, none⟩) (HK3.out.block bD hbD hbDn)).trans (hcD 0 _ rfl)
            have e1 : wr.cell? ⟨bD, oD + k * 2 + 1, none⟩ = some (.slice sp.at_ sp.l.length sp.cap) := (World.cell?_of_block (a := ⟨bD, oD + k * 2 + 1, none⟩) (HK3.out.block bD hbD hbDn)).trans (hcD 1 _ rfl)
            have HGET : Hid (wz.getD k (0, []) = (aw, sp.l)) := Lib.hid (by rw [← HWZ.out, dn_at ds k hlt, hd]; rfl)
            have HSP : Hid (sp.l.length = 256 ∧ 256 ≤ sp.cap ∧ RdK oo w1 sp.at_ sp.l) := Lib.hid ⟨HE9.out _ (waS_sub ds _ hmem) (by omega), HC9.out _ (waS_sub ds _ hmem) (by omega), HX1.out.deeds _ (waS_sub ds _ hmem)⟩
            have b3 := (hbr.alloc (.cells #[.int .i64 (aw : Int), .slice sp.at_ sp.l.length sp.cap] 59)).cell 3
            simp at b3
            have HBRR := Lib.hid hbr
            clear hcD hbD hbDn hd hmem p0 p1 hbq hbr
            by_cases hkn : k < K.length
            · obtain ⟨bK, oK, hKe, hbK, hcK⟩ := HKK.out.at_ (k := k) (by omega)
              subst hKe
              have hcK2 : (wr.alloc (.cells #[.int .i64 (aw : Int), .slice sp.at_ sp.l.length sp.cap] 59)).cell? ⟨bK, oK + k, none⟩ = some (.bool (K[k]'hkn)) := by
                rw [World.cell?_alloc_lt _ _ _ (by have := HW1.out.size; have := HBW.out.size; show bK < wr.heap.size; omega)]
                exact (HBW.out.cell (p := ⟨bK, oK + k, none⟩) (by have := HW1.out.size; show bK < w1.heap.size; omega)).trans ((HW1.out.cell (p := ⟨bK, oK + k, none⟩) hbK).trans hcK)
              have hgd : K.getD k false = K[k]'hkn := by rw [List.getD_eq_getElem?_getD, List.getElem?_eq_getElem hkn]; rfl
              have k1 : (k : Int) < (nK : Int) := by omega
              have k0 : (0 : Int) ≤ (k : Int) := by omega
              cases hv : K[k]'hkn
              · rw [hv] at hcK2 hgd
                have HR4 : Hid (rfK fl wz K (k + 1) = (g3.map Seg.l, lz, sw0.l)) := Lib.hid (by
                  rw [rfK, if_neg (by rw [hgd]; decide)]
                  exact HR3.out)
                clear hv hgd hbK hcK
                have HK4 : Hid (Kept (ownD x2 (.slice AF2 gs.length cF2) (.slice none 0 0)) w5 (wr.alloc (.cells #[.int .i64 (aw : Int), .slice sp.at_ sp.l.length sp.cap] 59))) := Lib.hid (HK3.out.trans (Kept.of_below (own := fun _ => False) ((Below.refl _ wr).alloc (Nat.le_refl _) _)) (fun _ _ h => h.elim))
                have HW4 := Lib.hid (HW3.out.below ((Below.refl _ wr).alloc (Nat.le_refl _) (.cells #[.int .i64 (aw : Int), .slice sp.at_ sp.l.length sp.cap] 59)))
                have HN4 := Lib.hid (HN3.out.below ((Below.refl _ wr).alloc (Nat.le_refl _) (.cells #[.int .i64 (aw : Int), .slice sp.at_ sp.l.length sp.cap] 59)))
                clear HK3 HW3 HN3 HR3 HSP HGET
                go_wp2_with fail
                go_roundw
                case rel => exact ⟨k + 1, g3, sw0, lz, by omega, by go_num, rfl, rfl, HL3, HR4, HA3, HS3, HW4, HN4, HK4⟩
                case measure => simp [intOf]; omega
              · rw [hv] at hcK2 hgd
                have HR4 : Hid (rfK fl wz K (k + 1) = ((g3.map Seg.l).set aw sp.l, some aw, (g3.map Seg.l).getD aw [])) := Lib.hid (by
                  rw [rfK, if_pos hgd, HGET.out, HR3.out])
                clear hv hgd hbK hcK
                obtain ⟨W1, hW1⟩ : ∃ W, wr.alloc (.cells #[.int .i64 (aw : Int), .slice sp.at_ sp.l.length sp.cap] 59) = W := ⟨_, rfl⟩
                have hbox := Blk.new wr 59 #[.int .i64 (aw : Int), .slice sp.at_ sp.l.length sp.cap]
                have hbw := (Below.refl _ wr).alloc (Nat.le_refl _) (.cells #[.int .i64 (aw : Int), .slice sp.at_ sp.l.length sp.cap] 59)
                rw [hW1] at hbox hbw
                obtain ⟨q, hq⟩ : ∃ q, wr.heap.size = q := ⟨_, rfl⟩
                rw [hq] at hbox
                have HQ := Lib.hid hq
                have HEQ := Lib.hid (And.intro hW1 hq)
                have hN1 := HN3.out.below hbw
                obtain ⟨g, e, hgb, hgl, -, -, -⟩ := own_setF hN1.rowF (k := aw) (by rw [HL3.out]; exact hawl)
                subst e
                obtain ⟨sw, hsw⟩ : ∃ s, g3[aw]'(by rw [HL3.out]; exact hawl) = s := ⟨_, rfl⟩
                have hswm : sw ∈ g3 := by rw [← hsw]; exact List.getElem_mem _
                have HSW := Lib.hid (HS3.out sw hswm)
                have HGW : Hid ((g3.map Seg.l).getD aw [] = sw.l) := Lib.hid (by rw [List.getD_eq_getElem?_getD, List.getElem?_map, List.getElem?_eq_getElem (by rw [HL3.out]; exact hawl), hsw]; rfl)
                have HSWM := Lib.hid hswm
                have HSWE := Lib.hid hsw
                have HN1 := Lib.hid hN1
                have HBX1q := Lib.hid hbox
                have HBWq := Lib.hid hbw
                have a0 : (0 : Int) ≤ (aw : Int) := by omega
                have a1 : (aw : Int) < (gs.length : Int) := by omega
                have LQ0 : ∀ W', Below W1.heap.size W1 W' → (Instr.loadAt 3 (.pointer (some ⟨q, 0, none⟩))).run Tryd.prog W' = .ok (.int .i64 (aw : Int)) W' := fun W' hb => load_int (by have c0 := (hbox.below hb hbox.lt).cell 0; simpa using c0)
                have LG : ∀ W', Below W1.heap.size W1 W' → (Instr.loadAt 50 (.pointer (some ⟨x2, 0, none⟩))).run Tryd.prog W' = .ok (.slice (some ⟨g, 0, none⟩) gs.length cF2) W' := fun W' hb => load_rows (by have c0 := (HN1.out.below hb).head.cell 0; rw [HL3.out] at c0; simpa using c0)
                have LW : ∀ W', Below W1.heap.size W1 W' → (Instr.loadAt 31 (.pointer (some ⟨g, aw, none⟩))).run Tryd.prog W' = .ok sw.val W' := fun W' hb => by
                  obtain ⟨g', e, _, _, hc, _⟩ := own_setF (HN1.out.below hb).rowF (k := aw) (by rw [HL3.out]; exact hawl)
                  injection e with e
                  injection e with e _ _
                  subst e
                  rw [hsw] at hc
                  exact load_slice hc
                rw [hW1] at b3 hcK2
                clear hbox hbw hN1 hswm hW1 hq
                rw [← HEQ.out.1] at b3 hcK2
                go_wp2_with fail
                clear b3 hcK2
                rw [HEQ.out.1, HEQ.out.2]
                have q0c : W1.cell? ⟨q, 0, none⟩ = some (.int .i64 (aw : Int)) := by have c0 := HBX1q.out.cell 0; simpa using c0
                have xc : W1.cell? ⟨x2, 0, none⟩ = some (.slice (some ⟨g, 0, none⟩) gs.length cF2) := by have c0 := HN1.out.head.cell 0; rw [HL3.out] at c0; simpa using c0
                have gc : W1.cell? ⟨g, aw, none⟩ = some (.slice sw.at_ sw.l.length sw.cap) := by
                  obtain ⟨g', e, _, _, hc, _⟩ := own_setF HN1.out.rowF (k := aw) (by rw [HL3.out]; exact hawl)
                  injection e with e
                  injection e with e _ _
                  subst e
                  rw [HSWE.out] at hc
                  exact hc
                clear LQ0 LG LW
                go_quiet (fail)
                clear q0c xc gc
                obtain ⟨w6, hw6⟩ : ∃ W, W1.drewN nq = W := ⟨_, rfl⟩
                rw [hw6]
                have hbd : Below W1.heap.size W1 w6 := by rw [← hw6]; exact ⟨rfl, rfl, rfl, Nat.le_refl _, fun _ _ => rfl⟩
                have HDR := Lib.hid hbd
                have hbox := HBX1q.out.below HDR.out HBX1q.out.lt
                have LQ0 : ∀ W', Below w6.heap.size w6 W' → (Instr.loadAt 3 (.pointer (some ⟨q, 0, none⟩))).run Tryd.prog W' = .ok (.int .i64 (aw : Int)) W' := fun W' hb => load_int (by have c0 := (hbox.below hb hbox.lt).cell 0; simpa using c0)
                have LQ1 : ∀ W', Below w6.heap.size w6 W' → (Instr.loadAt 31 (.pointer (some ⟨q, 1, none⟩))).run Tryd.prog W' = .ok sp.val W' := fun W' hb => load_slice (by have c0 := (hbox.below hb hbox.lt).cell 1; simpa using c0)
                have HN6 := Lib.hid (HN1.out.below HDR.out)
                have LG : ∀ W', Below w6.heap.size w6 W' → (Instr.loadAt 50 (.pointer (some ⟨x2, 0, none⟩))).run Tryd.prog W' = .ok (.slice (some ⟨g, 0, none⟩) gs.length cF2) W' := fun W' hb => load_rows (by have c0 := (HN6.out.below hb).head.cell 0; rw [HL3.out] at c0; simpa using c0)
                clear hw6 hbd
                go_wp2_with fail
                refine wp_region_flow_last (l := [_, _, _, _, _, _, _, _, _]) (ol := _) rfl [some 127, some 128, some 129, some 130, some 131, some 132, some 133, some 134, some 135] (fun i => ([.is (.pointer (some ⟨x2, 0, none⟩)), .is (.pointer (some ⟨x2, 0, none⟩)), .is (.pointer (some ⟨x2, 0, none⟩)), .is (.slice (some ⟨g, 0, none⟩) gs.length cF2), .is (.pointer (some ⟨q, 0, none⟩)), .is (.int .i64 (aw : Int)), .is (.pointer (some ⟨q, 1, none⟩)), .is (sp.val), .is (.pointer (some ⟨g, aw, none⟩))] : List Flw).getD i .any) (by kernel_rfl) (by kernel_rfl) (by kernel_rfl) rfl rfl ?_ ?_
                · refine ⟨step_free rfl (fun aF wF hs hb => ?_), ?_⟩
                  · obtain ⟨x0, -⟩ := hs
                    have e0 : aF.eval (.tmp 7) = .pointer (some ⟨x2, 0, none⟩) := x0
                    exact opC_move e0 ⟨rfl, below_same wF⟩
                  refine ⟨step_free rfl (fun aF wF hs hb => ?_), ?_⟩
                  · obtain ⟨x0, -⟩ := hs
                    have e0 : aF.eval (.tmp 127) = .pointer (some ⟨x2, 0, none⟩) := x0
                    refine opC_value (v := .pointer (some ⟨x2, 0, none⟩)) ?_ ⟨rfl, below_same wF⟩
                    have t0 := ev_of e0
                    simp [execOp, go_sem, t0]
                  refine ⟨step_free rfl (fun aF wF hs hb => ?_), ?_⟩
                  · obtain ⟨x0, -⟩ := hs
                    have e0 : aF.eval (.tmp 128) = .pointer (some ⟨x2, 0, none⟩) := x0
                    refine opC_value (v := .pointer (some ⟨x2, 0, none⟩)) ?_ ⟨rfl, below_same wF⟩
                    have t0 := ev_of e0
                    simp [execOp, go_sem, t0]
                  refine ⟨step_free rfl (fun aF wF hs hb => ?_), ?_⟩
                  · obtain ⟨x0, -⟩ := hs
                    have e0 : aF.eval (.tmp 129) = .pointer (some ⟨x2, 0, none⟩) := x0
                    exact opC_load e0 (LG wF hb) ⟨rfl, below_same wF⟩
                  refine ⟨step_free rfl (fun aF wF hs hb => ?_), ?_⟩
                  · obtain ⟨x0, -⟩ := hs
                    have e0 : aF.eval (.tmp 12) = .pointer (some ⟨q, 0, none⟩) := x0
                    refine opC_value (v := .pointer (some ⟨q, 0, none⟩)) ?_ ⟨rfl, below_same wF⟩
                    have t0 := ev_of e0
                    simp [execOp, go_sem, t0]
                  refine ⟨step_free rfl (fun aF wF hs hb => ?_), ?_⟩
                  · obtain ⟨x0, -⟩ := hs
                    have e0 : aF.eval (.tmp 131) = .pointer (some ⟨q, 0, none⟩) := x0
                    exact opC_load e0 (LQ0 wF hb) ⟨rfl, below_same wF⟩
                  refine ⟨step_free rfl (fun aF wF hs hb => ?_), ?_⟩
                  · obtain ⟨x0, -⟩ := hs
                    have e0 : aF.eval (.tmp 12) = .pointer (some ⟨q, 0, none⟩) := x0
                    refine opC_value (v := .pointer (some ⟨q, 1, none⟩)) ?_ ⟨rfl, below_same wF⟩
                    have t0 := ev_of e0
                    simp [execOp, go_sem, t0]
                  refine ⟨step_free rfl (fun aF wF hs hb => ?_), ?_⟩
                  · obtain ⟨x0, -⟩ := hs
                    have e0 : aF.eval (.tmp 133) = .pointer (some ⟨q, 1, none⟩) := x0
                    exact opC_load e0 (LQ1 wF hb) ⟨rfl, below_same wF⟩
                  refine ⟨step_free rfl (fun aF wF hs hb => ?_), ?_⟩
                  · obtain ⟨x0, x1, -⟩ := hs
                    have e0 : aF.eval (.tmp 130) = .slice (some ⟨g, 0, none⟩) gs.length cF2 := x0
                    have e1 : aF.eval (.tmp 132) = .int .i64 (aw : Int) := x1
                    refine opC_value (v := .pointer (some ⟨g, aw, none⟩)) ?_ ⟨rfl, below_same wF⟩
                    simp [execOp, go_sem, ev_of e0, ev_of e1, a0, a1]
                  exact trivial
                · intro fv2 w7 hf hb7
                  have h1 : fv2 7 = sp.val := hf 7 134 rfl
                  have h2 : fv2 8 = .pointer (some ⟨g, aw, none⟩) := hf 8 135 rfl
                  simp only [putF, Act.put, List.setIfInBounds_toArray, List.set_cons_zero, List.set_cons_succ]
                  rw [h1, h2]
                  have hb17 : Below wr.heap.size wr w7 := HBWq.out.trans ((HDR.out.trans (hb7.mono HDR.out.size)).mono HBWq.out.size)
                  have hN7 := HN3.out.below hb17
                  have hspk : RdK (fun i => oo i ∨ ownD x2 (.slice (some ⟨g, 0, none⟩) g3.length cF2) (.slice none 0 0) i) w7 sp.at_ sp.l := fun h0 => by
                    obtain ⟨b', q', e, hb', hno, hc⟩ := HSP.out.2.2 h0
                    have hbw7 := HBW.out.trans (hb17.mono HBW.out.size)
                    refine ⟨b', q', e, Nat.lt_of_lt_of_le hb' hbw7.size, ?_, fun j u hu => (hbw7.cell (p := ⟨b', q' + j, none⟩) hb').trans (hc j u hu)⟩
                    rintro (e1 | e1)
                    · exact hno e1
                    · have := (HOWN2.out b' (by rw [← HL3.out]; exact e1)).1
                      omega
                  obtain ⟨g', e, _, _, qc, qf, qk, qX⟩ := hN7.putF (k := aw) (s := sp) (by rw [HL3.out]; exact hawl) hspk
                  injection e with e
                  injection e with e _ _
                  subst e
                  have hlen4 : (g3.set aw sp).length = gs.length := by rw [List.length_set]; exact HL3.out
                  have HL4 := Lib.hid hlen4
                  have HN4 := Lib.hid qX
                  have HR5 : Hid (rfK fl wz K (k + 1) = ((g3.set aw sp).map Seg.l, some aw, sw.l)) := Lib.hid (by rw [HR4.out, HGW.out, List.map_set])
                  have HA4 : Hid (∀ a, some aw = some a → a < gs.length ∧ sw.l.length = 256 ∧ 256 ≤ sw.cap) := Lib.hid (fun a e => by injection e with e; subst e; exact ⟨hawl, HSW.out⟩)
                  have HS4 : Hid (∀ s ∈ g3.set aw sp, s.l.length = 256 ∧ 256 ≤ s.cap) := Lib.hid (fun s hs => by
                    rcases List.mem_or_eq_of_mem_set hs with h | h
                    · exact HS3.out s h
                    · rw [h]; exact ⟨HSP.out.1, HSP.out.2.1⟩)
                  have HW5 : Hid (RdK (fun i => oo i ∨ ownD x2 (.slice (some ⟨g, 0, none⟩) (g3.set aw sp).length cF2) (.slice none 0 0) i) (w7.setCell ⟨g, aw, none⟩ sp.val) sw.at_ sw.l) := Lib.hid (by
                    rw [hlen4, ← HL3.out]
                    exact (hN7.segs sw HSWM.out).kept (qk.mono (fun i e => by subst e; exact .inr (.inr (.inl rfl)))) (fun _ _ h => h))
                  have HK4 : Hid (Kept (ownD x2 (.slice (some ⟨g, 0, none⟩) gs.length cF2) (.slice none 0 0)) w5 (w7.setCell ⟨g, aw, none⟩ sp.val)) := Lib.hid ((HK3.out.trans (Kept.of_below (own := fun _ => False) hb17) (fun _ _ h => h.elim)).trans qk (fun i _ e => by subst e; exact .inr (.inl rfl)))
                  generalize g3[aw]'(by rw [HL3.out]; exact hawl) = old at qc
                  unfold Seg.val at qc
                  clear hf h1 h2 hb7 hb17 hN7 hspk qk qX hlen4 LQ0 LQ1 LG hbox HN6 HN1 HBX1q HBWq HN3 HW3 HK3 HR3 HR4 HS3 HSP HGET HSW HSWM HGW HA3
                  refine opC_skip (w' := w7.setCell ⟨g, aw, none⟩ sp.val) (by unfold Seg.val; simp [execOp, go_sem, qc, qf]) ?_
                  go_wp2_with fail
                  go_roundw
                  case rel => exact ⟨k + 1, g3.set aw sp, sw, some aw, by omega, by go_num, rfl, rfl, HL4, HR5, HA4, HS4, HW5, HN4, HK4⟩
                  case measure => simp [intOf]; omega
            · have k1 : ¬ (k : Int) < (nK : Int) := by omega
              have hgd : K.getD k false = false := by rw [List.getD_eq_getElem?_getD, List.getElem?_eq_none (by omega)]; rfl
              have HR4 : Hid (rfK fl wz K (k + 1) = (g3.map Seg.l, lz, sw0.l)) := Lib.hid (by
                rw [rfK, if_neg (by rw [hgd]; decide)]
                exact HR3.out)
              clear hgd hkn
              have HK4 : Hid (Kept (ownD x2 (.slice AF2 gs.length cF2) (.slice none 0 0)) w5 (wr.alloc (.cells #[.int .i64 (aw : Int), .slice sp.at_ sp.l.length sp.cap] 59))) := Lib.hid (HK3.out.trans (Kept.of_below (own := fun _ => False) ((Below.refl _ wr).alloc (Nat.le_refl _) _)) (fun _ _ h => h.elim))
              have HW4 := Lib.hid (HW3.out.below ((Below.refl _ wr).alloc (Nat.le_refl _) (.cells #[.int .i64 (aw : Int), .slice sp.at_ sp.l.length sp.cap] 59)))
              have HN4 := Lib.hid (HN3.out.below ((Below.refl _ wr).alloc (Nat.le_refl _) (.cells #[.int .i64 (aw : Int), .slice sp.at_ sp.l.length sp.cap] 59)))
              clear HK3 HW3 HN3 HR3 HSP HGET
              go_wp2_with fail
              go_roundw
              case rel => exact ⟨k + 1, g3, sw0, lz, by omega, by go_num, rfl, rfl, HL3, HR4, HA3, HS3, HW4, HN4, HK4⟩
              case measure => simp [intOf]; omega
          · obtain rfl : k = (waS ds).length := by omega
            have HFIN : ∀ (g4 : List Seg) (wf : World), XD wf w1.heap.size x2 (fun i => oo i ∨ ownD x2 (.slice AF2 g4.length cF2) (.slice none 0 0) i) AF2 cF2 g4 none 0 [] (-1) → g4.map Seg.l = rfOf fl wz K N → Below w1.heap.size w1 wf → PlayL w oo gs ds K N (.returned (.tuple #[.pointer (some ⟨x2, 0, none⟩), .int .i64 0])) wf := fun g4 wf h1 h2 h3 => ⟨x2, AF2, cF2, g4, rfl, h1.base HW1.out.size, by rw [HFL.out, HWZ.out]; exact h2, HW1.out.trans (h3.mono HW1.out.size)⟩
            have HFIN := Lib.hid HFIN
            have b4 := hbr.cell 4
            simp at b4
            have HBR := Lib.hid hbr
            clear hbr hbq
            cases lz with
            | none =>
              have HRF : Hid (g3.map Seg.l = rfOf fl wz K N) := Lib.hid (by unfold rfOf; rw [HWL.out, HR3.out])
              simp only [lastI]
              have n1 : ¬ (0 : Int) ≤ -1 := by omega
              clear HR3 HA3 HS3 HW3 HK3
              go_wp2_with fail
              exact bodyPost_ret (v := .tuple #[.pointer (some ⟨x2, 0, none⟩), .int .i64 0]) (by simp [results, Tryd.results9, go_sem, Result.andThen]) rfl (HFIN.out g3 _ HN3.out HRF.out HBW.out)
            | some aw =>
              obtain ⟨hawl, hswl, hswc⟩ := HA3.out aw rfl
              simp only [lastI]
              have n1 : (0 : Int) ≤ (aw : Int) := by omega
              by_cases hN0 : 0 ≤ N
              · by_cases hN1 : N < 256
                · obtain ⟨Nn, hNn⟩ := Int.eq_ofNat_of_zero_le hN0
                  have hNn : N = (Nn : Int) := hNn
                  subst hNn
                  obtain ⟨b9, q9, hs9, hb9, -, -⟩ := HW3.out (by rw [hswl]; decide)
                  have hsv : sw0.val = .slice (some ⟨b9, q9, none⟩) 256 sw0.cap := by unfold Seg.val; rw [hs9, hswl]
                  obtain ⟨g, e, hgb, hgl, -, -, -⟩ := own_setF HN3.out.rowF (k := aw) (by rw [HL3.out]; exact hawl)
                  subst e
                  obtain ⟨sx, hsx⟩ : ∃ s, g3[aw]'(by rw [HL3.out]; exact hawl) = s := ⟨_, rfl⟩
                  have hsxm : sx ∈ g3 := by rw [← hsx]; exact List.getElem_mem _
                  obtain ⟨hsxl, hsxc⟩ := HS3.out sx hsxm
                  have m0 : (0 : Int) ≤ (Nn : Int) := by omega
                  have m1 : (Nn : Int) ≤ (sx.cap : Int) := by omega
                  have m2 : (Nn : Int) ≤ 256 := by omega
                  have m3 : (256 : Int) ≤ (sw0.cap : Int) := by omega
                  have m4 : sw0.cap ≠ Nn := by omega
                  have a0 : (0 : Int) ≤ (aw : Int) := by omega
                  have a1 : (aw : Int) < (gs.length : Int) := by omega
                  have hv1 : (⟨sx.at_, sx.cap, sx.l.take Nn⟩ : Seg).val = .slice sx.at_ Nn sx.cap := by
                    unfold Seg.val
                    show Value.slice sx.at_ (sx.l.take Nn).length sx.cap = _
                    rw [List.length_take, hsxl, Nat.min_eq_left (by omega)]
                  have hv2 : (⟨some ⟨b9, q9 + Nn, none⟩, sw0.cap - Nn, sw0.l.drop Nn⟩ : Seg).val = .slice (some ⟨b9, q9 + Nn, none⟩) (256 - Nn) (sw0.cap - Nn) := by
                    unfold Seg.val
                    show Value.slice _ (sw0.l.drop Nn).length _ = _
                    rw [List.length_drop, hswl]
                  have hrd1 : Rd wr wr.heap.size sx.at_ (sx.l.take Nn) := ((HN3.out.segs sx hsxm).rd).take Nn
                  have hrd2 : Rd wr wr.heap.size (some ⟨b9, q9 + Nn, none⟩) (sw0.l.drop Nn) := Rd.past_k (by have h := HW3.out.rd; rwa [hs9] at h) Nn
                  have HV := Lib.hid (And.intro hv1 hv2)
                  have HRD := Lib.hid (And.intro hrd1 hrd2)
                  have HSX := Lib.hid hsx
                  have HSL := Lib.hid (And.intro hsxl hswl)
                  have LG : ∀ W', Below wr.heap.size wr W' → (Instr.loadAt 50 (.pointer (some ⟨x2, 0, none⟩))).run Tryd.prog W' = .ok (.slice (some ⟨g, 0, none⟩) gs.length cF2) W' := fun W' hb => load_rows (by have c0 := (HN3.out.below hb).head.cell 0; rw [HL3.out] at c0; simpa using c0)
                  have LX : ∀ W', Below wr.heap.size wr W' → (Instr.loadAt 31 (.pointer (some ⟨g, aw, none⟩))).run Tryd.prog W' = .ok (.slice sx.at_ 256 sx.cap) W' := fun W' hb => by
                    obtain ⟨g', e, _, _, hc, _⟩ := own_setF (HN3.out.below hb).rowF (k := aw) (by rw [HL3.out]; exact hawl)
                    injection e with e
                    injection e with e _ _
                    subst e
                    rw [hsx] at hc
                    unfold Seg.val at hc
                    rw [hsxl] at hc
                    exact load_slice hc
                  have LN : ∀ W', Below wr.heap.size wr W' → (Instr.loadAt 3 (.pointer (some ⟨b, 4, none⟩))).run Tryd.prog W' = .ok (.int .i64 (Nn : Int)) W' := fun W' hb => load_int (by have c0 := (HBR.out.below hb HBR.out.lt).cell 4; simpa using c0)
                  have CJ : ∀ W' (hb : Below wr.heap.size wr W') {v : Value}, (rows2F (.slice sx.at_ Nn sx.cap) (.slice (some ⟨b9, q9 + Nn, none⟩) (256 - Nn) (sw0.cap - Nn))).p v W' → Calls Tryd.prog 23 #[v] W' (ToF (newF wr.heap.size (sx.l.take Nn ++ sw0.l.drop Nn)) W') := fun W' hb v hv => joinNew (s1 := ⟨sx.at_, sx.cap, sx.l.take Nn⟩) (s2 := ⟨some ⟨b9, q9 + Nn, none⟩, sw0.cap - Nn, sw0.l.drop Nn⟩) hb HRD.out.1 HRD.out.2 (by show (sx.l.take Nn).length ≤ 1000; rw [List.length_take]; omega) (by show (sw0.l.drop Nn).length ≤ 1000; rw [List.length_drop]; omega) (by rw [HV.out.1, HV.out.2]; exact hv)
                  rw [hsv]
                  clear hsx hsxm hv1 hv2 hrd1 hrd2 hs9 hb9 hsv hsxl hswl
                  go_wp2_with fail
                  refine wp_region_flow_last (l := [_, _, _, _, _, _, _, _, _, _, _, _, _, _, _, _, _, _, _, _, _, _]) (ol := _) rfl [some 149, some 150, some 151, some 152, some 153, some 154, some 155, some 156, some 157, some 158, some 159, some 160, some 161, some 162, some 163, some 164, some 165, some 166, some 167, some 168, some 169, some 170] (fun i => ([.is (.pointer (some ⟨x2, 0, none⟩)), .is (.pointer (some ⟨x2, 0, none⟩)), .is (.pointer (some ⟨x2, 0, none⟩)), .is (.slice (some ⟨g, 0, none⟩) gs.length cF2), .is (.int .i64 (aw : Int)), .is (.pointer (some ⟨x2, 0, none⟩)), .is (.pointer (some ⟨x2, 0, none⟩)), .is (.pointer (some ⟨x2, 0, none⟩)), .is (.slice (some ⟨g, 0, none⟩) gs.length cF2), .is (.int .i64 (aw : Int)), .is (.pointer (some ⟨g, aw, none⟩)), .is (.slice sx.at_ 256 sx.cap), .is (.pointer (some ⟨b, 4, none⟩)), .is (.int .i64 (Nn : Int)), .is (.slice sx.at_ Nn sx.cap), .is (.slice (some ⟨b9, q9, none⟩) 256 sw0.cap), .is (.pointer (some ⟨b, 4, none⟩)), .is (.int .i64 (Nn : Int)), .is (.slice (some ⟨b9, q9 + Nn, none⟩) (256 - Nn) (sw0.cap - Nn)), rows2F (.slice sx.at_ Nn sx.cap) (.slice (some ⟨b9, q9 + Nn, none⟩) (256 - Nn) (sw0.cap - Nn)), newF wr.heap.size (sx.l.take Nn ++ sw0.l.drop Nn), .is (.pointer (some ⟨g, aw, none⟩))] : List Flw).getD i .any) (by kernel_rfl) (by kernel_rfl) (by kernel_rfl) rfl rfl ?_ ?_
                  · refine ⟨step_free rfl (fun aF wF hs hb => ?_), ?_⟩
                    · obtain ⟨x0, -⟩ := hs
                      have e0 : aF.eval (.tmp 7) = .pointer (some ⟨x2, 0, none⟩) := x0
                      exact opC_move e0 ⟨rfl, below_same wF⟩
                    refine ⟨step_free rfl (fun aF wF hs hb => ?_), ?_⟩
                    · obtain ⟨x0, -⟩ := hs
                      have e0 : aF.eval (.tmp 149) = .pointer (some ⟨x2, 0, none⟩) := x0
                      refine opC_value (v := .pointer (some ⟨x2, 0, none⟩)) ?_ ⟨rfl, below_same wF⟩
                      have t0 := ev_of e0
                      simp [execOp, go_sem, t0]
                    refine ⟨step_free rfl (fun aF wF hs hb => ?_), ?_⟩
                    · obtain ⟨x0, -⟩ := hs
                      have e0 : aF.eval (.tmp 150) = .pointer (some ⟨x2, 0, none⟩) := x0
                      refine opC_value (v := .pointer (some ⟨x2, 0, none⟩)) ?_ ⟨rfl, below_same wF⟩
                      have t0 := ev_of e0
                      simp [execOp, go_sem, t0]
                    refine ⟨step_free rfl (fun aF wF hs hb => ?_), ?_⟩
                    · obtain ⟨x0, -⟩ := hs
                      have e0 : aF.eval (.tmp 151) = .pointer (some ⟨x2, 0, none⟩) := x0
                      exact opC_load e0 (LG wF hb) ⟨rfl, below_same wF⟩
                    refine ⟨step_free rfl (fun aF wF hs hb => ?_), ?_⟩
                    · obtain ⟨x0, -⟩ := hs
                      have e0 : aF.eval (.tmp 9) = .int .i64 (aw : Int) := x0
                      exact opC_move e0 ⟨rfl, below_same wF⟩
                    refine ⟨step_free rfl (fun aF wF hs hb => ?_), ?_⟩
                    · obtain ⟨x0, -⟩ := hs
                      have e0 : aF.eval (.tmp 7) = .pointer (some ⟨x2, 0, none⟩) := x0
                      exact opC_move e0 ⟨rfl, below_same wF⟩
                    refine ⟨step_free rfl (fun aF wF hs hb => ?_), ?_⟩
                    · obtain ⟨x0, -⟩ := hs
                      have e0 : aF.eval (.tmp 154) = .pointer (some ⟨x2, 0, none⟩) := x0
                      refine opC_value (v := .pointer (some ⟨x2, 0, none⟩)) ?_ ⟨rfl, below_same wF⟩
                      have t0 := ev_of e0
                      simp [execOp, go_sem, t0]
                    refine ⟨step_free rfl (fun aF wF hs hb => ?_), ?_⟩
                    · obtain ⟨x0, -⟩ := hs
                      have e0 : aF.eval (.tmp 155) = .pointer (some ⟨x2, 0, none⟩) := x0
                      refine opC_value (v := .pointer (some ⟨x2, 0, none⟩)) ?_ ⟨rfl, below_same wF⟩
                      have t0 := ev_of e0
                      simp [execOp, go_sem, t0]
                    refine ⟨step_free rfl (fun aF wF hs hb => ?_), ?_⟩
                    · obtain ⟨x0, -⟩ := hs
                      have e0 : aF.eval (.tmp 156) = .pointer (some ⟨x2, 0, none⟩) := x0
                      exact opC_load e0 (LG wF hb) ⟨rfl, below_same wF⟩
                    refine ⟨step_free rfl (fun aF wF hs hb => ?_), ?_⟩
                    · obtain ⟨x0, -⟩ := hs
                      have e0 : aF.eval (.tmp 9) = .int .i64 (aw : Int) := x0
                      exact opC_move e0 ⟨rfl, below_same wF⟩
                    refine ⟨step_free rfl (fun aF wF hs hb => ?_), ?_⟩
                    · obtain ⟨x0, x1, -⟩ := hs
                      have e0 : aF.eval (.tmp 157) = .slice (some ⟨g, 0, none⟩) gs.length cF2 := x0
                      have e1 : aF.eval (.tmp 158) = .int .i64 (aw : Int) := x1
                      refine opC_value (v := .pointer (some ⟨g, aw, none⟩)) ?_ ⟨rfl, below_same wF⟩
                      simp [execOp, go_sem, ev_of e0, ev_of e1, a0, a1]
                    refine ⟨step_free rfl (fun aF wF hs hb => ?_), ?_⟩
                    · obtain ⟨x0, -⟩ := hs
                      have e0 : aF.eval (.tmp 159) = .pointer (some ⟨g, aw, none⟩) := x0
                      exact opC_load e0 (LX wF hb) ⟨rfl, below_same wF⟩
                    refine ⟨step_free rfl (fun aF wF hs hb => ?_), ?_⟩
                    · obtain ⟨x0, -⟩ := hs
                      have e0 : aF.eval (.tmp 3) = .pointer (some ⟨b, 0, none⟩) := x0
                      refine opC_value (v := .pointer (some ⟨b, 4, none⟩)) ?_ ⟨rfl, below_same wF⟩
                      have t0 := ev_of e0
                      simp [execOp, go_sem, t0]
                    refine ⟨step_free rfl (fun aF wF hs hb => ?_), ?_⟩
                    · obtain ⟨x0, -⟩ := hs
                      have e0 : aF.eval (.tmp 161) = .pointer (some ⟨b, 4, none⟩) := x0
                      exact opC_load e0 (LN wF hb) ⟨rfl, below_same wF⟩
                    refine ⟨step_free rfl (fun aF wF hs hb => ?_), ?_⟩
                    · obtain ⟨x0, x1, -⟩ := hs
                      have e0 : aF.eval (.tmp 160) = .slice sx.at_ 256 sx.cap := x0
                      have e1 : aF.eval (.tmp 162) = .int .i64 (Nn : Int) := x1
                      refine opC_value (v := .slice sx.at_ Nn sx.cap) ?_ ⟨rfl, below_same wF⟩
                      simp [execOp, go_sem, ev_of e0, ev_of e1, m0, m1]
                    refine ⟨step_free rfl (fun aF wF hs hb => ?_), ?_⟩
                    · obtain ⟨x0, -⟩ := hs
                      have e0 : aF.eval (.tmp 10) = .slice (some ⟨b9, q9, none⟩) 256 sw0.cap := x0
                      exact opC_move e0 ⟨rfl, below_same wF⟩
                    refine ⟨step_free rfl (fun aF wF hs hb => ?_), ?_⟩
                    · obtain ⟨x0, -⟩ := hs
                      have e0 : aF.eval (.tmp 3) = .pointer (some ⟨b, 0, none⟩) := x0
                      refine opC_value (v := .pointer (some ⟨b, 4, none⟩)) ?_ ⟨rfl, below_same wF⟩
                      have t0 := ev_of e0
                      simp [execOp, go_sem, t0]
                    refine ⟨step_free rfl (fun aF wF hs hb => ?_), ?_⟩
                    · obtain ⟨x0, -⟩ := hs
                      have e0 : aF.eval (.tmp 165) = .pointer (some ⟨b, 4, none⟩) := x0
                      exact opC_load e0 (LN wF hb) ⟨rfl, below_same wF⟩
                    refine ⟨step_free rfl (fun aF wF hs hb => ?_), ?_⟩
                    · obtain ⟨x0, x1, -⟩ := hs
                      have e0 : aF.eval (.tmp 164) = .slice (some ⟨b9, q9, none⟩) 256 sw0.cap := x0
                      have e1 : aF.eval (.tmp 166) = .int .i64 (Nn : Int) := x1
                      refine opC_value (v := .slice (some ⟨b9, q9 + Nn, none⟩) (256 - Nn) (sw0.cap - Nn)) ?_ ⟨rfl, below_same wF⟩
                      simp [execOp, go_sem, ev_of e0, ev_of e1, m0, m2, m3, m4]
                    refine ⟨step_free rfl (fun aF wF hs hb => ?_), ?_⟩
                    · obtain ⟨x0, x1, -⟩ := hs
                      have e0 : aF.eval (.tmp 163) = .slice sx.at_ Nn sx.cap := x0
                      have e1 : aF.eval (.tmp 167) = .slice (some ⟨b9, q9 + Nn, none⟩) (256 - Nn) (sw0.cap - Nn) := x1
                      exact opC_rows2 e0 e1 ⟨⟨_, rfl, Blk.new _ _ _⟩, (Below.refl _ wF).alloc (Nat.le_refl _) _⟩
                    refine ⟨step_free rfl (fun aF wF hs hb => ?_), ?_⟩
                    · obtain ⟨x0, -⟩ := hs
                      have y0 : (rows2F (.slice sx.at_ Nn sx.cap) (.slice (some ⟨b9, q9 + Nn, none⟩) (256 - Nn) (sw0.cap - Nn))).p (aF.eval (.tmp 168)) wF := x0
                      exact opC_callF (args := #[aF.eval (.tmp 168)]) (enters9 Tryd.func23 (by kernel_rfl) rfl) (by simp) (CJ wF hb y0) (fun _ _ h1 h2 => ⟨h1, h2⟩)
                    refine ⟨step_free rfl (fun aF wF hs hb => ?_), ?_⟩
                    · obtain ⟨x0, x1, -⟩ := hs
                      have e0 : aF.eval (.tmp 152) = .slice (some ⟨g, 0, none⟩) gs.length cF2 := x0
                      have e1 : aF.eval (.tmp 153) = .int .i64 (aw : Int) := x1
                      refine opC_value (v := .pointer (some ⟨g, aw, none⟩)) ?_ ⟨rfl, below_same wF⟩
                      simp [execOp, go_sem, ev_of e0, ev_of e1, a0, a1]
                    exact trivial
                  · intro fv w7 hf hb7
                    have h1 : (newF wr.heap.size (sx.l.take Nn ++ sw0.l.drop Nn)).p (fv 20) w7 := hf 20 169 rfl
                    obtain ⟨s, h1, hsl, -, hso⟩ := h1
                    obtain ⟨hsr, hsn⟩ := own_seg hso
                    have h2 : fv 21 = .pointer (some ⟨g, aw, none⟩) := hf 21 170 rfl
                    simp only [putF, Act.put, List.setIfInBounds_toArray, List.set_cons_zero, List.set_cons_succ]
                    rw [h1, h2]
                    have hN7 := HN3.out.below hb7
                    have hspk : RdK (fun i => oo i ∨ ownD x2 (.slice (some ⟨g, 0, none⟩) g3.length cF2) (.slice none 0 0) i) w7 s.at_ s.l := RdK.of_new hsr hsn (by
                      rintro i (e | e)
                      · have := HOO.out.2 i e; have := HW1.out.size; have := HBW.out.size; omega
                      · exact HN3.out.lt i e)
                    obtain ⟨g', e, _, _, qc, qf, qk, qX⟩ := hN7.putF (k := aw) (s := s) (by rw [HL3.out]; exact hawl) hspk
                    injection e with e
                    injection e with e _ _
                    subst e
                    have HN4 := Lib.hid qX
                    have HRF : Hid ((g3.set aw s).map Seg.l = rfOf fl wz K (Nn : Int)) := Lib.hid (by
                      unfold rfOf
                      rw [HWL.out, HR3.out]
                      show _ = if 0 ≤ (Nn : Int) ∧ (Nn : Int) < 256 then _ else _
                      rw [if_pos ⟨hN0, hN1⟩, List.map_set, hsl]
                      congr 2
                      rw [List.getD_eq_getElem?_getD, List.getElem?_map, List.getElem?_eq_getElem (by rw [HL3.out]; exact hawl), HSX.out]
                      rfl)
                    have HB4 : Hid (Below w1.heap.size w1 (w7.setCell ⟨g, aw, none⟩ s.val)) := Lib.hid ((HBW.out.trans (hb7.mono HBW.out.size)).trans (qk.below (Nat.le_trans HBW.out.size hb7.size) (fun i hi e => by omega)))
                    generalize g3[aw]'(by rw [HL3.out]; exact hawl) = old at qc
                    unfold Seg.val at qc
                    clear hf h1 h2 hb7 hN7 hspk qk qX hsr hsn hso hsl LG LX LN CJ HN3 HW3 HK3 HR3 HS3 HA3 HV HRD HSX HSL b4
                    refine opC_skip (w' := w7.setCell ⟨g, aw, none⟩ s.val) (by unfold Seg.val; simp [execOp, go_sem, qc, qf]) ?_
                    go_wp2_with fail
                    exact bodyPost_ret (v := .tuple #[.pointer (some ⟨x2, 0, none⟩), .int .i64 0]) (by simp [results, Tryd.results9, go_sem, Result.andThen]) rfl (HFIN.out _ _ HN4.out HRF.out HB4.out)
                · have HRF : Hid (g3.map Seg.l = rfOf fl wz K N) := Lib.hid (by unfold rfOf; rw [HWL.out, HR3.out]; show _ = if 0 ≤ N ∧ N < 256 then _ else _; rw [if_neg (by omega)])
                  clear HR3 HA3 HS3 HW3 HK3
                  go_wp2_with fail
                  exact bodyPost_ret (v := .tuple #[.pointer (some ⟨x2, 0, none⟩), .int .i64 0]) (by simp [results, Tryd.results9, go_sem, Result.andThen]) rfl (HFIN.out g3 _ HN3.out HRF.out HBW.out)
              · have HRF : Hid (g3.map Seg.l = rfOf fl wz K N) := Lib.hid (by unfold rfOf; rw [HWL.out, HR3.out]; show _ = if 0 ≤ N ∧ N < 256 then _ else _; rw [if_neg (by omega)])
                clear HR3 HA3 HS3 HW3 HK3
                go_wp2_with fail
                exact bodyPost_ret (v := .tuple #[.pointer (some ⟨x2, 0, none⟩), .int .i64 0]) (by simp [results, Tryd.results9, go_sem, Result.andThen]) rfl (HFIN.out g3 _ HN3.out HRF.out HBW.out)
end Go.Proofs.YthljcekodlbplaaDoor
