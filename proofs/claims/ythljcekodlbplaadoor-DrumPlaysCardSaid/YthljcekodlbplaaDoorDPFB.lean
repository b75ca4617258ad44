/-
  The document's Play: a Flush that goes well. Conditions: the document's drum is there.
-/
import Derived.Test.YthljcekodlbplaaDoorDPE
import Derived.Test.YthljcekodlbplaaDoorDPR
namespace Go.Proofs.YthljcekodlbplaaDoor
open Go.ChangeShapes Go.WideShapes Go.ChangeAt Go.RowKit

/-- What a Flush that goes well leaves. -/
def PlayF (w : World) (base x : Nat) (oo : Nat → Prop) (AF AD : Option Addr) (cF cD : Nat) (gs : List Seg) (ds : List (Int × Seg)) (left : Int) (e : Ending) (w' : World) : Prop :=
  ∃ AD' cD', e = .returned (.tuple #[.pointer (some ⟨x, 0, none⟩), .int .i64 0]) ∧ XD w' base x (fun i => oo i ∨ ownD x (.slice AF gs.length cF) (.slice AD' (ds ++ [(-1, noSeg)]).length cD') i) AF cF gs AD' cD' (ds ++ [(-1, noSeg)]) (less left) ∧ (∀ own : Nat → Prop, (∀ i, ownD x (.slice AF gs.length cF) (.slice AD ds.length cD) i → own i) → Kept own w w') ∧ ∀ i, i < w.heap.size → ownD x (.slice AF gs.length cF) (.slice AD' (ds ++ [(-1, noSeg)]).length cD') i → ownD x (.slice AF gs.length cF) (.slice AD ds.length cD) i
set_option maxRecDepth 100000 in
set_option maxHeartbeats 4000000 in
theorem Play_flush_ok_neg {w : World} {x : Nat} {AF AP AK : Option Addr} {nF cF nP cP nK cK a k : Nat} {p N left : Int} {v1 : Value} (hp : ¬ 0 ≤ p) (hl : left ≠ 0) (hm9 : left ≤ 9223372036854775807) (ha : a % 7 = 3) {base cD : Nat} {oo : Nat → Prop} {gs : List Seg} {AD : Option Addr} {ds : List (Int × Seg)} (hv1 : v1 = .slice AD ds.length cD) (hnF : gs.length = nF) (hXD : XD w base x oo AF cF gs AD cD ds left) (hown : ∀ i, ownD x (.slice AF gs.length cF) (.slice AD ds.length cD) i → oo i) (hoo : ∀ i, oo i → i < w.heap.size) (hd9 : ds.length ≤ 1000) (h : Blk w x 53 #[.slice AF nF cF, v1, .int .i64 left]) :
    Calls Tryd.prog 9 #[.pointer (some ⟨x, 0, none⟩), .agg #[.int .u8 (a : Int), .int .i64 p, .slice AP nP cP, .slice AK nK cK, .int .i64 N, .int .u32 (k : Int)]] w fun e w' => PlayF w base x oo AF AD cF cD gs ds left e w' := by
  obtain ⟨b, hb⟩ : ∃ b, w.heap.size = b := ⟨_, rfl⟩
  obtain ⟨W, hW⟩ : ∃ W, w.alloc (.cells #[.int .u8 (a : Int), .int .i64 p, .slice AP nP cP, .slice AK nK cK, .int .i64 N, .int .u32 (k : Int)] 35) = W := ⟨_, rfl⟩
  have hbx := Blk.new w 35 #[.int .u8 (a : Int), .int .i64 p, .slice AP nP cP, .slice AK nK cK, .int .i64 N, .int .u32 (k : Int)]
  have hx := h.alloc (.cells #[.int .u8 (a : Int), .int .i64 p, .slice AP nP cP, .slice AK nK cK, .int .i64 N, .int .u32 (k : Int)] 35)
  have hbl := (Below.refl _ w).alloc (Nat.le_refl _) (.cells #[.int .u8 (a : Int), .int .i64 p, .slice AP nP cP, .slice AK nK cK, .int .i64 N, .int .u32 (k : Int)] 35)
  have hxl := h.lt
  rw [hW] at hbx hx hbl
  rw [hb] at hbx hxl
  have HW := Lib.hid (And.intro hW hb)
  have LP : ∀ W', Below W.heap.size W W' → (Instr.loadAt 3 (.pointer (some ⟨b, 1, none⟩))).run Tryd.prog W' = .ok (.int .i64 p) W' := fun W' hb' => by
    have c0 := (hbx.below hb' hbx.lt).cell 1
    simp at c0
    go_simp
  have LF : ∀ W', Below W.heap.size W W' → (Instr.loadAt 50 (.pointer (some ⟨x, 0, none⟩))).run Tryd.prog W' = .ok (.slice AF nF cF) W' := fun W' hb' => by
    have c0 := (hx.below hb' hx.lt).cell 0
    simp at c0
    go_simp
  have HX := Lib.hid hx
  have HBX := Lib.hid hbx
  have HBL := Lib.hid hbl
  have HXL := Lib.hid hxl
  have hr : ((a : Int)).tmod 7 = 3 := by
    rw [Int.tmod_eq_emod_of_nonneg (by omega)]
    omega
  clear ha
  subst hv1
  have HOW := Lib.hid hown
  have HOO := Lib.hid hoo
  have HXD := Lib.hid hXD
  clear hXD hown hoo
  clear h hbx hx hbl hxl hW hb
  go_enter Tryd.func9, Tryd.ntmps9
  go_wp2_with fail
  rw [HW.out.1, HW.out.2]
  refine wp_region_flow [some 13, some 14, some 15, some 16, some 17, some 18, some 19, some 20, some 21, some 22, some 23, some 24, some 25, some 6] (fun i => ([.is (.pointer (some ⟨b, 1, none⟩)), .is (.int .i64 p), .is (.bool false), .is (.bool false), .is undef, .is undef, .is undef, .is undef, .is undef, .is undef, .is undef, .is undef, .is (.bool false), .is (.bool false)] : List Flw).getD i .any) (by kernel_rfl) (by kernel_rfl) rfl ?_ ?_
  · refine ⟨step_free rfl (fun aF wF hs hb => ?_), ?_⟩
    · obtain ⟨x0, -⟩ := hs
      have e0 : aF.eval (.tmp 3) = .pointer (some ⟨b, 0, none⟩) := x0
      refine opC_value (v := .pointer (some ⟨b, 1, none⟩)) ?_ ⟨rfl, below_same wF⟩
      have t0 := ev_of e0
      simp [execOp, go_sem, t0]
    refine ⟨step_free rfl (fun aF wF hs hb => ?_), ?_⟩
    · obtain ⟨x0, -⟩ := hs
      have e0 : aF.eval (.tmp 13) = .pointer (some ⟨b, 1, none⟩) := x0
      exact opC_load e0 (LP wF hb) ⟨rfl, below_same wF⟩
    refine ⟨step_free rfl (fun aF wF hs hb => ?_), ?_⟩
    · obtain ⟨x0, -⟩ := hs
      have e0 : aF.eval (.tmp 14) = .int .i64 p := x0
      refine opC_value (v := .bool false) ?_ ⟨rfl, below_same wF⟩
      simp [execOp, go_sem, ev_of e0, hp]
    refine ⟨step_free rfl (fun aF wF hs hb => ?_), ?_⟩
    · obtain ⟨x0, -⟩ := hs
      have e0 : aF.eval (.tmp 15) = .bool false := x0
      exact opC_move e0 ⟨rfl, below_same wF⟩
    refine ⟨step_no 3 16 rfl rfl (fun _ _ h => h) (fun _ => rfl), ?_⟩
    refine ⟨step_no 3 16 rfl rfl (fun _ _ h => h) (fun _ => rfl), ?_⟩
    refine ⟨step_no 3 16 rfl rfl (fun _ _ h => h) (fun _ => rfl), ?_⟩
    refine ⟨step_no 3 16 rfl rfl (fun _ _ h => h) (fun _ => rfl), ?_⟩
    refine ⟨step_no 3 16 rfl rfl (fun _ _ h => h) (fun _ => rfl), ?_⟩
    refine ⟨step_no 3 16 rfl rfl (fun _ _ h => h) (fun _ => rfl), ?_⟩
    refine ⟨step_no 3 16 rfl rfl (fun _ _ h => h) (fun _ => rfl), ?_⟩
    refine ⟨step_no 3 16 rfl rfl (fun _ _ h => h) (fun _ => rfl), ?_⟩
    refine ⟨step_free rfl (fun aF wF hs hb => ?_), ?_⟩
    · obtain ⟨x0, x1, -⟩ := hs
      have e0 : aF.eval (.tmp 16) = .bool false := x0
      have e1 : aF.eval (.tmp 24) = undef := x1
      refine opC_value (v := .bool false) ?_ ⟨rfl, below_same wF⟩
      have t0 := ev_of e0
      have t1 := ev_of e1
      simp [execOp, go_sem, t0, t1]
    refine ⟨step_free rfl (fun aF wF hs hb => ?_), ?_⟩
    · obtain ⟨x0, -⟩ := hs
      have e0 : aF.eval (.tmp 25) = .bool false := x0
      exact opC_assign e0 ⟨rfl, below_same wF⟩
    exact trivial
  · intro f w6 hf hb6
    have h9 : f 13 = .bool false := hf 13 6 rfl
    simp only [putF, Act.put, List.setIfInBounds_toArray, List.set_cons_zero, List.set_cons_succ]
    rw [h9]
    have HX6 := Lib.hid (HX.out.below hb6 HX.out.lt)
    have HBX6 := Lib.hid (HBX.out.below hb6 HBX.out.lt)
    have HB6 := Lib.hid (HBL.out.trans (hb6.mono HBL.out.size))
    clear hf h9 hb6 LP LF HX HBX HBL HW
    have b0 := HBX6.out.cell 0
    have b1 := HBX6.out.cell 1
    have b4 := HBX6.out.cell 4
    simp at b0 b1 b4
    subst hnF
    have HXD6 := Lib.hid (HXD.out.below HB6.out)
    clear HX6 HBX6
    go_wp2_with fail
    refine (off_ok HXD6.out HOW.out hl hm9).mono ?_
    rintro e w7 ⟨rfl, hx7, hk7⟩
    obtain ⟨l7, hl7e⟩ : ∃ l7, less left = l7 := ⟨_, rfl⟩
    rw [hl7e] at hx7
    have HL7 := Lib.hid hl7e
    have HXD7 := Lib.hid hx7
    have HK7 : Hid (Kept (fun i => i = x) w w7) := Lib.hid ((Kept.of_below (own := fun i => i = x) HB6.out).trans hk7 (fun _ _ h => h))
    have c1 := hx7.head.cell 1
    simp at c1
    have hk8 := Blk.new w7 59 #[.int .i64 (-1), .slice Option.none 0 0]
    have HR8 := Lib.hid (Rs.block (T := deedT) (u := ((-1 : Int), noSeg)) hk8)
    have HO8 := Lib.hid (hx7.rowD.alloc (.cells #[.int .i64 (-1), .slice Option.none 0 0] 59))
    have HX8 := Lib.hid (hx7.head.alloc (.cells #[.int .i64 (-1), .slice Option.none 0 0] 59))
    have HDX := Lib.hid hx7.dx
    have HGE : Hid (base ≤ w7.heap.size) := Lib.hid (by have := hx7.ge; have := hx7.head.lt; omega)
    clear hx7 hk7 hk8 hl7e HXD6 HB6 b0 b1 b4
    go_wp2_with (with_reducible refine wpList_appendS (o := ⟨some 67, _, _, _, _, _⟩) rfl rowDeed (.tmp 64) (.tmp 66) rfl base (.slice AD ds.length cD) ds.length ds ?h1 HO8.out _ (some ⟨w7.heap.size, 0, none⟩) 1 1 [((-1 : Int), noSeg)] ?h2 HR8.out rfl ?h3 ?h4 ?h5 ?_)
    try (case h1 => rfl)
    try (case h2 => rfl)
    try (case h3 => unfold maxLen; omega)
    try (case h4 => omega)
    try (case h5 => have := HGE.out; first | omega | (simp; omega))
    intro v9 w9 ho9 hg9 hl9 _
    obtain ⟨_, A9, c9, rfl, -, -, _⟩ := ho9.form (by decide)
    have hx9 := HX8.out.grown hg9 (fun e => HDX.out e.symm)
    have c9x := hx9.cell 1
    simp at c9x
    have f9x := hx9.frozen 1
    have l9x := hx9.lt
    have HX9 := Lib.hid (XD.addD (W := w7.alloc (.cells #[.int .i64 (-1), .slice Option.none 0 0] 59)) (p := -1) (s := noSeg) HXD7.out HOW.out (fun i e => Nat.lt_of_lt_of_le (HOO.out i e) HK7.out.size) ((Below.refl _ w7).alloc (Nat.le_refl _) _) (fun h => absurd h (by decide)) (fun b q e => by cases e) ho9 hg9 (by rw [show (w7.alloc (.cells #[.int .i64 (-1), .slice Option.none 0 0] 59)).heap.size = w7.heap.size + 1 by simp]; exact hl9))
    clear ho9 hg9 hl9 hx9 HX8 HO8 HR8 HDX c1 HXD7
    go_wp2_with fail
    exact bodyPost_ret (v := .tuple #[.pointer (some ⟨x, 0, none⟩), .int .i64 0]) (by simp [results, Tryd.results9, go_sem, Result.andThen]) rfl ⟨A9, c9, rfl, by rw [HL7.out]; exact HX9.out.1, fun own hw => (HK7.out.mono (fun i e => hw i (.inl e))).trans (HX9.out.2.1.mono hw) (fun _ _ h => h), fun i hi e => HX9.out.2.2 i (Nat.lt_of_lt_of_le hi HK7.out.size) e⟩
set_option maxRecDepth 100000 in
set_option maxHeartbeats 4000000 in
theorem Play_flush_ok_pos {w : World} {x : Nat} {AF AP AK : Option Addr} {nF cF nP cP nK cK a k : Nat} {p N left : Int} {v1 : Value} (hp : 0 ≤ p) {th : Bool} (hth : decide (p < (nF : Int)) = th) (hl : left ≠ 0) (hm9 : left ≤ 9223372036854775807) (ha : a % 7 = 3) {base cD : Nat} {oo : Nat → Prop} {gs : List Seg} {AD : Option Addr} {ds : List (Int × Seg)} (hv1 : v1 = .slice AD ds.length cD) (hnF : gs.length = nF) (hXD : XD w base x oo AF cF gs AD cD ds left) (hown : ∀ i, ownD x (.slice AF gs.length cF) (.slice AD ds.length cD) i → oo i) (hoo : ∀ i, oo i → i < w.heap.size) (hd9 : ds.length ≤ 1000) (h : Blk w x 53 #[.slice AF nF cF, v1, .int .i64 left]) :
    Calls Tryd.prog 9 #[.pointer (some ⟨x, 0, none⟩), .agg #[.int .u8 (a : Int), .int .i64 p, .slice AP nP cP, .slice AK nK cK, .int .i64 N, .int .u32 (k : Int)]] w fun e w' => PlayF w base x oo AF AD cF cD gs ds left e w' := by
  obtain ⟨b, hb⟩ : ∃ b, w.heap.size = b := ⟨_, rfl⟩
  obtain ⟨W, hW⟩ : ∃ W, w.alloc (.cells #[.int .u8 (a : Int), .int .i64 p, .slice AP nP cP, .slice AK nK cK, .int .i64 N, .int .u32 (k : Int)] 35) = W := ⟨_, rfl⟩
  have hbx := Blk.new w 35 #[.int .u8 (a : Int), .int .i64 p, .slice AP nP cP, .slice AK nK cK, .int .i64 N, .int .u32 (k : Int)]
  have hx := h.alloc (.cells #[.int .u8 (a : Int), .int .i64 p, .slice AP nP cP, .slice AK nK cK, .int .i64 N, .int .u32 (k : Int)] 35)
  have hbl := (Below.refl _ w).alloc (Nat.le_refl _) (.cells #[.int .u8 (a : Int), .int .i64 p, .slice AP nP cP, .slice AK nK cK, .int .i64 N, .int .u32 (k : Int)] 35)
  have hxl := h.lt
  rw [hW] at hbx hx hbl
  rw [hb] at hbx hxl
  have HW := Lib.hid (And.intro hW hb)
  have LP : ∀ W', Below W.heap.size W W' → (Instr.loadAt 3 (.pointer (some ⟨b, 1, none⟩))).run Tryd.prog W' = .ok (.int .i64 p) W' := fun W' hb' => by
    have c0 := (hbx.below hb' hbx.lt).cell 1
    simp at c0
    go_simp
  have LF : ∀ W', Below W.heap.size W W' → (Instr.loadAt 50 (.pointer (some ⟨x, 0, none⟩))).run Tryd.prog W' = .ok (.slice AF nF cF) W' := fun W' hb' => by
    have c0 := (hx.below hb' hx.lt).cell 0
    simp at c0
    go_simp
  have HX := Lib.hid hx
  have HBX := Lib.hid hbx
  have HBL := Lib.hid hbl
  have HXL := Lib.hid hxl
  have hr : ((a : Int)).tmod 7 = 3 := by
    rw [Int.tmod_eq_emod_of_nonneg (by omega)]
    omega
  clear ha
  subst hv1
  have HOW := Lib.hid hown
  have HOO := Lib.hid hoo
  have HXD := Lib.hid hXD
  clear hXD hown hoo
  clear h hbx hx hbl hxl hW hb
  go_enter Tryd.func9, Tryd.ntmps9
  go_wp2_with fail
  rw [HW.out.1, HW.out.2]
  refine wp_region_flow [some 13, some 14, some 15, some 16, some 17, some 18, some 19, some 20, some 21, some 22, some 23, some 24, some 25, some 6] (fun i => ([.is (.pointer (some ⟨b, 1, none⟩)), .is (.int .i64 p), .is (.bool true), .is (.bool true), .is (.pointer (some ⟨b, 1, none⟩)), .is (.int .i64 p), .is (.pointer (some ⟨x, 0, none⟩)), .is (.pointer (some ⟨x, 0, none⟩)), .is (.pointer (some ⟨x, 0, none⟩)), .is (.slice AF nF cF), .is (.int .i64 (nF : Int)), .is (.bool th), .is (.bool th), .is (.bool th)] : List Flw).getD i .any) (by kernel_rfl) (by kernel_rfl) rfl ?_ ?_
  · refine ⟨step_free rfl (fun aF wF hs hb => ?_), ?_⟩
    · obtain ⟨x0, -⟩ := hs
      have e0 : aF.eval (.tmp 3) = .pointer (some ⟨b, 0, none⟩) := x0
      refine opC_value (v := .pointer (some ⟨b, 1, none⟩)) ?_ ⟨rfl, below_same wF⟩
      have t0 := ev_of e0
      simp [execOp, go_sem, t0]
    refine ⟨step_free rfl (fun aF wF hs hb => ?_), ?_⟩
    · obtain ⟨x0, -⟩ := hs
      have e0 : aF.eval (.tmp 13) = .pointer (some ⟨b, 1, none⟩) := x0
      exact opC_load e0 (LP wF hb) ⟨rfl, below_same wF⟩
    refine ⟨step_free rfl (fun aF wF hs hb => ?_), ?_⟩
    · obtain ⟨x0, -⟩ := hs
      have e0 : aF.eval (.tmp 14) = .int .i64 p := x0
      refine opC_value (v := .bool true) ?_ ⟨rfl, below_same wF⟩
      simp [execOp, go_sem, ev_of e0, hp]
    refine ⟨step_free rfl (fun aF wF hs hb => ?_), ?_⟩
    · obtain ⟨x0, -⟩ := hs
      have e0 : aF.eval (.tmp 15) = .bool true := x0
      exact opC_move e0 ⟨rfl, below_same wF⟩
    refine ⟨step_yes 3 16 rfl rfl (fun _ _ h => h) (fun aF wF hs hb => ?_), ?_⟩
    · obtain ⟨x0, -⟩ := hs
      have e0 : aF.eval (.tmp 3) = .pointer (some ⟨b, 0, none⟩) := x0
      refine opC_value (v := .pointer (some ⟨b, 1, none⟩)) ?_ ⟨rfl, below_same wF⟩
      have t0 := ev_of e0
      simp [execOp, go_sem, t0]
    refine ⟨step_yes 3 16 rfl rfl (fun _ _ h => h) (fun aF wF hs hb => ?_), ?_⟩
    · obtain ⟨x0, -⟩ := hs
      have e0 : aF.eval (.tmp 17) = .pointer (some ⟨b, 1, none⟩) := x0
      exact opC_load e0 (LP wF hb) ⟨rfl, below_same wF⟩
    refine ⟨step_yes 3 16 rfl rfl (fun _ _ h => h) (fun aF wF hs hb => ?_), ?_⟩
    · obtain ⟨x0, -⟩ := hs
      have e0 : aF.eval (.tmp 0) = .pointer (some ⟨x, 0, none⟩) := x0
      exact opC_move e0 ⟨rfl, below_same wF⟩
    refine ⟨step_yes 3 16 rfl rfl (fun _ _ h => h) (fun aF wF hs hb => ?_), ?_⟩
    · obtain ⟨x0, -⟩ := hs
      have e0 : aF.eval (.tmp 19) = .pointer (some ⟨x, 0, none⟩) := x0
      refine opC_value (v := .pointer (some ⟨x, 0, none⟩)) ?_ ⟨rfl, below_same wF⟩
      have t0 := ev_of e0
      simp [execOp, go_sem, t0]
    refine ⟨step_yes 3 16 rfl rfl (fun _ _ h => h) (fun aF wF hs hb => ?_), ?_⟩
    · obtain ⟨x0, -⟩ := hs
      have e0 : aF.eval (.tmp 20) = .pointer (some ⟨x, 0, none⟩) := x0
      refine opC_value (v := .pointer (some ⟨x, 0, none⟩)) ?_ ⟨rfl, below_same wF⟩
      have t0 := ev_of e0
      simp [execOp, go_sem, t0]
    refine ⟨step_yes 3 16 rfl rfl (fun _ _ h => h) (fun aF wF hs hb => ?_), ?_⟩
    · obtain ⟨x0, -⟩ := hs
      have e0 : aF.eval (.tmp 21) = .pointer (some ⟨x, 0, none⟩) := x0
      exact opC_load e0 (LF wF hb) ⟨rfl, below_same wF⟩
    refine ⟨step_yes 3 16 rfl rfl (fun _ _ h => h) (fun aF wF hs hb => ?_), ?_⟩
    · obtain ⟨x0, -⟩ := hs
      have e0 : aF.eval (.tmp 22) = .slice AF nF cF := x0
      refine opC_value (v := .int .i64 (nF : Int)) ?_ ⟨rfl, below_same wF⟩
      have t0 := ev_of e0
      simp [execOp, go_sem, t0]
    refine ⟨step_yes 3 16 rfl rfl (fun _ _ h => h) (fun aF wF hs hb => ?_), ?_⟩
    · obtain ⟨x0, x1, -⟩ := hs
      have e0 : aF.eval (.tmp 18) = .int .i64 p := x0
      have e1 : aF.eval (.tmp 23) = .int .i64 (nF : Int) := x1
      refine opC_value (v := .bool th) ?_ ⟨rfl, below_same wF⟩
      simp [execOp, go_sem, ev_of e0, ev_of e1, hth]
    refine ⟨step_free rfl (fun aF wF hs hb => ?_), ?_⟩
    · obtain ⟨x0, x1, -⟩ := hs
      have e0 : aF.eval (.tmp 16) = .bool true := x0
      have e1 : aF.eval (.tmp 24) = .bool th := x1
      refine opC_value (v := .bool th) ?_ ⟨rfl, below_same wF⟩
      have t0 := ev_of e0
      have t1 := ev_of e1
      simp [execOp, go_sem, t0, t1]
    refine ⟨step_free rfl (fun aF wF hs hb => ?_), ?_⟩
    · obtain ⟨x0, -⟩ := hs
      have e0 : aF.eval (.tmp 25) = .bool th := x0
      exact opC_assign e0 ⟨rfl, below_same wF⟩
    exact trivial
  · intro f w6 hf hb6
    have h9 : f 13 = .bool th := hf 13 6 rfl
    simp only [putF, Act.put, List.setIfInBounds_toArray, List.set_cons_zero, List.set_cons_succ]
    rw [h9]
    have HX6 := Lib.hid (HX.out.below hb6 HX.out.lt)
    have HBX6 := Lib.hid (HBX.out.below hb6 HBX.out.lt)
    have HB6 := Lib.hid (HBL.out.trans (hb6.mono HBL.out.size))
    clear hf h9 hb6 LP LF HX HBX HBL HW
    have b0 := HBX6.out.cell 0
    have b1 := HBX6.out.cell 1
    have b4 := HBX6.out.cell 4
    simp at b0 b1 b4
    subst hnF
    have HXD6 := Lib.hid (HXD.out.below HB6.out)
    clear HX6 HBX6
    go_wp2_with fail
    refine (off_ok HXD6.out HOW.out hl hm9).mono ?_
    rintro e w7 ⟨rfl, hx7, hk7⟩
    obtain ⟨l7, hl7e⟩ : ∃ l7, less left = l7 := ⟨_, rfl⟩
    rw [hl7e] at hx7
    have HL7 := Lib.hid hl7e
    have HXD7 := Lib.hid hx7
    have HK7 : Hid (Kept (fun i => i = x) w w7) := Lib.hid ((Kept.of_below (own := fun i => i = x) HB6.out).trans hk7 (fun _ _ h => h))
    have c1 := hx7.head.cell 1
    simp at c1
    have hk8 := Blk.new w7 59 #[.int .i64 (-1), .slice Option.none 0 0]
    have HR8 := Lib.hid (Rs.block (T := deedT) (u := ((-1 : Int), noSeg)) hk8)
    have HO8 := Lib.hid (hx7.rowD.alloc (.cells #[.int .i64 (-1), .slice Option.none 0 0] 59))
    have HX8 := Lib.hid (hx7.head.alloc (.cells #[.int .i64 (-1), .slice Option.none 0 0] 59))
    have HDX := Lib.hid hx7.dx
    have HGE : Hid (base ≤ w7.heap.size) := Lib.hid (by have := hx7.ge; have := hx7.head.lt; omega)
    clear hx7 hk7 hk8 hl7e HXD6 HB6 b0 b1 b4
    go_wp2_with (with_reducible refine wpList_appendS (o := ⟨some 67, _, _, _, _, _⟩) rfl rowDeed (.tmp 64) (.tmp 66) rfl base (.slice AD ds.length cD) ds.length ds ?h1 HO8.out _ (some ⟨w7.heap.size, 0, none⟩) 1 1 [((-1 : Int), noSeg)] ?h2 HR8.out rfl ?h3 ?h4 ?h5 ?_)
    try (case h1 => rfl)
    try (case h2 => rfl)
    try (case h3 => unfold maxLen; omega)
    try (case h4 => omega)
    try (case h5 => have := HGE.out; first | omega | (simp; omega))
    intro v9 w9 ho9 hg9 hl9 _
    obtain ⟨_, A9, c9, rfl, -, -, _⟩ := ho9.form (by decide)
    have hx9 := HX8.out.grown hg9 (fun e => HDX.out e.symm)
    have c9x := hx9.cell 1
    simp at c9x
    have f9x := hx9.frozen 1
    have l9x := hx9.lt
    have HX9 := Lib.hid (XD.addD (W := w7.alloc (.cells #[.int .i64 (-1), .slice Option.none 0 0] 59)) (p := -1) (s := noSeg) HXD7.out HOW.out (fun i e => Nat.lt_of_lt_of_le (HOO.out i e) HK7.out.size) ((Below.refl _ w7).alloc (Nat.le_refl _) _) (fun h => absurd h (by decide)) (fun b q e => by cases e) ho9 hg9 (by rw [show (w7.alloc (.cells #[.int .i64 (-1), .slice Option.none 0 0] 59)).heap.size = w7.heap.size + 1 by simp]; exact hl9))
    clear ho9 hg9 hl9 hx9 HX8 HO8 HR8 HDX c1 HXD7
    go_wp2_with fail
    exact bodyPost_ret (v := .tuple #[.pointer (some ⟨x, 0, none⟩), .int .i64 0]) (by simp [results, Tryd.results9, go_sem, Result.andThen]) rfl ⟨A9, c9, rfl, by rw [HL7.out]; exact HX9.out.1, fun own hw => (HK7.out.mono (fun i e => hw i (.inl e))).trans (HX9.out.2.1.mono hw) (fun _ _ h => h), fun i hi e => HX9.out.2.2 i (Nat.lt_of_lt_of_le hi HK7.out.size) e⟩
end Go.Proofs.YthljcekodlbplaaDoor
