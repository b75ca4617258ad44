/-
  The document's Play: a Write that goes well. Conditions: the document's drum is there.
-/
import Derived.Test.YthljcekodlbplaaDoorDPE
import Derived.Test.YthljcekodlbplaaDoorDPO
namespace Go.Proofs.YthljcekodlbplaaDoor
open Go.ChangeShapes Go.WideShapes Go.ChangeAt Go.RowKit

theorem step_opC {P : Program} {ops : Array Oper} {o : Oper} {a : Act} {w : World} {K : Act → World → Prop} {Q : Exit → Act → World → Prop} {E : Prop} {K0 : Value → World → Prop} (hgd : o.guard = Option.none) (h : opC P o a w K0) (hK : ∀ v w', K0 v w' → K (a.put o.dst v) w') :
    if Region.wanted o (yielded ops a.tmps) = true then Oper.wp P o a w K Q else E := by
  rw [if_pos (show Region.wanted o (yielded ops a.tmps) = true by simp [Region.wanted, hgd])]
  exact wp_of_opC h hK
theorem undrew {B : Nat} {w w' : World} (h : Below B w.drew w') : Below B w w' := ⟨h.os, h.tape, h.output, h.size, h.block⟩
theorem step_full {ops : Array Oper} {dst : Option Tmp} {x : Operand} {ts : Array TypeId} {ty : TypeId} {pos : String} {af : Array Edge} {a : Act} {w : World} {K : Act → World → Prop} {Q : Exit → Act → World → Prop} {E : Prop} {A : Option Addr} {n c G : Nat} {l : List UInt8} (hG : w.heap.size = G)
    (hx : a.eval x = .slice A n c) (hR : Rd w w.heap.size A l) (hn : l.length = n) (hm : n ≤ 256)
    (h : ∀ w', Blk w' G 5 ((full l).map enc8).toArray → Below G w w' → K (a.put dst (.slice (some ⟨G, 0, none⟩) 256 256)) w') :
    if Region.wanted ⟨dst, .call { callee := .value (.func 25), args := #[x], argTypes := ts }, ty, pos, af, none⟩ (yielded ops a.tmps) = true then Oper.wp Tryd.prog ⟨dst, .call { callee := .value (.func 25), args := #[x], argTypes := ts }, ty, pos, af, none⟩ a w K Q else E := by
  subst hG
  refine step_opC (K0 := fun v w' => v = .slice (some ⟨w.heap.size, 0, none⟩) 256 256 ∧ Blk w' w.heap.size 5 ((full l).map enc8).toArray ∧ Below w.heap.size w w') rfl ?_ ?_
  · refine opC_enter (f := 25) (args := #[.slice A n c]) ?_ ((Full_any A n c w.heap.size l w hR (Nat.le_refl _) hn hm).mono fun e w' ⟨h1, h2, h3⟩ => ⟨_, h1, rfl, h2, h3⟩)
    have ha : (#[x] : Array Operand).map a.eval = #[.slice A n c] := by simp [hx]
    rw [← ha]
    simp [execOp, go_sem, enters9 Tryd.func25 (by kernel_rfl) rfl]
  · rintro v w' ⟨rfl, h2, h3⟩
    exact h w' h2 h3
theorem rs_deed (w : World) (p : Int) (G : Nat) (l : List UInt8) (hl : l.length ≤ 256) : Rs deedT (w.alloc (.cells #[.int .i64 p, .slice (some ⟨G, 0, none⟩) 256 256] 59)) (w.alloc (.cells #[.int .i64 p, .slice (some ⟨G, 0, none⟩) 256 256] 59)).heap.size (some ⟨w.heap.size, 0, none⟩) [(p, ⟨some ⟨G, 0, none⟩, 256, full l⟩)] := by
  refine Rs.block (T := deedT) (ty := 59) (u := (p, (⟨some ⟨G, 0, none⟩, 256, full l⟩ : Seg))) ?_
  have h := Blk.new w 59 #[.int .i64 p, .slice (some ⟨G, 0, none⟩) 256 256]
  have e : (deedT.cells (p, (⟨some ⟨G, 0, none⟩, 256, full l⟩ : Seg))).toArray = #[.int .i64 p, .slice (some ⟨G, 0, none⟩) 256 256] := by
    show #[Value.int .i64 p, .slice (some ⟨G, 0, none⟩) (full l).length 256] = _
    rw [full_length l hl]
  rw [e]
  exact h
theorem rd_full {W : World} {G : Nat} {l : List UInt8} (h : Blk W G 5 ((full l).map enc8).toArray) : Rd W W.heap.size (some ⟨G, 0, none⟩) (full l) := fun _ =>
  ⟨G, 0, rfl, h.lt, fun j u hu => by
    rw [h.cell, Nat.zero_add, List.getElem?_toArray, List.getElem?_map, hu]
    rfl⟩
/-- What a Write that goes well leaves. -/
def PlayW (w : World) (base x : Nat) (oo : Nat → Prop) (AF AD : Option Addr) (cF cD : Nat) (gs : List Seg) (ds : List (Int × Seg)) (left : Int) (l : List UInt8) (p : Int) (e : Ending) (w' : World) : Prop :=
  ∃ AD' cD' s, e = .returned (.tuple #[.pointer (some ⟨x, 0, none⟩), .int .i64 0]) ∧ s.l = full l ∧ s.cap = 256 ∧ XD w' base x (fun i => oo i ∨ ownD x (.slice AF gs.length cF) (.slice AD' (ds ++ [(p, s)]).length cD') i) AF cF gs AD' cD' (ds ++ [(p, s)]) (less left) ∧ (∀ own : Nat → Prop, (∀ i, ownD x (.slice AF gs.length cF) (.slice AD ds.length cD) i → own i) → Kept own w w') ∧ ∀ i, i < w.heap.size → ownD x (.slice AF gs.length cF) (.slice AD' (ds ++ [(p, s)]).length cD') i → ownD x (.slice AF gs.length cF) (.slice AD ds.length cD) i
set_option maxRecDepth 100000 in
set_option maxHeartbeats 4000000 in
theorem Play_write_ok_any {w : World} {x : Nat} {AF AP AK : Option Addr} {nF cF nP cP nK cK a k : Nat} {p N left : Int} {v1 : Value} (hp : 0 ≤ p) (hth : decide (p < (nF : Int)) = true) (hP : (nP : Int) ≤ 256) (hl : left ≠ 0) (hm9 : left ≤ 9223372036854775807) (ha : a % 7 < 3) {base cD : Nat} {oo : Nat → Prop} {gs : List Seg} {AD : Option Addr} {ds : List (Int × Seg)} {l : List UInt8} (hv1 : v1 = .slice AD ds.length cD) (hnF : gs.length = nF) (hXD : XD w base x oo AF cF gs AD cD ds left) (hown : ∀ i, ownD x (.slice AF gs.length cF) (.slice AD ds.length cD) i → oo i) (hoo : ∀ i, oo i → i < w.heap.size) (hd9 : ds.length ≤ 1000) (hR : RdK oo w AP l) (hnl : l.length = nP) (h : Blk w x 53 #[.slice AF nF cF, v1, .int .i64 left]) :
    Calls Tryd.prog 9 #[.pointer (some ⟨x, 0, none⟩), .agg #[.int .u8 (a : Int), .int .i64 p, .slice AP nP cP, .slice AK nK cK, .int .i64 N, .int .u32 (k : Int)]] w fun e w' => PlayW w base x oo AF AD cF cD gs ds left l p e w' := by
  obtain ⟨b, hb⟩ : ∃ b, w.heap.size = b := ⟨_, rfl⟩
  obtain ⟨W, hW⟩ : ∃ W, w.alloc (.cells #[.int .u8 (a : Int), .int .i64 p, .slice AP nP cP, .slice AK nK cK, .int .i64 N, .int .u32 (k : Int)] 35) = W := ⟨_, rfl⟩
  have hbx := Blk.new w 35 #[.int .u8 (a : Int), .int .i64 p, .slice AP nP cP, .slice AK nK cK, .int .i64 N, .int .u32 (k : Int)]
  have hx := h.alloc (.cells #[.int .u8 (a : Int), .int .i64 p, .slice AP nP cP, .slice AK nK cK, .int .i64 N, .int .u32 (k : Int)] 35)
  have hbl := (Below.refl _ w).alloc (Nat.le_refl _) (.cells #[.int .u8 (a : Int), .int .i64 p, .slice AP nP cP, .slice AK nK cK, .int .i64 N, .int .u32 (k : Int)] 35)
  have hxl := h.lt
  rw [hW] at hbx hx hbl
  rw [hb] at hbx hxl
  have HW := Lib.hid (And.intro hW hb)
  have LP : ∀ W', Below W.heap.size W W' → (Instr.loadAt 3 (.pointer (some ⟨b, 1, none⟩))).run Tryd.prog W' = .ok (.int .i64 p) W' := fun W' hb' => by
    have c0 := (hbx.below hb' hbx.lt).cell 1
    simp at c0
    go_simp
  have LF : ∀ W', Below W.heap.size W W' → (Instr.loadAt 50 (.pointer (some ⟨x, 0, none⟩))).run Tryd.prog W' = .ok (.slice AF nF cF) W' := fun W' hb' => by
    have c0 := (hx.below hb' hx.lt).cell 0
    simp at c0
    go_simp
  have HX := Lib.hid hx
  have HBX := Lib.hid hbx
  have HBL := Lib.hid hbl
  have HXL := Lib.hid hxl
  obtain ⟨r, hrr⟩ : ∃ r : Int, ((a : Int)).tmod 7 = r := ⟨_, rfl⟩
  have hr9 : r = ((a % 7 : Nat) : Int) := by
    rw [← hrr, Int.tmod_eq_emod_of_nonneg (by omega)]
    omega
  have r3 : ¬ r = 3 := by omega
  have r4 : ¬ r = 4 := by omega
  have r5 : ¬ r = 5 := by omega
  have r6 : ¬ r = 6 := by omega
  clear ha hr9
  subst hv1
  have HOW := Lib.hid hown
  have HOO := Lib.hid hoo
  have HXD := Lib.hid hXD
  have HR := Lib.hid hR
  have HBXX : Hid (b ≠ x) := Lib.hid (by omega)
  clear hXD hown hoo hR
  clear h hbx hx hbl hxl hW hb
  go_enter Tryd.func9, Tryd.ntmps9
  go_wp2_with fail
  rw [HW.out.1, HW.out.2]
  refine wp_region_flow [some 13, some 14, some 15, some 16, some 17, some 18, some 19, some 20, some 21, some 22, some 23, some 24, some 25, some 6] (fun i => ([.is (.pointer (some ⟨b, 1, none⟩)), .is (.int .i64 p), .is (.bool true), .is (.bool true), .is (.pointer (some ⟨b, 1, none⟩)), .is (.int .i64 p), .is (.pointer (some ⟨x, 0, none⟩)), .is (.pointer (some ⟨x, 0, none⟩)), .is (.pointer (some ⟨x, 0, none⟩)), .is (.slice AF nF cF), .is (.int .i64 (nF : Int)), .is (.bool true), .is (.bool true), .is (.bool true)] : List Flw).getD i .any) (by kernel_rfl) (by kernel_rfl) rfl ?_ ?_
  · refine ⟨step_free rfl (fun aF wF hs hb => ?_), ?_⟩
    · obtain ⟨x0, -⟩ := hs
      have e0 : aF.eval (.tmp 3) = .pointer (some ⟨b, 0, none⟩) := x0
      refine opC_value (v := .pointer (some ⟨b, 1, none⟩)) ?_ ⟨rfl, below_same wF⟩
      have t0 := ev_of e0
      simp [execOp, go_sem, t0]
    refine ⟨step_free rfl (fun aF wF hs hb => ?_), ?_⟩
    · obtain ⟨x0, -⟩ := hs
      have e0 : aF.eval (.tmp 13) = .pointer (some ⟨b, 1, none⟩) := x0
      exact opC_load e0 (LP wF hb) ⟨rfl, below_same wF⟩
    refine ⟨step_free rfl (fun aF wF hs hb => ?_), ?_⟩
    · obtain ⟨x0, -⟩ := hs
      have e0 : aF.eval (.tmp 14) = .int .i64 p := x0
      refine opC_value (v := .bool true) ?_ ⟨rfl, below_same wF⟩
      simp [execOp, go_sem, ev_of e0, hp]
    refine ⟨step_free rfl (fun aF wF hs hb => ?_), ?_⟩
    · obtain ⟨x0, -⟩ := hs
      have e0 : aF.eval (.tmp 15) = .bool true := x0
      exact opC_move e0 ⟨rfl, below_same wF⟩
    refine ⟨step_yes 3 16 rfl rfl (fun _ _ h => h) (fun aF wF hs hb => ?_), ?_⟩
    · obtain ⟨x0, -⟩ := hs
      have e0 : aF.eval (.tmp 3) = .pointer (some ⟨b, 0, none⟩) := x0
      refine opC_value (v := .pointer (some ⟨b, 1, none⟩)) ?_ ⟨rfl, below_same wF⟩
      have t0 := ev_of e0
      simp [execOp, go_sem, t0]
    refine ⟨step_yes 3 16 rfl rfl (fun _ _ h => h) (fun aF wF hs hb => ?_), ?_⟩
    · obtain ⟨x0, -⟩ := hs
      have e0 : aF.eval (.tmp 17) = .pointer (some ⟨b, 1, none⟩) := x0
      exact opC_load e0 (LP wF hb) ⟨rfl, below_same wF⟩
    refine ⟨step_yes 3 16 rfl rfl (fun _ _ h => h) (fun aF wF hs hb => ?_), ?_⟩
    · obtain ⟨x0, -⟩ := hs
      have e0 : aF.eval (.tmp 0) = .pointer (some ⟨x, 0, none⟩) := x0
      exact opC_move e0 ⟨rfl, below_same wF⟩
    refine ⟨step_yes 3 16 rfl rfl (fun _ _ h => h) (fun aF wF hs hb => ?_), ?_⟩
    · obtain ⟨x0, -⟩ := hs
      have e0 : aF.eval (.tmp 19) = .pointer (some ⟨x, 0, none⟩) := x0
      refine opC_value (v := .pointer (some ⟨x, 0, none⟩)) ?_ ⟨rfl, below_same wF⟩
      have t0 := ev_of e0
      simp [execOp, go_sem, t0]
    refine ⟨step_yes 3 16 rfl rfl (fun _ _ h => h) (fun aF wF hs hb => ?_), ?_⟩
    · obtain ⟨x0, -⟩ := hs
      have e0 : aF.eval (.tmp 20) = .pointer (some ⟨x, 0, none⟩) := x0
      refine opC_value (v := .pointer (some ⟨x, 0, none⟩)) ?_ ⟨rfl, below_same wF⟩
      have t0 := ev_of e0
      simp [execOp, go_sem, t0]
    refine ⟨step_yes 3 16 rfl rfl (fun _ _ h => h) (fun aF wF hs hb => ?_), ?_⟩
    · obtain ⟨x0, -⟩ := hs
      have e0 : aF.eval (.tmp 21) = .pointer (some ⟨x, 0, none⟩) := x0
      exact opC_load e0 (LF wF hb) ⟨rfl, below_same wF⟩
    refine ⟨step_yes 3 16 rfl rfl (fun _ _ h => h) (fun aF wF hs hb => ?_), ?_⟩
    · obtain ⟨x0, -⟩ := hs
      have e0 : aF.eval (.tmp 22) = .slice AF nF cF := x0
      refine opC_value (v := .int .i64 (nF : Int)) ?_ ⟨rfl, below_same wF⟩
      have t0 := ev_of e0
      simp [execOp, go_sem, t0]
    refine ⟨step_yes 3 16 rfl rfl (fun _ _ h => h) (fun aF wF hs hb => ?_), ?_⟩
    · obtain ⟨x0, x1, -⟩ := hs
      have e0 : aF.eval (.tmp 18) = .int .i64 p := x0
      have e1 : aF.eval (.tmp 23) = .int .i64 (nF : Int) := x1
      refine opC_value (v := .bool true) ?_ ⟨rfl, below_same wF⟩
      simp [execOp, go_sem, ev_of e0, ev_of e1, hth]
    refine ⟨step_free rfl (fun aF wF hs hb => ?_), ?_⟩
    · obtain ⟨x0, x1, -⟩ := hs
      have e0 : aF.eval (.tmp 16) = .bool true := x0
      have e1 : aF.eval (.tmp 24) = .bool true := x1
      refine opC_value (v := .bool true) ?_ ⟨rfl, below_same wF⟩
      have t0 := ev_of e0
      have t1 := ev_of e1
      simp [execOp, go_sem, t0, t1]
    refine ⟨step_free rfl (fun aF wF hs hb => ?_), ?_⟩
    · obtain ⟨x0, -⟩ := hs
      have e0 : aF.eval (.tmp 25) = .bool true := x0
      exact opC_assign e0 ⟨rfl, below_same wF⟩
    exact trivial
  · intro f w6 hf hb6
    have h9 : f 13 = .bool true := hf 13 6 rfl
    simp only [putF, Act.put, List.setIfInBounds_toArray, List.set_cons_zero, List.set_cons_succ]
    rw [h9]
    have HX6 := Lib.hid (HX.out.below hb6 HX.out.lt)
    have HBX6 := Lib.hid (HBX.out.below hb6 HBX.out.lt)
    have HB6 := Lib.hid (HBL.out.trans (hb6.mono HBL.out.size))
    have HXD6 := Lib.hid (HXD.out.below HB6.out)
    clear hf h9 hb6 LP LF HX HBX HBL HW
    have b0 := HBX6.out.cell 0
    have b1 := HBX6.out.cell 1
    have b4 := HBX6.out.cell 4
    simp at b0 b1 b4
    subst hnF
    have b2 := HBX6.out.cell 2
    simp at b2
    have hP2 : ¬ (256 : Int) < (nP : Int) := by omega
    go_wp2_with fail
    refine (off_ok HXD6.out HOW.out hl hm9).mono ?_
    rintro e w7 ⟨rfl, hx7, hk7⟩
    obtain ⟨l7, hl7e⟩ : ∃ l7, less left = l7 := ⟨_, rfl⟩
    rw [hl7e] at hx7
    have HXD7 := Lib.hid hx7
    have HBX7 : Hid (Blk w7 b 35 _) := Lib.hid ((hk7.block b HBX6.out.lt HBXX.out).trans HBX6.out)
    have HK7 : Hid (Kept (fun i => i = x) w w7) := Lib.hid ((Kept.of_below (own := fun i => i = x) HB6.out).trans hk7 (fun _ _ h => h))
    clear hx7 hk7
    have HL7 := Lib.hid hl7e
    clear hl7e b0 b1 b4 b2 HX6 HBX6 HXD6 HB6
    have x1 := HXD7.out.head.cell 1
    have f1 := HXD7.out.head.frozen 1
    have q1 := HBX7.out.cell 1
    have q2 := HBX7.out.cell 2
    simp at x1 q1 q2
    obtain ⟨G, hG⟩ : ∃ G, w7.heap.size = G := ⟨_, rfl⟩
    have HG := Lib.hid hG
    have HRD : Hid (Rd w7.drew w7.drew.heap.size AP l) := Lib.hid (HR.out.kept (HK7.out.mono (fun i e => HOW.out i (.inl e))) (fun _ _ h => h)).rd
    have HP3 : Hid (nP ≤ 256) := Lib.hid (by omega)
    have HNL := Lib.hid hnl
    have HD9 := Lib.hid hd9
    have HDL : Hid (G < G + 1) := Lib.hid (by omega)
    clear hG hnl hd9 hP2
    go_wp2_with fail
    go_region_law (first | (refine step_full (l := l) (show w7.drew.heap.size = G from HG.out) rfl HRD.out HNL.out HP3.out ?_; intro w8 hb8 hw8; have hX8 := HXD7.out.below (show Below w7.heap.size w7 w8 by rw [HG.out]; exact undrew hw8); have x8 := hX8.head.cell 1; have f8 := hX8.head.frozen 1; have xa8 := (hX8.head.alloc (.cells #[.int .i64 p, .slice (some ⟨G, 0, none⟩) 256 256] 59)).cell 1; have hq8 := HBX7.out.below (B := G) (show Below G w7 w8 from undrew hw8) (by have := HBX7.out.lt; rw [HG.out] at this; exact this); have qq1 := hq8.cell 1; have qq2 := hq8.cell 2; simp at x8 qq1 qq2 xa8; have HX8 := Lib.hid hX8; have HB8 := Lib.hid hb8; have HW8 := Lib.hid hw8; clear hX8 hq8 hb8 hw8) | (refine step_appendS rfl rowDeed (.tmp 44) (.tmp 51) rfl base (.slice AD ds.length cD) ds.length ds (by rfl) (HX8.out.rowD.alloc (.cells #[.int .i64 p, .slice (some ⟨G, 0, none⟩) 256 256] 59)) _ (some ⟨w8.heap.size, 0, none⟩) 1 1 [(p, ⟨some ⟨G, 0, none⟩, 256, full l⟩)] (by rfl) (rs_deed w8 p G l (by rw [HNL.out]; exact HP3.out)) rfl (by have := HD9.out; unfold maxLen; omega) (by have := HD9.out; omega) (by have := HX8.out.ge; have := HX8.out.head.lt; simp; omega) ?_; intro v9 w9 hown hg hat _; obtain ⟨_, A2, c2, rfl, _, _, _⟩ := hown.form (by decide); have hk1 := (HX8.out.head.alloc (.cells #[.int .i64 p, .slice (some ⟨G, 0, none⟩) 256 256] 59)).grown hg (fun e => HX8.out.dx e.symm); have d1 := hk1.cell 1; have e1 := hk1.frozen 1; simp at d1; have HO9 := Lib.hid hown; have HG9 := Lib.hid hg; have HT9 := Lib.hid hat; clear hown hg hat hk1))
    all_goals
      have hX := XD.addD (W := w8.alloc (.cells #[.int .i64 p, .slice (some ⟨G, 0, none⟩) 256 256] 59)) (p := p) (s := ⟨some ⟨G, 0, none⟩, 256, full l⟩) HXD7.out HOW.out (fun i e => Nat.lt_of_lt_of_le (HOO.out i e) HK7.out.size) (by rw [HG.out]; exact (undrew HW8.out).alloc (Nat.le_trans (Nat.le_of_eq HG.out.symm) HW8.out.size) _) (rd_full (HB8.out.alloc _)) (fun b q e => by injection e with e; injection e with e _ _; rw [HG.out]; omega) HO9.out HG9.out HT9.out
      have HX9 := Lib.hid hX
      clear hX d1 e1
      go_wp2_with fail
      exact bodyPost_ret (v := .tuple #[.pointer (some ⟨x, 0, none⟩), .int .i64 0]) (by simp [results, Tryd.results9, go_sem, Result.andThen]) rfl ⟨A2, c2, _, rfl, rfl, rfl, by rw [HL7.out]; exact HX9.out.1, fun own hw => (HK7.out.mono (fun i e => hw i (.inl e))).trans (HX9.out.2.1.mono hw) (fun _ _ h => h), fun i hi e => HX9.out.2.2 i (Nat.lt_of_lt_of_le hi HK7.out.size) e⟩
end Go.Proofs.YthljcekodlbplaaDoor
