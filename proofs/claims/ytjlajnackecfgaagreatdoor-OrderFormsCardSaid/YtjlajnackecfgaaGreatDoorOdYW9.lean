/-
order.parseEvent: what a Lens tells of an event. Condition: the Lens is known.
Which bytes are an order's: the plain mathematics. No condition.
-/
import Derived.Test.YtjlajnackecfgaaGreatDoorOdRW9
import Derived.Test.YtjlajnackecfgaaGreatDoorOdEW9
import Derived.Test.YtjlajnackecfgaaGreatDoorTrmPW9
namespace Go.Proofs.YtjlajnackecfgaaGreatDoor
open Go.ChangeShapes Go.WideShapes Go.ChangeAt Go.RowKit Go.Shelf
theorem Far.fresh {a w : World} {q G : Nat} {r : Option Nat} (h : Far a w q r) (hG : a.heap.size ≤ G) (i : Nat) (u : Value) : Far a (w.setCell ⟨G, i, none⟩ u) q r :=
  ⟨h.1, h.2.1, h.2.2.1, by rw [World.size_setCell]; exact h.2.2.2.1, fun j hj h1 h2 => (Below.heap_setCell w ⟨G, i, none⟩ u j (by show j ≠ G; omega)).trans (h.2.2.2.2 j hj h1 h2)⟩
theorem Far.only {a w w' : World} {q G : Nat} {r : Option Nat} (h : Far a w q r) (ho : OnlyAt G w w') (hG : a.heap.size ≤ G) : Far a w' q r :=
  ⟨ho.os.trans h.1, ho.tape.trans h.2.1, ho.output.trans h.2.2.1, by rw [ho.size]; exact h.2.2.2.1, fun j hj h1 h2 => (ho.block j (by omega)).trans (h.2.2.2.2 j hj h1 h2)⟩
theorem OnlyAt.far {G : Nat} {w w' : World} (h : OnlyAt G w w') : Far w w' G none := ⟨h.os, h.tape, h.output, by rw [h.size]; exact Nat.le_refl _, fun j _ h1 _ => h.block j h1⟩
theorem far_set (w : World) (G i : Nat) (u : Value) : Far w (w.setCell ⟨G, i, none⟩ u) G none := (Far.refl w G none).set i u
/-- What stands behind an event. -/
def evS (st : Option (List UInt8)) : Option (List UInt8) := (uS 1000000000000 (uS 255 (uS 3652058 (uS 4294967295 st))))
def evV (st : Option (List UInt8)) : Evt := ⟨uV 4294967295 st, (uV 3652058 (uS 4294967295 st) : Nat), uV 255 (uS 3652058 (uS 4294967295 st)), (uV 1000000000000 (uS 255 (uS 3652058 (uS 4294967295 st))) : Nat)⟩
def PePost (b g : Nat) (w : World) (st : Option (List UInt8)) (e : Ending) (w' : World) : Prop := e = .returned (Evt.v (evV st)) ∧ Ln w' b g (evS st) ∧ Far w w' b none
set_option maxRecDepth 100000 in
set_option maxHeartbeats 4000000 in
theorem parseEvent_any (b g : Nat) (st : Option (List UInt8)) (w : World) (h : Ln w b g st) (hg : g < w.heap.size) : Calls Tryz.prog 35 #[.pointer (some ⟨b, 0, none⟩)] w (PePost b g w st) := by
  have hblt := h.lt
  have h2 := (h.below (b_alloc w (.cells #[.int .u32 0, .int .i32 0, .int .u8 0, .int .i64 0] 30)))
  have h3 := (h2.below (b_alloc (w.alloc (.cells #[.int .u32 0, .int .i32 0, .int .u8 0, .int .i64 0] 30)) (.cells #[.int .u32 0, .int .i32 0, .int .u8 0, .int .i64 0] 30)))
  have hR := (Blk.new w 30 #[.int .u32 0, .int .i32 0, .int .u8 0, .int .i64 0]).alloc (.cells #[.int .u32 0, .int .i32 0, .int .u8 0, .int .i64 0] 30)
  have hG := Blk.new (w.alloc (.cells #[.int .u32 0, .int .i32 0, .int .u8 0, .int .i64 0] 30)) 30 #[.int .u32 0, .int .i32 0, .int .u8 0, .int .i64 0]
  have hF := ((Far.refl w b none).alloc (.cells #[.int .u32 0, .int .i32 0, .int .u8 0, .int .i64 0] 30)).alloc (.cells #[.int .u32 0, .int .i32 0, .int .u8 0, .int .i64 0] 30)
  rw [World.size_alloc] at hG
  obtain ⟨w3, hw3⟩ : ∃ W, (w.alloc (.cells #[.int .u32 0, .int .i32 0, .int .u8 0, .int .i64 0] 30)).alloc (.cells #[.int .u32 0, .int .i32 0, .int .u8 0, .int .i64 0] 30) = W := ⟨_, rfl⟩
  obtain ⟨r, hr⟩ : ∃ r, w.heap.size = r := ⟨_, rfl⟩
  obtain ⟨G, hGG⟩ : ∃ G, w.heap.size + 1 = G := ⟨_, rfl⟩
  rw [hw3] at h3 hR hG hF
  rw [hr] at hR
  rw [hGG] at hG
  have HL3 := Lib.hid h3
  have HG3 := Lib.hid hG
  have HR3 := Lib.hid hR
  have HF3 := Lib.hid hF
  have HX : Hid (b < r ∧ g < r ∧ r < G ∧ w.heap.size ≤ G ∧ w.heap.size ≤ r) := Lib.hid (by omega)
  have HW := Lib.hid (And.intro hw3 (And.intro hr hGG))
  clear h h2 h3 hR hG hF hw3 hr hGG hblt hg
  obtain ⟨x0, hx0⟩ : ∃ x, uV 4294967295 st = x := ⟨_, rfl⟩
  have b0 := uV_le 4294967295 st
  rw [hx0] at b0
  have HV0 := Lib.hid hx0
  have HY0 := Lib.hid b0
  clear hx0 b0
  obtain ⟨x1, hx1⟩ : ∃ x, uV 3652058 (uS 4294967295 st) = x := ⟨_, rfl⟩
  have b1 := uV_le 3652058 (uS 4294967295 st)
  rw [hx1] at b1
  have HV1 := Lib.hid hx1
  have HY1 := Lib.hid b1
  clear hx1 b1
  obtain ⟨x2, hx2⟩ : ∃ x, uV 255 (uS 3652058 (uS 4294967295 st)) = x := ⟨_, rfl⟩
  have b2 := uV_le 255 (uS 3652058 (uS 4294967295 st))
  rw [hx2] at b2
  have HV2 := Lib.hid hx2
  have HY2 := Lib.hid b2
  clear hx2 b2
  obtain ⟨x3, hx3⟩ : ∃ x, uV 1000000000000 (uS 255 (uS 3652058 (uS 4294967295 st))) = x := ⟨_, rfl⟩
  have b3 := uV_le 1000000000000 (uS 255 (uS 3652058 (uS 4294967295 st)))
  rw [hx3] at b3
  have HV3 := Lib.hid hx3
  have HY3 := Lib.hid b3
  clear hx3 b3
  go_enter Tryz.func35, Tryz.ntmps35
  go_upto_region 2 with (fail)
  rw [HW.out.1, HW.out.2.2, HW.out.2.1]
  clear HW
  go_wp2_with fail
  refine (LUint_any b g 4294967295 (by decide) st _ HL3.out).mono ?_
  rintro e w4 ⟨rfl, hl, hf⟩
  rw [HV0.out]
  have hG4 := HG3.out.past hf (by have := HX.out; omega) (by simp)
  have HR4 := Lib.hid (HR3.out.past hf (by have := HX.out; omega) (by simp))
  have HF4 := Lib.hid (HF3.out.trans hf (Stays.refl _ _))
  have HL4 := Lib.hid hl
  have z0 := hG4.cell 0
  have f0 := hG4.frozen 0
  simp at z0
  have y0 := HY0.out
  have i0 : IntKind.u32.wrap (x0 : Int) = (x0 : Int) := by rw [IntKind.wrap_u32]; omega
  have HG4 := Lib.hid hG4
  clear hl hf hG4 HL3 HG3 HR3 HF3
  go_wp2_with fail
  have hG5 := HG4.out.set_ 0 (.int .u32 (x0 : Int))
  simp only [List.setIfInBounds_toArray, List.set_cons_zero] at hG5
  have hS5 := far_set w4 G 0 (.int .u32 (x0 : Int))
  have hL5 := HL4.out.past hS5 (by have := HX.out; omega) (by simp) (by have := HX.out; omega) (by simp)
  have hR5 := HR4.out.past hS5 (by have := HX.out; omega) (by simp)
  have hF5 := HF4.out.fresh (G := G) (by have := HX.out; omega) 0 (.int .u32 (x0 : Int))
  obtain ⟨w5, hw5⟩ : ∃ W, w4.setCell ⟨G, 0, none⟩ (.int .u32 (x0 : Int)) = W := ⟨_, rfl⟩
  rw [hw5] at hG5 hL5 hR5 hF5
  rw [hw5]
  have HG5 := Lib.hid hG5
  have HL5 := Lib.hid hL5
  have HR5 := Lib.hid hR5
  have HF5 := Lib.hid hF5
  clear hS5 hG5 hL5 hR5 hF5 hw5 HG4 HL4 HR4 HF4 z0 f0 y0 i0
  refine (LUint_any b g 3652058 (by decide) (uS 4294967295 st) _ HL5.out).mono ?_
  rintro e w6 ⟨rfl, hl, hf⟩
  rw [HV1.out]
  have hG6 := HG5.out.past hf (by have := HX.out; omega) (by simp)
  have HR6 := Lib.hid (HR5.out.past hf (by have := HX.out; omega) (by simp))
  have HF6 := Lib.hid (HF5.out.trans hf (Stays.refl _ _))
  have HL6 := Lib.hid hl
  have z1 := hG6.cell 1
  have f1 := hG6.frozen 1
  simp at z1
  have y1 := HY1.out
  have i1 : IntKind.i32.wrap (x1 : Int) = (x1 : Int) := by rw [IntKind.wrap_i32]; omega
  have HG6 := Lib.hid hG6
  clear hl hf hG6 HL5 HG5 HR5 HF5
  go_wp2_with fail
  have hG7 := HG6.out.set_ 1 (.int .i32 (x1 : Int))
  simp only [List.setIfInBounds_toArray, List.set_cons_zero, List.set_cons_succ] at hG7
  have hS7 := far_set w6 G 1 (.int .i32 (x1 : Int))
  have hL7 := HL6.out.past hS7 (by have := HX.out; omega) (by simp) (by have := HX.out; omega) (by simp)
  have hR7 := HR6.out.past hS7 (by have := HX.out; omega) (by simp)
  have hF7 := HF6.out.fresh (G := G) (by have := HX.out; omega) 1 (.int .i32 (x1 : Int))
  obtain ⟨w7, hw7⟩ : ∃ W, w6.setCell ⟨G, 1, none⟩ (.int .i32 (x1 : Int)) = W := ⟨_, rfl⟩
  rw [hw7] at hG7 hL7 hR7 hF7
  rw [hw7]
  have HG7 := Lib.hid hG7
  have HL7 := Lib.hid hL7
  have HR7 := Lib.hid hR7
  have HF7 := Lib.hid hF7
  clear hS7 hG7 hL7 hR7 hF7 hw7 HG6 HL6 HR6 HF6 z1 f1 y1 i1
  refine (LUint_any b g 255 (by decide) (uS 3652058 (uS 4294967295 st)) _ HL7.out).mono ?_
  rintro e w8 ⟨rfl, hl, hf⟩
  rw [HV2.out]
  have hG8 := HG7.out.past hf (by have := HX.out; omega) (by simp)
  have HR8 := Lib.hid (HR7.out.past hf (by have := HX.out; omega) (by simp))
  have HF8 := Lib.hid (HF7.out.trans hf (Stays.refl _ _))
  have HL8 := Lib.hid hl
  have z2 := hG8.cell 2
  have f2 := hG8.frozen 2
  simp at z2
  have y2 := HY2.out
  have i2 : IntKind.u8.wrap (x2 : Int) = (x2 : Int) := by rw [IntKind.wrap_u8]; omega
  have HG8 := Lib.hid hG8
  clear hl hf hG8 HL7 HG7 HR7 HF7
  go_wp2_with fail
  have hG9 := HG8.out.set_ 2 (.int .u8 (x2 : Int))
  simp only [List.setIfInBounds_toArray, List.set_cons_zero, List.set_cons_succ] at hG9
  have hS9 := far_set w8 G 2 (.int .u8 (x2 : Int))
  have hL9 := HL8.out.past hS9 (by have := HX.out; omega) (by simp) (by have := HX.out; omega) (by simp)
  have hR9 := HR8.out.past hS9 (by have := HX.out; omega) (by simp)
  have hF9 := HF8.out.fresh (G := G) (by have := HX.out; omega) 2 (.int .u8 (x2 : Int))
  obtain ⟨w9, hw9⟩ : ∃ W, w8.setCell ⟨G, 2, none⟩ (.int .u8 (x2 : Int)) = W := ⟨_, rfl⟩
  rw [hw9] at hG9 hL9 hR9 hF9
  rw [hw9]
  have HG9 := Lib.hid hG9
  have HL9 := Lib.hid hL9
  have HR9 := Lib.hid hR9
  have HF9 := Lib.hid hF9
  clear hS9 hG9 hL9 hR9 hF9 hw9 HG8 HL8 HR8 HF8 z2 f2 y2 i2
  refine (LUint_any b g 1000000000000 (by decide) (uS 255 (uS 3652058 (uS 4294967295 st))) _ HL9.out).mono ?_
  rintro e w10 ⟨rfl, hl, hf⟩
  rw [HV3.out]
  have hG10 := HG9.out.past hf (by have := HX.out; omega) (by simp)
  have HR10 := Lib.hid (HR9.out.past hf (by have := HX.out; omega) (by simp))
  have HF10 := Lib.hid (HF9.out.trans hf (Stays.refl _ _))
  have HL10 := Lib.hid hl
  have z3 := hG10.cell 3
  have f3 := hG10.frozen 3
  simp at z3
  have y3 := HY3.out
  have i3 : IntKind.i64.wrap (x3 : Int) = (x3 : Int) := by rw [IntKind.wrap_i64]; omega
  have HG10 := Lib.hid hG10
  clear hl hf hG10 HL9 HG9 HR9 HF9
  have hG11 := HG10.out.set_ 3 (.int .i64 (x3 : Int))
  simp only [List.setIfInBounds_toArray, List.set_cons_zero, List.set_cons_succ] at hG11
  have hS11 := far_set w10 G 3 (.int .i64 (x3 : Int))
  have hL11 := HL10.out.past hS11 (by have := HX.out; omega) (by simp) (by have := HX.out; omega) (by simp)
  have hR11 := HR10.out.past hS11 (by have := HX.out; omega) (by simp)
  have hF11 := HF10.out.fresh (G := G) (by have := HX.out; omega) 3 (.int .i64 (x3 : Int))
  have HG11 := Lib.hid hG11
  have HL11 := Lib.hid hL11
  have HR11 := Lib.hid hR11
  have HF11 := Lib.hid hF11
  clear hS11 hG11 hL11 hR11 hF11 HG10 HL10 HR10 HF10
  go_wp2_with (first | (with_reducible refine wpl_loadB (o := ⟨some 20, _, _, _, _, _⟩) rfl 30 (.tmp 3) rfl G 0 rfl HG11.out #[.int .u32 (x0 : Int), .int .i32 (x1 : Int), .int .u8 (x2 : Int), .int .i64 (x3 : Int)] ?g1 ?g2 ?_) | (with_reducible refine wpl_storeA (o := ⟨none, .store 30 (.tmp 2) (.tmp 20), _, _, _, _⟩) rfl 30 (.tmp 2) (.tmp 20) rfl r rfl #[.int .u32 (x0 : Int), .int .i32 (x1 : Int), .int .u8 (x2 : Int), .int .i64 (x3 : Int)] rfl HR11.out ?g5 ?g6 ?g7 ?_))
  case g1 => exact part_of (by rfl)
  case g2 => exact rowEv
  case g5 => rfl
  case g6 => exact rowEv
  case g7 => simp [Value.oneCell']
  intro w20 ho hY
  have hL20 := HL11.out.past ho.far (by have := HX.out; omega) (by simp) (by have := HX.out; omega) (by simp)
  have hF20 := HF11.out.only ho (by have := HX.out; omega)
  have HL20 := Lib.hid hL20
  have HF20 := Lib.hid hF20
  clear hL20 hF20
  go_wp2_with fail
  have r0 := hY.cell 0
  have r1 := hY.cell 1
  have r2 := hY.cell 2
  have r3 := hY.cell 3
  simp at r0 r1 r2 r3
  refine bodyPost_ret (v := .agg #[.int .u32 (x0 : Int), .int .i32 (x1 : Int), .int .u8 (x2 : Int), .int .i64 (x3 : Int)]) ?_ rfl ⟨?_, HL20.out, HF20.out⟩
  · simp [results, Tryz.results35, go_sem, r0, r1, r2, r3]
  · unfold evV
    rw [HV0.out, HV1.out, HV2.out, HV3.out]
    rfl
end Go.Proofs.YtjlajnackecfgaaGreatDoor
namespace Go.Proofs.YtjlajnackecfgaaGreatDoor
open Go.ChangeShapes Go.WideShapes Go.ChangeAt Go.RowKit
/-- Some order that may be has these bytes. -/
def okP (q : List UInt8) : Prop := ∃ o : Ord, o.In ∧ o.Right ∧ layO o = q
theorem uV_le9 (most : Nat) (st : Option (List UInt8)) : uV most st ≤ most := uV_le most st
theorem q_of {q r : List UInt8} (h : ps2 q = some r) : q = layN 0 (pk q) ++ (layN 0 (pa q) ++ r) := by
  obtain ⟨e1, -⟩ := uS_some (show uS 4294967295 (ps1 q) = some r from h)
  obtain ⟨e2, -⟩ := uS_some (show uS 255 (some q) = _ from e1)
  injection e2
theorem zero_in : Trm.zero.In := ⟨by decide, by decide, by decide, by decide, by decide, by decide, by decide, by decide⟩
theorem ezero_in : Evt.zero.In := ⟨by decide, by decide, by decide, by decide⟩
theorem trm_inY {t : Trm} (h : t.Right) : t.In := by
  obtain ⟨hK, ⟨hR, hB⟩, hP, hM, hS, hF, hG⟩ := h
  exact ⟨by omega, by omega, by omega, by omega, by omega, by omega, by omega, by omega⟩
/-- What an order that may be looks like, by its bytes. -/
theorem co_lay {o : Ord} (hi : o.In) (q : List UInt8) (h : layO o = q) : pk q = o.k ∧ pa q = o.a ∧ ps2 q = some o.tl := by
  rw [← h]
  have := hi.k
  have := hi.a
  exact po_lay (by omega) (by omega)
theorem so_1 {q : List UInt8} {n : Nat} (hk : pk q = 1) (hS : tS n (ps2 q) = some []) (hp : prTB (tV n (ps2 q)).data.toList) :
    layO ⟨1, pa q, tmR (some (tV n (ps2 q)).data.toList), Evt.zero⟩ = q ∧ Ord.In ⟨1, pa q, tmR (some (tV n (ps2 q)).data.toList), Evt.zero⟩ := by
  obtain ⟨e, -⟩ := tS_some hS
  have hq := q_of e
  refine ⟨?_, ⟨by show 1 < 256; decide, by have := uV_le 4294967295 (ps1 q); show uV 4294967295 (ps1 q) < _; omega, trm_inY hp.2, ezero_in⟩⟩
  rw [layO_tl]
  unfold Ord.tl
  dsimp only
  rw [if_pos rfl, tm_one hp.1]
  conv => rhs; rw [hq, hk, List.append_nil]
theorem co_1 {q : List UInt8} {n : Nat} (hn : q.length ≤ n) (hn2 : n < 18446744073709551616) (hk : pk q = 1) (h : okP q) :
    tS n (ps2 q) = some [] ∧ prTB (tV n (ps2 q)).data.toList ∧ Ord.Right ⟨1, pa q, tmR (some (tV n (ps2 q)).data.toList), Evt.zero⟩ := by
  obtain ⟨o, hi, hr, hl⟩ := h
  obtain ⟨c1, c2, c3⟩ := co_lay hi q hl
  have k1 : o.k = 1 := c1.symm.trans hk
  have hR := hr.2.1 k1
  have hlen : (layTm o.t).length ≤ n := by
    have e := congrArg List.length (layO_tl o)
    rw [hl] at e
    unfold Ord.tl at e
    rw [if_pos k1] at e
    unfold layT at e
    simp only [List.length_append] at e
    omega
  have htl : o.tl = layT (layTm o.t) ++ [] := by unfold Ord.tl; rw [if_pos k1, List.append_nil]
  obtain ⟨s1, s2⟩ := tS_lay (most := n) (X := layTm o.t) (r := []) hlen hn2
  rw [c3, htl, s1, s2]
  obtain ⟨t1, t2⟩ := tm_lay o.t hR
  refine ⟨rfl, ⟨t2, by rw [show ((⟨(layTm o.t).toArray⟩ : ByteArray).data.toList) = layTm o.t from rfl, t1]; exact hR⟩, ?_⟩
  have ho : (⟨1, pa q, tmR (some (⟨(layTm o.t).toArray⟩ : ByteArray).data.toList), Evt.zero⟩ : Ord) = o := by
    rw [show ((⟨(layTm o.t).toArray⟩ : ByteArray).data.toList) = layTm o.t from rfl, t1, c2]
    have := hr.1
    unfold Ord.named at this
    rw [if_pos k1] at this
    exact this.symm
  rw [ho]
  exact hr
theorem ev_in (st : Option (List UInt8)) : (evV st).In := by
  have h1 := uV_le 4294967295 st
  have h2 := uV_le 3652058 (uS 4294967295 st)
  have h3 := uV_le 255 (uS 3652058 (uS 4294967295 st))
  have h4 := uV_le 1000000000000 (uS 255 (uS 3652058 (uS 4294967295 st)))
  unfold evV
  exact ⟨by dsimp only; omega, by dsimp only; omega, by dsimp only; omega, by dsimp only; omega⟩
theorem so_2 {q : List UInt8} (hk : pk q = 2) (hS : evS (ps2 q) = some []) : layO ⟨2, pa q, Trm.zero, evV (ps2 q)⟩ = q ∧ Ord.In ⟨2, pa q, Trm.zero, evV (ps2 q)⟩ := by
  unfold evS at hS
  obtain ⟨e4, -⟩ := uS_some hS
  obtain ⟨e3, -⟩ := uS_some e4
  obtain ⟨e2, -⟩ := uS_some e3
  obtain ⟨e1, -⟩ := uS_some e2
  have hq := q_of e1
  refine ⟨?_, ⟨by show 2 < 256; decide, by have := uV_le 4294967295 (ps1 q); show uV 4294967295 (ps1 q) < _; omega, zero_in, ev_in _⟩⟩
  rw [layO_tl]
  unfold Ord.tl
  dsimp only
  rw [if_neg (by decide), if_pos rfl]
  conv => rhs; rw [hq, hk]
  unfold evV
  simp only [Int.toNat_natCast, List.append_nil]
theorem co_2 {q : List UInt8} (hk : pk q = 2) (h : okP q) : evS (ps2 q) = some [] ∧ Ord.Right ⟨2, pa q, Trm.zero, evV (ps2 q)⟩ := by
  obtain ⟨o, hi, hr, hl⟩ := h
  obtain ⟨c1, c2, c3⟩ := co_lay hi q hl
  have k2 : o.k = 2 := c1.symm.trans hk
  obtain ⟨hd, hek⟩ := hr.2.2.1 k2
  have hs := hi.e.s
  have htl : o.tl = layN 0 o.e.s ++ (layN 0 o.e.d.toNat ++ (layN 0 o.e.k ++ (layN 0 o.e.m.toNat ++ []))) := by unfold Ord.tl; rw [if_neg (by omega), if_pos k2, List.append_nil]
  obtain ⟨q1, q2, q3, q4, q5⟩ := ev_lay (s := o.e.s) (d := o.e.d.toNat) (k := o.e.k) (m := o.e.m.toNat) (by omega) (by omega) (by omega) (by omega) []
  unfold evS evV
  rw [c3, htl, q1, q2, q3, q4, q5]
  refine ⟨rfl, ?_⟩
  have ho : (⟨2, pa q, Trm.zero, ⟨o.e.s, (o.e.d.toNat : Int), o.e.k, (o.e.m.toNat : Int)⟩⟩ : Ord) = o := by
    rw [c2]
    have h9 := hr.1
    unfold Ord.named at h9
    rw [if_neg (by omega), if_pos k2] at h9
    have he : (⟨o.e.s, (o.e.d.toNat : Int), o.e.k, (o.e.m.toNat : Int)⟩ : Evt) = o.e := by
      rw [evt_ext]
      dsimp only
      omega
    rw [he]
    exact h9.symm
  rw [ho]
  exact hr
theorem so_3 {q : List UInt8} (hk : pk q = 3) (hS : uS 4294967295 (ps2 q) = some []) : layO ⟨3, pa q, Trm.zero, ⟨uV 4294967295 (ps2 q), 0, 0, 0⟩⟩ = q ∧ Ord.In ⟨3, pa q, Trm.zero, ⟨uV 4294967295 (ps2 q), 0, 0, 0⟩⟩ := by
  obtain ⟨e1, -⟩ := uS_some hS
  have hq := q_of e1
  have hb := uV_le 4294967295 (ps2 q)
  refine ⟨?_, ⟨by show 3 < 256; decide, by have := uV_le 4294967295 (ps1 q); show uV 4294967295 (ps1 q) < _; omega, zero_in, ⟨by dsimp only; omega, by dsimp only; omega, by dsimp only; omega, by dsimp only; omega⟩⟩⟩
  rw [layO_tl]
  unfold Ord.tl
  dsimp only
  rw [if_neg (by decide), if_neg (by decide), if_pos rfl]
  conv => rhs; rw [hq, hk, List.append_nil]
theorem co_3 {q : List UInt8} (hk : pk q = 3) (h : okP q) : uS 4294967295 (ps2 q) = some [] ∧ Ord.Right ⟨3, pa q, Trm.zero, ⟨uV 4294967295 (ps2 q), 0, 0, 0⟩⟩ := by
  obtain ⟨o, hi, hr, hl⟩ := h
  obtain ⟨c1, c2, c3⟩ := co_lay hi q hl
  have k3 : o.k = 3 := c1.symm.trans hk
  have hs := hi.e.s
  have htl : o.tl = layN 0 o.e.s ++ [] := by unfold Ord.tl; rw [if_neg (by omega), if_neg (by omega), if_pos k3, List.append_nil]
  obtain ⟨q1, q2⟩ := uS_lay (most := 4294967295) (n := o.e.s) (r := []) (by omega) (by decide)
  rw [c3, htl, q1, q2]
  refine ⟨rfl, ?_⟩
  have ho : (⟨3, pa q, Trm.zero, ⟨o.e.s, 0, 0, 0⟩⟩ : Ord) = o := by
    rw [c2]
    have h9 := hr.1
    unfold Ord.named at h9
    rw [if_neg (by omega), if_neg (by omega), if_pos k3] at h9
    exact h9.symm
  rw [ho]
  exact hr
theorem so_4 {q : List UInt8} (h1 : pk q ≠ 1) (h2 : pk q ≠ 2) (h3 : pk q ≠ 3) (hS : ps2 q = some []) : layO ⟨pk q, pa q, Trm.zero, Evt.zero⟩ = q ∧ Ord.In ⟨pk q, pa q, Trm.zero, Evt.zero⟩ := by
  have hq := q_of hS
  have hb := uV_le 255 (some q)
  refine ⟨?_, ⟨by show uV 255 (some q) < _; omega, by have := uV_le 4294967295 (ps1 q); show uV 4294967295 (ps1 q) < _; omega, zero_in, ezero_in⟩⟩
  rw [layO_tl]
  unfold Ord.tl
  dsimp only
  rw [if_neg h1, if_neg h2, if_neg h3]
  exact hq.symm
theorem co_4 {q : List UInt8} (h1 : pk q ≠ 1) (h2 : pk q ≠ 2) (h3 : pk q ≠ 3) (h : okP q) : ps2 q = some [] ∧ Ord.Right ⟨pk q, pa q, Trm.zero, Evt.zero⟩ := by
  obtain ⟨o, hi, hr, hl⟩ := h
  obtain ⟨c1, c2, c3⟩ := co_lay hi q hl
  rw [c1] at h1 h2 h3
  have htl : o.tl = [] := by unfold Ord.tl; rw [if_neg h1, if_neg h2, if_neg h3]
  rw [c3, htl]
  refine ⟨rfl, ?_⟩
  have h9 := hr.1
  unfold Ord.named at h9
  rw [if_neg h1, if_neg h2, if_neg h3] at h9
  have ho : (⟨pk q, pa q, Trm.zero, Evt.zero⟩ : Ord) = o := by
    rw [c1, c2]
    have ha : o.a = 0 := congrArg Ord.a h9
    rw [ha]
    exact h9.symm
  rw [ho]
  exact hr
end Go.Proofs.YtjlajnackecfgaaGreatDoor
