/-
  layer 1's half: is something a beginning of what it is to be, and what it was behind it? Conditions: three sectors.
-/
import Derived.Test.YtoiiemjaecfnhaaDrumY
import Derived.Test.YtoiiemjaecfnhaaJoinB
namespace Go.Proofs.Ytoiiemjaecfnhaa
open Go.RowKit

theorem enters_ {P : Program} {f : FuncId} {fn : Func} {c : Code} (hf : P.funcs[f]? = some fn) (hname : (fn.name == "runtime.NumGoroutine") = false) (hb : fn.body = some c) : ∀ args w, (callFunc f args).run P w = .ok (.enter f args) w := by
  intro args w
  have h1 : fn.name ≠ "runtime.NumGoroutine" := by simpa using hname
  simp [callFunc, hf, h1, hb, mark]
/-- A slice of values, in a block of its own. -/
def rowF (cs : Array Value) : Flw := ⟨fun v w => ∃ g, v = .slice (some ⟨g, 0, none⟩) cs.size cs.size ∧ Blk w g 22 cs, fun ⟨g, h1, h2⟩ hb => ⟨g, h1, h2.below hb h2.lt⟩⟩
/-- Bytes. -/
def bytF (L : List UInt8) : Flw := ⟨fun v w => ∃ A c, v = .slice A L.length c ∧ L.length ≤ c ∧ Rd w w.heap.size A L, fun ⟨A, c, h1, h3, h2⟩ hb => ⟨A, c, h1, h3, (h2.below hb).more hb.size⟩⟩
theorem infoRow : (Try.prog.info? 22).map (fun i => (i.zero, i.size, i.bytes)) = some (some (.slice none 0 0), 1, 24) := by kernel_rfl
theorem opC_build2 {dst : Option Tmp} {x y : Operand} {ty : TypeId} {pos : String} {af : Array Edge} {a : Act} {w : World} {K : Value → World → Prop} {A B : Option Addr} {n c m e : Nat} (hx : a.eval x = .slice A n c) (hy : a.eval y = .slice B m e)
    (hk : K (.slice (some ⟨w.heap.size, 0, none⟩) 2 2) (w.alloc (.cells #[.slice A n c, .slice B m e] 22))) : opC Try.prog ⟨dst, .buildSlice 45 2 #[(0, x), (1, y)], ty, pos, af, none⟩ a w K := by
  obtain ⟨i0, hi, hz0, hz1, hz2⟩ := info_parts infoRow
  have hrun : (Instr.buildSlice 45 2 #[(0, .slice A n c), (1, .slice B m e)]).run Try.prog w = .ok (.slice (some ⟨w.heap.size, 0, none⟩) 2 2) (w.alloc (.cells #[.slice A n c, .slice B m e] 22)) := by
    refine run_buildSlice w 45 22 2 _ #[.slice A n c, .slice B m e] i0 (.slice none 0 0) Try.underlying45 hi hz0 (by rw [hz1]; decide) (by rw [hz1]; decide) ?_
    rw [hz1]
    simp [Instr.fill, Value.cells]
    apply Array.toList_inj.1
    simp [List.range_succ]
  constructor
  rw [show (execOp a.eval ⟨dst, .buildSlice 45 2 #[(0, x), (1, y)], ty, pos, af, none⟩).run Try.prog w = .ok (.value (.slice (some ⟨w.heap.size, 0, none⟩) 2 2)) (w.alloc (.cells #[.slice A n c, .slice B m e] 22)) by
    simp [execOp, hx, hy, hrun, Result.andThen]]
  exact hk
set_option maxRecDepth 20000 in
set_option maxHeartbeats 4000000 in
theorem half_any (bg og bw ow bi oi : Nat) (got was is_ : List UInt8) (w : World) (hg : Rd w w.heap.size (some ⟨bg, og, none⟩) got) (hw : Rd w w.heap.size (some ⟨bw, ow, none⟩) was) (hi : Rd w w.heap.size (some ⟨bi, oi, none⟩) is_)
    (hgl : got.length = 256) (hwl : was.length = 256) (hil : is_.length = 256) (m : Nat) (hm : m ≤ 256) (h : got = tear m is_ was) :
    Calls Try.prog 15 #[.slice (some ⟨bg, og, none⟩) 256 256, .slice (some ⟨bw, ow, none⟩) 256 256, .slice (some ⟨bi, oi, none⟩) 256 256] w fun e w' => e = .returned (.bool true) ∧ Below w.heap.size w w' := by
  have HG := Lib.hid hg
  have HW := Lib.hid hw
  have HI := Lib.hid hi
  have HE := Lib.hid h
  clear hg hw hi h
  go_enter Try.func15, Try.ntmps15
  go_wp2
  go_loopw [7] (fun z wr => ∃ k : Nat, k ≤ m ∧ z = .int .i64 k ∧ Below w.heap.size w wr) (fun z _ => 257 - (intOf z).toNat)
  case atStart => exact ⟨0, Nat.zero_le _, rfl, Below.refl _ _⟩
  case round =>
    obtain ⟨k, hk, rfl, hbl⟩ := hrel
    have HB := Lib.hid hbl
    clear hbl
    obtain ⟨L, hL⟩ : ∃ L, L = tear k is_ was := ⟨_, rfl⟩
    have hLl : L.length = 256 := by rw [hL]; exact tear_length k is_ was hil hwl
    have HL := Lib.hid hL
    have cSame1 : ∀ wF, Below wr.heap.size wr wF → ∀ {v : Value}, (bytF L).p v wF → Calls Try.prog 14 #[.slice (some ⟨bg, og, none⟩) 256 256, v] wF fun e w' => e = .returned (.bool (decide (got = L))) ∧ Below wF.heap.size wF w' := by
      rintro wF hb v ⟨A, c, rfl, hc, hr⟩
      have hbw := HB.out.trans (hb.mono HB.out.size)
      exact (Same_any _ A 256 256 w.heap.size L.length c wF.heap.size got L wF (HG.out.below hbw) hgl (by decide) hr rfl (by rw [hLl]; decide)).mono fun e w' h => below_all h
    clear hL
    have i1 : (k : Int) ≤ 256 := by omega
    by_cases hlt : k < 256
    · have k0 : (0 : Int) ≤ (k : Int) := by omega
      have k1 : (k : Int) ≤ 256 := by omega
      have k2 : ¬ (256 = k) := by omega
      have cJoin : ∀ wF, Below wr.heap.size wr wF → ∀ {v : Value}, (rowF #[.slice (some ⟨bi, oi, none⟩) k 256, .slice (some ⟨bw, ow + k, none⟩) (256 - k) (256 - k)]).p v wF → Calls Try.prog 24 #[v] wF (ToF (bytF L) wF) := by
        rintro wF hb v ⟨g, rfl, hbk⟩
        have hbw := HB.out.trans (hb.mono HB.out.size)
        have r1 : Rd wF wF.heap.size (some ⟨bi, oi, none⟩) (is_.take k) := ((HI.out.below hbw).more hbw.size).take k
        have r2 : Rd wF wF.heap.size (some ⟨bw, ow + k, none⟩) (was.drop k) := by
          have h := ((HW.out.below hbw).more hbw.size).cut (k := k) (cap := 256) (by omega)
          rw [if_neg k2] at h
          simpa [go_sem] using h
        refine (Join_own g 0 2 wF.heap.size [⟨some ⟨bi, oi, none⟩, 256, is_.take k⟩, ⟨some ⟨bw, ow + k, none⟩, 256 - k, was.drop k⟩] 2 wF ?_ hbk.lt (Nat.le_refl _) rfl (by decide) (by simp [glue]; omega)).mono ?_
        · intro j s hs
          rcases j with _ | _ | j
          · simp only [List.getElem?_cons_zero, Option.some.injEq] at hs
            subst hs
            refine ⟨?_, r1⟩
            rw [hbk.cell, show (is_.take k).length = k by rw [List.length_take]; omega]; rfl
          · simp only [Nat.zero_add, List.getElem?_cons_succ, List.getElem?_cons_zero, Option.some.injEq] at hs
            subst hs
            refine ⟨?_, r2⟩
            rw [hbk.cell, show (was.drop k).length = 256 - k by rw [List.length_drop]; omega]; rfl
          · simp at hs
        · rintro e w' ⟨v, rfl, hown, hb'⟩
          have e : glue [⟨some ⟨bi, oi, none⟩, 256, is_.take k⟩, ⟨some ⟨bw, ow + k, none⟩, 256 - k, was.drop k⟩] = L := by rw [HL.out]; simp [glue, tear]
          rw [e] at hown
          obtain ⟨_, A', c', rfl, hc1, _, hr⟩ := own_form hown
          exact ⟨_, rfl, ⟨A', c', rfl, hc1, hr⟩, hb'⟩
      go_wp2_with fail
      refine wp_region_flow [some 12, some 13, some 14, some 15, some 16, some 17, some 18, some 19, some 20, some 21] (fun i => ([.is (.slice (some ⟨bg, og, none⟩) 256 256), .is (.slice (some ⟨bi, oi, none⟩) 256 256), .is (.int .i64 (k : Int)), .is (.slice (some ⟨bi, oi, none⟩) k 256), .is (.slice (some ⟨bw, ow, none⟩) 256 256), .is (.int .i64 (k : Int)), .is (.slice (some ⟨bw, ow + k, none⟩) (256 - k) (256 - k)), rowF #[.slice (some ⟨bi, oi, none⟩) k 256, .slice (some ⟨bw, ow + k, none⟩) (256 - k) (256 - k)], bytF L, .is (.bool (decide (got = L)))] : List Flw).getD i .any) (by kernel_rfl) (by kernel_rfl) rfl ?_ ?_
      · skip
        refine ⟨step_free rfl (fun aF wF hs hb => ?_), ?_⟩
        · obtain ⟨x0, -⟩ := hs
          have e0 : aF.eval (.tmp 0) = .slice (some ⟨bg, og, none⟩) 256 256 := x0
          exact opC_move e0 ⟨rfl, below_same wF⟩
        refine ⟨step_free rfl (fun aF wF hs hb => ?_), ?_⟩
        · obtain ⟨x0, -⟩ := hs
          have e0 : aF.eval (.tmp 2) = .slice (some ⟨bi, oi, none⟩) 256 256 := x0
          exact opC_move e0 ⟨rfl, below_same wF⟩
        refine ⟨step_free rfl (fun aF wF hs hb => ?_), ?_⟩
        · obtain ⟨x0, -⟩ := hs
          have e0 : aF.eval (.tmp 7) = .int .i64 (k : Int) := x0
          exact opC_move e0 ⟨rfl, below_same wF⟩
        refine ⟨step_free rfl (fun aF wF hs hb => ?_), ?_⟩
        · obtain ⟨x0, x1, -⟩ := hs
          have e0 : aF.eval (.tmp 13) = .slice (some ⟨bi, oi, none⟩) 256 256 := x0
          have e1 : aF.eval (.tmp 14) = .int .i64 (k : Int) := x1
          refine opC_value (v := .slice (some ⟨bi, oi, none⟩) k 256) ?_ ⟨rfl, below_same wF⟩
          simp [execOp, go_sem, ev_of e0, ev_of e1, k0, k1]
        refine ⟨step_free rfl (fun aF wF hs hb => ?_), ?_⟩
        · obtain ⟨x0, -⟩ := hs
          have e0 : aF.eval (.tmp 1) = .slice (some ⟨bw, ow, none⟩) 256 256 := x0
          exact opC_move e0 ⟨rfl, below_same wF⟩
        refine ⟨step_free rfl (fun aF wF hs hb => ?_), ?_⟩
        · obtain ⟨x0, -⟩ := hs
          have e0 : aF.eval (.tmp 7) = .int .i64 (k : Int) := x0
          exact opC_move e0 ⟨rfl, below_same wF⟩
        refine ⟨step_free rfl (fun aF wF hs hb => ?_), ?_⟩
        · obtain ⟨x0, x1, -⟩ := hs
          have e0 : aF.eval (.tmp 16) = .slice (some ⟨bw, ow, none⟩) 256 256 := x0
          have e1 : aF.eval (.tmp 17) = .int .i64 (k : Int) := x1
          refine opC_value (v := .slice (some ⟨bw, ow + k, none⟩) (256 - k) (256 - k)) ?_ ⟨rfl, below_same wF⟩
          simp [execOp, go_sem, ev_of e0, ev_of e1, k0, k1, k2]
        refine ⟨step_free rfl (fun aF wF hs hb => ?_), ?_⟩
        · obtain ⟨x0, x1, -⟩ := hs
          have e0 : aF.eval (.tmp 15) = .slice (some ⟨bi, oi, none⟩) k 256 := x0
          have e1 : aF.eval (.tmp 18) = .slice (some ⟨bw, ow + k, none⟩) (256 - k) (256 - k) := x1
          exact opC_build2 e0 e1 ⟨⟨_, rfl, Blk.new _ _ _⟩, (Below.refl _ wF).alloc (Nat.le_refl _) _⟩
        refine ⟨step_free rfl (fun aF wF hs hb => ?_), ?_⟩
        · obtain ⟨x0, -⟩ := hs
          have y0 : (rowF #[.slice (some ⟨bi, oi, none⟩) k 256, .slice (some ⟨bw, ow + k, none⟩) (256 - k) (256 - k)]).p (aF.eval (.tmp 19)) wF := x0
          exact opC_callF (args := #[aF.eval (.tmp 19)]) (enters_ Try.func24 (by kernel_rfl) rfl) (by simp) (cJoin wF hb y0) (fun _ _ h1 h2 => ⟨h1, h2⟩)
        refine ⟨step_free rfl (fun aF wF hs hb => ?_), ?_⟩
        · obtain ⟨x0, x1, -⟩ := hs
          have e0 : aF.eval (.tmp 12) = .slice (some ⟨bg, og, none⟩) 256 256 := x0
          have y1 : (bytF L).p (aF.eval (.tmp 20)) wF := x1
          exact opC_call (args := #[.slice (some ⟨bg, og, none⟩) 256 256, aF.eval (.tmp 20)]) (enters_ Try.func14 (by kernel_rfl) rfl) (by simp [e0]) (cSame1 wF hb y1) (fun _ h => ⟨rfl, h⟩)
        exact trivial
      · intro fv w6 hf hb6
        have h9 : fv 9 = .bool (decide (got = L)) := hf 9 21 rfl
        clear hf
        simp only [putF, Act.put, List.setIfInBounds_toArray, List.set_cons_zero, List.set_cons_succ]
        have HB6 : Hid (Below w.heap.size w w6) := Lib.hid (HB.out.trans (hb6.mono HB.out.size))
        rw [h9]
        by_cases hgL : got = L
        · rw [decide_eq_true hgL]
          clear hgL h9 hb6
          go_wp2
          go_ret
          exact ⟨rfl, HB6.out⟩
        · rw [decide_eq_false hgL]
          have hkm : k < m := by
            rcases Nat.lt_or_ge k m with h | h
            · exact h
            · exfalso
              obtain rfl : m = k := by omega
              exact hgL (by rw [HE.out, HL.out])
          clear hgL h9 hb6
          go_wp2
          go_roundw
          case rel => exact ⟨k + 1, by omega, by go_num, HB6.out⟩
          case measure => simp [intOf]; omega
    · obtain rfl : k = 256 := by omega
      obtain rfl : m = 256 := by omega
      have hgL : got = L := by rw [HE.out, HL.out]
      have k0 : (0 : Int) ≤ 256 := by omega
      have k1 : True := trivial
      have k2 : True := trivial
      have cJoin : ∀ wF, Below wr.heap.size wr wF → ∀ {v : Value}, (rowF #[.slice (some ⟨bi, oi, none⟩) 256 256, .slice (some ⟨bw, ow, none⟩) 0 0]).p v wF → Calls Try.prog 24 #[v] wF (ToF (bytF L) wF) := by
        rintro wF hb v ⟨g, rfl, hbk⟩
        have hbw := HB.out.trans (hb.mono HB.out.size)
        have r1 : Rd wF wF.heap.size (some ⟨bi, oi, none⟩) is_ := (HI.out.below hbw).more hbw.size
        refine (Join_own g 0 2 wF.heap.size [⟨some ⟨bi, oi, none⟩, 256, is_⟩, ⟨some ⟨bw, ow, none⟩, 0, []⟩] 2 wF ?_ hbk.lt (Nat.le_refl _) rfl (by decide) (by simp [glue]; omega)).mono ?_
        · intro j s hs
          rcases j with _ | _ | j
          · simp only [List.getElem?_cons_zero, Option.some.injEq] at hs
            subst hs
            refine ⟨?_, r1⟩
            rw [hbk.cell, hil]; rfl
          · simp only [Nat.zero_add, List.getElem?_cons_succ, List.getElem?_cons_zero, Option.some.injEq] at hs
            subst hs
            exact ⟨by rw [hbk.cell]; rfl, Rd.nil_⟩
          · simp at hs
        · rintro e w' ⟨v, rfl, hown, hb'⟩
          have e : glue [⟨some ⟨bi, oi, none⟩, 256, is_⟩, ⟨some ⟨bw, ow, none⟩, 0, []⟩] = L := by rw [HL.out, tear_all _ _ hil hwl]; simp [glue]
          rw [e] at hown
          obtain ⟨_, A', c', rfl, hc1, _, hr⟩ := own_form hown
          exact ⟨_, rfl, ⟨A', c', rfl, hc1, hr⟩, hb'⟩
      go_wp2_with fail
      refine wp_region_flow [some 12, some 13, some 14, some 15, some 16, some 17, some 18, some 19, some 20, some 21] (fun i => ([.is (.slice (some ⟨bg, og, none⟩) 256 256), .is (.slice (some ⟨bi, oi, none⟩) 256 256), .is (.int .i64 256), .is (.slice (some ⟨bi, oi, none⟩) 256 256), .is (.slice (some ⟨bw, ow, none⟩) 256 256), .is (.int .i64 256), .is (.slice (some ⟨bw, ow, none⟩) 0 0), rowF #[.slice (some ⟨bi, oi, none⟩) 256 256, .slice (some ⟨bw, ow, none⟩) 0 0], bytF L, .is (.bool (decide (got = L)))] : List Flw).getD i .any) (by kernel_rfl) (by kernel_rfl) rfl ?_ ?_
      · skip
        refine ⟨step_free rfl (fun aF wF hs hb => ?_), ?_⟩
        · obtain ⟨x0, -⟩ := hs
          have e0 : aF.eval (.tmp 0) = .slice (some ⟨bg, og, none⟩) 256 256 := x0
          exact opC_move e0 ⟨rfl, below_same wF⟩
        refine ⟨step_free rfl (fun aF wF hs hb => ?_), ?_⟩
        · obtain ⟨x0, -⟩ := hs
          have e0 : aF.eval (.tmp 2) = .slice (some ⟨bi, oi, none⟩) 256 256 := x0
          exact opC_move e0 ⟨rfl, below_same wF⟩
        refine ⟨step_free rfl (fun aF wF hs hb => ?_), ?_⟩
        · obtain ⟨x0, -⟩ := hs
          have e0 : aF.eval (.tmp 7) = .int .i64 256 := x0
          exact opC_move e0 ⟨rfl, below_same wF⟩
        refine ⟨step_free rfl (fun aF wF hs hb => ?_), ?_⟩
        · obtain ⟨x0, x1, -⟩ := hs
          have e0 : aF.eval (.tmp 13) = .slice (some ⟨bi, oi, none⟩) 256 256 := x0
          have e1 : aF.eval (.tmp 14) = .int .i64 256 := x1
          refine opC_value (v := .slice (some ⟨bi, oi, none⟩) 256 256) ?_ ⟨rfl, below_same wF⟩
          simp [execOp, go_sem, ev_of e0, ev_of e1, k0, k1]
        refine ⟨step_free rfl (fun aF wF hs hb => ?_), ?_⟩
        · obtain ⟨x0, -⟩ := hs
          have e0 : aF.eval (.tmp 1) = .slice (some ⟨bw, ow, none⟩) 256 256 := x0
          exact opC_move e0 ⟨rfl, below_same wF⟩
        refine ⟨step_free rfl (fun aF wF hs hb => ?_), ?_⟩
        · obtain ⟨x0, -⟩ := hs
          have e0 : aF.eval (.tmp 7) = .int .i64 256 := x0
          exact opC_move e0 ⟨rfl, below_same wF⟩
        refine ⟨step_free rfl (fun aF wF hs hb => ?_), ?_⟩
        · obtain ⟨x0, x1, -⟩ := hs
          have e0 : aF.eval (.tmp 16) = .slice (some ⟨bw, ow, none⟩) 256 256 := x0
          have e1 : aF.eval (.tmp 17) = .int .i64 256 := x1
          refine opC_value (v := .slice (some ⟨bw, ow, none⟩) 0 0) ?_ ⟨rfl, below_same wF⟩
          simp [execOp, go_sem, ev_of e0, ev_of e1, k0, k1, k2]
        refine ⟨step_free rfl (fun aF wF hs hb => ?_), ?_⟩
        · obtain ⟨x0, x1, -⟩ := hs
          have e0 : aF.eval (.tmp 15) = .slice (some ⟨bi, oi, none⟩) 256 256 := x0
          have e1 : aF.eval (.tmp 18) = .slice (some ⟨bw, ow, none⟩) 0 0 := x1
          exact opC_build2 e0 e1 ⟨⟨_, rfl, Blk.new _ _ _⟩, (Below.refl _ wF).alloc (Nat.le_refl _) _⟩
        refine ⟨step_free rfl (fun aF wF hs hb => ?_), ?_⟩
        · obtain ⟨x0, -⟩ := hs
          have y0 : (rowF #[.slice (some ⟨bi, oi, none⟩) 256 256, .slice (some ⟨bw, ow, none⟩) 0 0]).p (aF.eval (.tmp 19)) wF := x0
          exact opC_callF (args := #[aF.eval (.tmp 19)]) (enters_ Try.func24 (by kernel_rfl) rfl) (by simp) (cJoin wF hb y0) (fun _ _ h1 h2 => ⟨h1, h2⟩)
        refine ⟨step_free rfl (fun aF wF hs hb => ?_), ?_⟩
        · obtain ⟨x0, x1, -⟩ := hs
          have e0 : aF.eval (.tmp 12) = .slice (some ⟨bg, og, none⟩) 256 256 := x0
          have y1 : (bytF L).p (aF.eval (.tmp 20)) wF := x1
          exact opC_call (args := #[.slice (some ⟨bg, og, none⟩) 256 256, aF.eval (.tmp 20)]) (enters_ Try.func14 (by kernel_rfl) rfl) (by simp [e0]) (cSame1 wF hb y1) (fun _ h => ⟨rfl, h⟩)
        exact trivial
      · intro fv w6 hf hb6
        have h9 : fv 9 = .bool (decide (got = L)) := hf 9 21 rfl
        clear hf
        simp only [putF, Act.put, List.setIfInBounds_toArray, List.set_cons_zero, List.set_cons_succ]
        have HB6 : Hid (Below w.heap.size w w6) := Lib.hid (HB.out.trans (hb6.mono HB.out.size))
        rw [h9, decide_eq_true hgL]
        clear hgL h9 hb6
        go_wp2
        go_ret
        exact ⟨rfl, HB6.out⟩
end Go.Proofs.Ytoiiemjaecfnhaa
