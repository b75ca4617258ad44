/-
  like: is a drum the document's? Conditions: both are there, and alike.
-/
import Derived.Test.YthljcekodlbplaaDoorDPB
import Derived.Test.YthljcekodlbplaaDoorDPC
import Derived.Test.YthljcekodlbplaaDoorDrumN
namespace Go.Proofs.YthljcekodlbplaaDoor
open Go.ChangeShapes Go.WideShapes Go.ChangeAt Go.RowKit

def zeF : Flw := ⟨fun v w => ∃ g, v = .slice (some ⟨g, 0, none⟩) 256 256 ∧ Blk w g 5 (zeros.map enc8).toArray, fun ⟨g, h1, h2⟩ hb => ⟨g, h1, h2.below hb h2.lt⟩⟩
theorem mkZ (u : World) : (Instr.makeSlice 31 (.int .i64 256) (.int .i64 256)).run Tryd.prog u = .ok (.slice (some ⟨u.heap.size, 0, none⟩) 256 256) (u.alloc (.cells (zeros.map enc8).toArray 5)) := by
  kernel_rfl
theorem opC_make9 {dst : Option Tmp} {ty : TypeId} {pos : String} {af : Array Edge} {gd : Option (Nat × Bool)} {a : Act} {w : World} {K : Value → World → Prop}
    (hk : K (.slice (some ⟨w.heap.size, 0, none⟩) 256 256) (w.alloc (.cells (zeros.map enc8).toArray 5))) : opC Tryd.prog ⟨dst, .makeSlice 31 (.const (.int .i64 256)) (.const (.int .i64 256)), ty, pos, af, gd⟩ a w K := by
  constructor
  rw [show (execOp a.eval ⟨dst, .makeSlice 31 (.const (.int .i64 256)) (.const (.int .i64 256)), ty, pos, af, gd⟩).run Tryd.prog w = .ok (.value (.slice (some ⟨w.heap.size, 0, none⟩) 256 256)) (w.alloc (.cells (zeros.map enc8).toArray 5)) by
    simp [execOp, Act.eval, mkZ, Result.andThen]]
  exact hk
set_option maxRecDepth 100000 in
set_option maxHeartbeats 4000000 in
theorem like_any {w : World} {base d x : Nat} {o : Nat → Prop} {fl : List (List UInt8)} {ws : List (Nat × List UInt8)} {left : Int} {AF AD : Option Addr} {cF nD cD : Nat} {v2 : Value} {gs : List Seg} {ds : List (Int × Seg)} (h : Dr w base d o fl ws left) (hx : Blk w x 53 #[.slice AF gs.length cF, .slice AD nD cD, v2]) (hF : Rs segT w w.heap.size AF gs) (hD : Rs deedT w w.heap.size AD ds) (hnD : ds.length = nD) (hm : gs.length ≤ 100000) (hm2 : nD ≤ 100000) (hlen : fl.length = gs.length) (hws : ws.length = (waS ds).length)
    (hnow : ∀ (i : Nat) (hi : i < gs.length), now fl ws i = (rdS i gs[i] ds).l) (hrd : ∀ (i : Nat) (hi : i < gs.length), Rd w w.heap.size (rdS i gs[i] ds).at_ (rdS i gs[i] ds).l) :
    Calls Tryd.prog 11 #[.pointer (some ⟨d, 0, none⟩), .pointer (some ⟨x, 0, none⟩)] w fun e w' => e = .returned (.bool true) ∧ Below w.heap.size w w' := by
  subst hnD
  have cSz : ∀ W', Below w.heap.size w W' → Calls Tryd.prog 27 #[.pointer (some ⟨d, 0, none⟩)] W' fun e w' => e = .returned (.int .i64 (gs.length : Int)) ∧ Below W'.heap.size W' w' := fun W' hb => (Size_dr (h.below hb)).mono fun e w' hp => by
    obtain ⟨rfl, rfl⟩ := hp
    exact ⟨by rw [hlen], below_same _⟩
  have cDt : ∀ W', Below w.heap.size w W' → Calls Tryd.prog 28 #[.pointer (some ⟨d, 0, none⟩)] W' fun e w' => e = .returned (.int .i64 (ws.length : Int)) ∧ Below W'.heap.size W' w' := fun W' hb => (Dirty_dr (h.below hb)).mono fun e w' hp => by
    obtain ⟨rfl, rfl⟩ := hp
    exact ⟨rfl, below_same _⟩
  have HX : ∀ W', Below w.heap.size w W' → Blk W' x 53 #[.slice AF gs.length cF, .slice AD ds.length cD, v2] := fun W' hb => hx.below hb hx.lt
  have HFW : ∀ W', Below w.heap.size w W' → Rs segT W' W'.heap.size AF gs := fun W' hb => (hF.below hb).more hb.size
  have HDW : ∀ W', Below w.heap.size w W' → Rs deedT W' W'.heap.size AD ds := fun W' hb => (hD.below hb).more hb.size
  have cWt : ∀ W', Below w.heap.size w W' → Calls Tryd.prog 22 #[.pointer (some ⟨x, 0, none⟩)] W' (ToF (lenF ws.length) W') := fun W' hb => by
    rw [hws]
    exact cWaits W' (HX W' hb) (HDW W' hb) hm2
  have L0 : ∀ W', Below w.heap.size w W' → (Instr.loadAt 50 (.pointer (some ⟨x, 0, none⟩))).run Tryd.prog W' = .ok (.slice AF gs.length cF) W' := fun W' hb => by
    have c0 := (HX W' hb).cell 0
    simp at c0
    go_simp
  have HH := Lib.hid h
  have HXX := Lib.hid HX
  have HFF := Lib.hid HFW
  have HDD := Lib.hid HDW
  have HNOW := Lib.hid hnow
  have HRD := Lib.hid hrd
  have HLEN := Lib.hid hlen
  clear h hx hF hD hnow hrd hlen hws HFW HDW HX
  go_enter Tryd.func11, Tryd.ntmps11
  go_wp2_with fail
  refine wp_region_flow [some 9, some 10, some 11, some 12, some 13, some 14, some 15, some 16, some 17, some 18, some 19, some 20, some 21, some 22, some 23, some 24] (fun i => ([.is (.pointer (some ⟨d, 0, none⟩)), .is (.int .i64 (gs.length : Int)), .is (.pointer (some ⟨x, 0, none⟩)), .is (.pointer (some ⟨x, 0, none⟩)), .is (.pointer (some ⟨x, 0, none⟩)), .is (.slice AF gs.length cF), .is (.int .i64 (gs.length : Int)), .is (.bool false), .is (.bool false), .is (.pointer (some ⟨d, 0, none⟩)), .is (.int .i64 (ws.length : Int)), .is (.pointer (some ⟨x, 0, none⟩)), lenF ws.length, .is (.int .i64 (ws.length : Int)), .is (.bool false), .is (.bool false)] : List Flw).getD i .any) (by kernel_rfl) (by kernel_rfl) rfl ?_ ?_
  · refine ⟨step_free rfl (fun aF wF hs hb => ?_), ?_⟩
    · obtain ⟨x0, -⟩ := hs
      have e0 : aF.eval (.tmp 0) = .pointer (some ⟨d, 0, none⟩) := x0
      exact opC_move e0 ⟨rfl, below_same wF⟩
    refine ⟨step_free rfl (fun aF wF hs hb => ?_), ?_⟩
    · obtain ⟨x0, -⟩ := hs
      have e0 : aF.eval (.tmp 9) = .pointer (some ⟨d, 0, none⟩) := x0
      exact opC_call (args := #[.pointer (some ⟨d, 0, none⟩)]) (enters9 Tryd.func27 (by kernel_rfl) rfl) (by simp [e0]) (cSz wF hb) (fun _ h => ⟨rfl, h⟩)
    refine ⟨step_free rfl (fun aF wF hs hb => ?_), ?_⟩
    · obtain ⟨x0, -⟩ := hs
      have e0 : aF.eval (.tmp 1) = .pointer (some ⟨x, 0, none⟩) := x0
      exact opC_move e0 ⟨rfl, below_same wF⟩
    refine ⟨step_free rfl (fun aF wF hs hb => ?_), ?_⟩
    · obtain ⟨x0, -⟩ := hs
      have e0 : aF.eval (.tmp 11) = .pointer (some ⟨x, 0, none⟩) := x0
      refine opC_value (v := .pointer (some ⟨x, 0, none⟩)) ?_ ⟨rfl, below_same wF⟩
      have t0 := ev_of e0
      simp [execOp, go_sem, t0]
    refine ⟨step_free rfl (fun aF wF hs hb => ?_), ?_⟩
    · obtain ⟨x0, -⟩ := hs
      have e0 : aF.eval (.tmp 12) = .pointer (some ⟨x, 0, none⟩) := x0
      refine opC_value (v := .pointer (some ⟨x, 0, none⟩)) ?_ ⟨rfl, below_same wF⟩
      have t0 := ev_of e0
      simp [execOp, go_sem, t0]
    refine ⟨step_free rfl (fun aF wF hs hb => ?_), ?_⟩
    · obtain ⟨x0, -⟩ := hs
      have e0 : aF.eval (.tmp 13) = .pointer (some ⟨x, 0, none⟩) := x0
      exact opC_load e0 (L0 wF hb) ⟨rfl, below_same wF⟩
    refine ⟨step_free rfl (fun aF wF hs hb => ?_), ?_⟩
    · obtain ⟨x0, -⟩ := hs
      have e0 : aF.eval (.tmp 14) = .slice AF gs.length cF := x0
      refine opC_value (v := .int .i64 (gs.length : Int)) ?_ ⟨rfl, below_same wF⟩
      have t0 := ev_of e0
      simp [execOp, go_sem, t0]
    refine ⟨step_free rfl (fun aF wF hs hb => ?_), ?_⟩
    · obtain ⟨x0, x1, -⟩ := hs
      have e0 : aF.eval (.tmp 10) = .int .i64 (gs.length : Int) := x0
      have e1 : aF.eval (.tmp 15) = .int .i64 (gs.length : Int) := x1
      refine opC_value (v := .bool false) ?_ ⟨rfl, below_same wF⟩
      have t0 := ev_of e0
      have t1 := ev_of e1
      simp [execOp, go_sem, t0, t1]
    refine ⟨step_free rfl (fun aF wF hs hb => ?_), ?_⟩
    · obtain ⟨x0, -⟩ := hs
      have e0 : aF.eval (.tmp 16) = .bool false := x0
      exact opC_move e0 ⟨rfl, below_same wF⟩
    refine ⟨step_yes 8 17 rfl rfl (fun _ _ h => h) (fun aF wF hs hb => ?_), ?_⟩
    · obtain ⟨x0, -⟩ := hs
      have e0 : aF.eval (.tmp 0) = .pointer (some ⟨d, 0, none⟩) := x0
      exact opC_move e0 ⟨rfl, below_same wF⟩
    refine ⟨step_yes 8 17 rfl rfl (fun _ _ h => h) (fun aF wF hs hb => ?_), ?_⟩
    · obtain ⟨x0, -⟩ := hs
      have e0 : aF.eval (.tmp 18) = .pointer (some ⟨d, 0, none⟩) := x0
      exact opC_call (args := #[.pointer (some ⟨d, 0, none⟩)]) (enters9 Tryd.func28 (by kernel_rfl) rfl) (by simp [e0]) (cDt wF hb) (fun _ h => ⟨rfl, h⟩)
    refine ⟨step_yes 8 17 rfl rfl (fun _ _ h => h) (fun aF wF hs hb => ?_), ?_⟩
    · obtain ⟨x0, -⟩ := hs
      have e0 : aF.eval (.tmp 1) = .pointer (some ⟨x, 0, none⟩) := x0
      exact opC_move e0 ⟨rfl, below_same wF⟩
    refine ⟨step_yes 8 17 rfl rfl (fun _ _ h => h) (fun aF wF hs hb => ?_), ?_⟩
    · obtain ⟨x0, -⟩ := hs
      have e0 : aF.eval (.tmp 20) = .pointer (some ⟨x, 0, none⟩) := x0
      exact opC_callF (args := #[.pointer (some ⟨x, 0, none⟩)]) (enters9 Tryd.func22 (by kernel_rfl) rfl) (by simp [e0]) (cWt wF hb) (fun _ _ h1 h2 => ⟨h1, h2⟩)
    refine ⟨step_yes 8 17 rfl rfl (fun _ _ h => h) (fun aF wF hs hb => ?_), ?_⟩
    · obtain ⟨x0, -⟩ := hs
      obtain ⟨A9, c9, e0⟩ : (lenF ws.length).p (aF.eval (.tmp 21)) wF := x0
      refine opC_value (v := .int .i64 (ws.length : Int)) ?_ ⟨rfl, below_same wF⟩
      have t0 := ev_of e0
      simp [execOp, go_sem, t0]
    refine ⟨step_yes 8 17 rfl rfl (fun _ _ h => h) (fun aF wF hs hb => ?_), ?_⟩
    · obtain ⟨x0, x1, -⟩ := hs
      have e0 : aF.eval (.tmp 19) = .int .i64 (ws.length : Int) := x0
      have e1 : aF.eval (.tmp 22) = .int .i64 (ws.length : Int) := x1
      refine opC_value (v := .bool false) ?_ ⟨rfl, below_same wF⟩
      have t0 := ev_of e0
      have t1 := ev_of e1
      simp [execOp, go_sem, t0, t1]
    refine ⟨step_free rfl (fun aF wF hs hb => ?_), ?_⟩
    · obtain ⟨x0, x1, -⟩ := hs
      have e0 : aF.eval (.tmp 17) = .bool false := x0
      have e1 : aF.eval (.tmp 23) = .bool false := x1
      refine opC_value (v := .bool false) ?_ ⟨rfl, below_same wF⟩
      have t0 := ev_of e0
      have t1 := ev_of e1
      simp [execOp, go_sem, t0, t1]
    exact trivial
  · intro f w1 hf hb1
    have h9 : f 15 = .bool false := hf 15 24 rfl
    simp only [putF, Act.put, List.setIfInBounds_toArray, List.set_cons_zero, List.set_cons_succ]
    rw [h9]
    have c0 := (HXX.out w1 hb1).cell 0
    simp at c0
    have HBW := Lib.hid hb1
    clear hf h9 hb1 L0 cSz cDt cWt
    go_wp2_with fail
    go_loopw [30] (fun j wr => ∃ (k : Nat), k ≤ gs.length ∧ j = .int .i64 k ∧ Hid (Below w.heap.size w wr)) (fun j _ => gs.length - (intOf j).toNat)
    case atStart => exact ⟨0, Nat.zero_le _, rfl, HBW⟩
    case round =>
      obtain ⟨ix, hk, rfl, HB⟩ := hrel
      clear HBW c0
      by_cases hlt : ix < gs.length
      · have HRead := Lib.hid (Read_dr (HH.out.below HB.out) ix (by rw [HLEN.out]; exact hlt))
        go_wp2_with fail
        refine HRead.out.mono ?_
        rintro e w2 ⟨rfl, hkp, hb2⟩
        obtain ⟨gp, hgp⟩ : ∃ g, wr.heap.size = g := ⟨_, rfl⟩
        rw [hgp] at hkp ⊢
        have HKP := Lib.hid hkp
        have HB2 := Lib.hid (HB.out.trans (hb2.mono HB.out.size))
        have HGP := Lib.hid hgp
        have HRR := Lib.hid (RRead_any ix gs ds (HXX.out w2 HB2.out) (HFF.out w2 HB2.out) rfl (HDD.out w2 HB2.out) rfl hlt hm hm2)
        clear hkp hb2 hgp HB HRead
        go_wp2_with fail
        refine HRR.out.mono ?_
        rintro e w3 ⟨rfl, hb3⟩
        obtain ⟨s, hs⟩ : ∃ s, rdS ix gs[ix] ds = s := ⟨_, rfl⟩
        have hn9 := HNOW.out ix hlt
        have hr9 := HRD.out ix hlt
        have hln := (HH.out).now_len ix (by rw [HLEN.out]; exact hlt)
        rw [hs] at hn9 hr9 ⊢
        rw [hn9] at hln
        have HB3 := Lib.hid (HB2.out.trans (hb3.mono HB2.out.size))
        have HKP3 := Lib.hid (HKP.out.below hb3 HKP.out.lt)
        rw [hn9] at HKP3
        obtain ⟨bb, hbb⟩ : ∃ b, decide (s.l = zeros) = b := ⟨_, rfl⟩
        unfold Seg.val
        rw [hln]
        obtain ⟨As, hAs⟩ : ∃ A, s.at_ = A := ⟨_, rfl⟩
        obtain ⟨cs, hcs⟩ : ∃ c, s.cap = c := ⟨_, rfl⟩
        obtain ⟨S, hS⟩ : ∃ S, s.l = S := ⟨_, rfl⟩
        rw [hAs, hcs]
        rw [hAs, hS] at hr9
        rw [hS] at HKP3 hbb hn9 hln
        have hrw : ∀ W', Below w3.heap.size w3 W' → Rd W' W'.heap.size As S := fun W' hb => by
          have h1 := HB3.out.trans (hb.mono HB3.out.size)
          exact (hr9.below h1).more h1.size
        have cS1 : ∀ W', Below w3.heap.size w3 W' → Calls Tryd.prog 30 #[.slice (some ⟨gp, 0, none⟩) 256 256, .slice As 256 cs] W' fun e w' => e = .returned (.bool true) ∧ Below W'.heap.size W' w' := fun W' hb => by
          have hk := HKP3.out.below hb HKP3.out.lt
          have hSm := Same_any (some ⟨gp, 0, none⟩) As 256 256 W'.heap.size 256 cs W'.heap.size S S W' (blk_rd hk hk.lt) hln (by decide) (hrw W' hb) hln (by decide)
          rw [decide_eq_true rfl] at hSm
          exact hSm.mono fun e w' h => below_all h
        have cCl : ∀ W', Below w3.heap.size w3 W' → Calls Tryd.prog 31 #[.pointer (some ⟨d, 0, none⟩), .int .i64 (ix : Int)] W' fun e w' => e = .returned (.bool bb) ∧ Below W'.heap.size W' w' := fun W' hb => by
          have h1 := HB3.out.trans (hb.mono HB3.out.size)
          refine (Clean_dr (HH.out.below h1) ix (by rw [HLEN.out]; exact hlt)).mono fun e w' hp => ?_
          obtain ⟨rfl, rfl⟩ := hp
          exact ⟨by rw [hn9, hbb], below_same _⟩
        have cS2 : ∀ W', Below w3.heap.size w3 W' → ∀ {v : Value}, zeF.p v W' → Calls Tryd.prog 30 #[.slice As 256 cs, v] W' fun e w' => e = .returned (.bool bb) ∧ Below W'.heap.size W' w' := fun W' hb v hv => by
          obtain ⟨gz, rfl, hz⟩ := hv
          have hSm := Same_any As (some ⟨gz, 0, none⟩) 256 cs W'.heap.size 256 256 W'.heap.size S zeros W' (hrw W' hb) hln (by decide) (blk_rd hz hz.lt) rfl (by decide)
          rw [hbb] at hSm
          exact hSm.mono fun e w' h => below_all h
        clear hb3 HKP HB2 HGP HRR hs hn9 hr9 hAs hcs hS hbb hrw hln HKP3
        go_wp2_with fail
        refine wp_region_flow [some 42, some 43, some 44, some 45, some 46, some 47, some 48, some 49, some 50, some 51, some 52, some 53, some 54, some 55, some 56, some 57, some 58] (fun i => ([.is (.nilIface), .is (.bool false), .is (.bool false), .is (.slice (some ⟨gp, 0, none⟩) 256 256), .is (.slice As 256 cs), .is (.bool true), .is (.bool false), .is (.bool false), .is (.bool false), .is (.pointer (some ⟨d, 0, none⟩)), .is (.int .i64 (ix : Int)), .is (.bool bb), .is (.slice As 256 cs), zeF, .is (.bool bb), .is (.bool false), .is (.bool false)] : List Flw).getD i .any) (by kernel_rfl) (by kernel_rfl) rfl ?_ ?_
        · refine ⟨step_free rfl (fun aF wF hs hb => ?_), ?_⟩
          · obtain ⟨x0, -⟩ := hs
            have e0 : aF.eval (.tmp 7) = .nilIface := x0
            exact opC_move e0 ⟨rfl, below_same wF⟩
          refine ⟨step_free rfl (fun aF wF hs hb => ?_), ?_⟩
          · obtain ⟨x0, -⟩ := hs
            have e0 : aF.eval (.tmp 42) = .nilIface := x0
            refine opC_value (v := .bool false) ?_ ⟨rfl, below_same wF⟩
            have t0 := ev_of e0
            simp [execOp, go_sem, t0]
          refine ⟨step_free rfl (fun aF wF hs hb => ?_), ?_⟩
          · obtain ⟨x0, -⟩ := hs
            have e0 : aF.eval (.tmp 43) = .bool false := x0
            exact opC_move e0 ⟨rfl, below_same wF⟩
          refine ⟨step_yes 2 44 rfl rfl (fun _ _ h => h) (fun aF wF hs hb => ?_), ?_⟩
          · obtain ⟨x0, -⟩ := hs
            have e0 : aF.eval (.tmp 6) = .slice (some ⟨gp, 0, none⟩) 256 256 := x0
            exact opC_move e0 ⟨rfl, below_same wF⟩
          refine ⟨step_yes 2 44 rfl rfl (fun _ _ h => h) (fun aF wF hs hb => ?_), ?_⟩
          · obtain ⟨x0, -⟩ := hs
            have e0 : aF.eval (.tmp 8) = .slice As 256 cs := x0
            exact opC_move e0 ⟨rfl, below_same wF⟩
          refine ⟨step_yes 2 44 rfl rfl (fun _ _ h => h) (fun aF wF hs hb => ?_), ?_⟩
          · obtain ⟨x0, x1, -⟩ := hs
            have e0 : aF.eval (.tmp 45) = .slice (some ⟨gp, 0, none⟩) 256 256 := x0
            have e1 : aF.eval (.tmp 46) = .slice As 256 cs := x1
            exact opC_call (args := #[.slice (some ⟨gp, 0, none⟩) 256 256, .slice As 256 cs]) (enters9 Tryd.func30 (by kernel_rfl) rfl) (by simp [e0, e1]) (cS1 wF hb) (fun _ h => ⟨rfl, h⟩)
          refine ⟨step_yes 2 44 rfl rfl (fun _ _ h => h) (fun aF wF hs hb => ?_), ?_⟩
          · obtain ⟨x0, -⟩ := hs
            have e0 : aF.eval (.tmp 47) = .bool true := x0
            refine opC_value (v := .bool false) ?_ ⟨rfl, below_same wF⟩
            have t0 := ev_of e0
            simp [execOp, go_sem, t0]
          refine ⟨step_free rfl (fun aF wF hs hb => ?_), ?_⟩
          · obtain ⟨x0, x1, -⟩ := hs
            have e0 : aF.eval (.tmp 44) = .bool false := x0
            have e1 : aF.eval (.tmp 48) = .bool false := x1
            refine opC_value (v := .bool false) ?_ ⟨rfl, below_same wF⟩
            have t0 := ev_of e0
            have t1 := ev_of e1
            simp [execOp, go_sem, t0, t1]
          refine ⟨step_free rfl (fun aF wF hs hb => ?_), ?_⟩
          · obtain ⟨x0, -⟩ := hs
            have e0 : aF.eval (.tmp 49) = .bool false := x0
            exact opC_move e0 ⟨rfl, below_same wF⟩
          refine ⟨step_yes 8 50 rfl rfl (fun _ _ h => h) (fun aF wF hs hb => ?_), ?_⟩
          · obtain ⟨x0, -⟩ := hs
            have e0 : aF.eval (.tmp 0) = .pointer (some ⟨d, 0, none⟩) := x0
            exact opC_move e0 ⟨rfl, below_same wF⟩
          refine ⟨step_yes 8 50 rfl rfl (fun _ _ h => h) (fun aF wF hs hb => ?_), ?_⟩
          · obtain ⟨x0, -⟩ := hs
            have e0 : aF.eval (.tmp 5) = .int .i64 (ix : Int) := x0
            exact opC_move e0 ⟨rfl, below_same wF⟩
          refine ⟨step_yes 8 50 rfl rfl (fun _ _ h => h) (fun aF wF hs hb => ?_), ?_⟩
          · obtain ⟨x0, x1, -⟩ := hs
            have e0 : aF.eval (.tmp 51) = .pointer (some ⟨d, 0, none⟩) := x0
            have e1 : aF.eval (.tmp 52) = .int .i64 (ix : Int) := x1
            exact opC_call (args := #[.pointer (some ⟨d, 0, none⟩), .int .i64 (ix : Int)]) (enters9 Tryd.func31 (by kernel_rfl) rfl) (by simp [e0, e1]) (cCl wF hb) (fun _ h => ⟨rfl, h⟩)
          refine ⟨step_yes 8 50 rfl rfl (fun _ _ h => h) (fun aF wF hs hb => ?_), ?_⟩
          · obtain ⟨x0, -⟩ := hs
            have e0 : aF.eval (.tmp 8) = .slice As 256 cs := x0
            exact opC_move e0 ⟨rfl, below_same wF⟩
          refine ⟨step_yes 8 50 rfl rfl (fun _ _ h => h) (fun aF wF hs hb => ?_), ?_⟩
          · exact opC_make9 ⟨⟨_, rfl, Blk.new _ _ _⟩, (Below.refl _ wF).alloc (Nat.le_refl _) _⟩
          refine ⟨step_yes 8 50 rfl rfl (fun _ _ h => h) (fun aF wF hs hb => ?_), ?_⟩
          · obtain ⟨x0, x1, -⟩ := hs
            have e0 : aF.eval (.tmp 54) = .slice As 256 cs := x0
            have y1 : (zeF).p (aF.eval (.tmp 55)) wF := x1
            exact opC_call (args := #[.slice As 256 cs, aF.eval (.tmp 55)]) (enters9 Tryd.func30 (by kernel_rfl) rfl) (by simp [e0]) (cS2 wF hb y1) (fun _ h => ⟨rfl, h⟩)
          refine ⟨step_yes 8 50 rfl rfl (fun _ _ h => h) (fun aF wF hs hb => ?_), ?_⟩
          · obtain ⟨x0, x1, -⟩ := hs
            have e0 : aF.eval (.tmp 53) = .bool bb := x0
            have e1 : aF.eval (.tmp 56) = .bool bb := x1
            refine opC_value (v := .bool false) ?_ ⟨rfl, below_same wF⟩
            simp [execOp, go_sem, ev_of e0, ev_of e1]
          refine ⟨step_free rfl (fun aF wF hs hb => ?_), ?_⟩
          · obtain ⟨x0, x1, -⟩ := hs
            have e0 : aF.eval (.tmp 50) = .bool false := x0
            have e1 : aF.eval (.tmp 57) = .bool false := x1
            refine opC_value (v := .bool false) ?_ ⟨rfl, below_same wF⟩
            have t0 := ev_of e0
            have t1 := ev_of e1
            simp [execOp, go_sem, t0, t1]
          exact trivial
        · intro f8 w6 hf hb6
          have h9 : f8 16 = .bool false := hf 16 58 rfl
          simp only [putF, Act.put, List.setIfInBounds_toArray, List.set_cons_zero, List.set_cons_succ]
          rw [h9]
          have HB6 := Lib.hid (HB3.out.trans (hb6.mono HB3.out.size))
          clear hf h9 hb6 cS1 cCl cS2 HB3
          go_wp2_with fail
          refine ⟨?_, ?measure⟩
          (repeat apply Exists.intro)
          refine ⟨?rel, rfl⟩
          case rel => exact ⟨ix + 1, by omega, by go_num, HB6⟩
          case measure => simp [intOf]; omega
      · obtain rfl : ix = gs.length := by omega
        go_wp2_with fail
        go_ret
        exact ⟨rfl, HB.out⟩
end Go.Proofs.YthljcekodlbplaaDoor
