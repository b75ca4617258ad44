/-
The reference's Same: two lists of records. Conditions: the rows are there, and not too long.
-/
import Derived.Test.YtbaenpgjggojaaaRlSgZ9
import Derived.Test.YtbaenpgjggojaaaRowsBZ9
import Derived.Test.YtbaenpgjggojaaaSameRZ9
namespace Go.Proofs.Ytbaenpgjggojaaa
open Go.ChangeShapes Go.WideShapes Go.RowKit

/-- What a list of records reads as. -/
def Lst (w : World) (A : Option Addr) (n c : Nat) (rs : List Rw) : Prop := rs.length = n ∧ n ≤ c ∧ c ≤ maxLen ∧ Cs w w.heap.size A (rs.map Rw.val) ∧ RwsIn w w.heap.size rs
def lsOf (rs : List Rw) : List (List UInt8) := rs.map (·.l)
section
variable {w w' : World} {A A1 A2 : Option Addr} {n c n1 c1 n2 c2 : Nat} {rs rs1 rs2 : List Rw}
theorem Lst.below (h : Lst w A n c rs) (hb : Below w.heap.size w w') : Lst w' A n c rs := by
  obtain ⟨h1, h2, h3, h4, h5⟩ := h
  refine ⟨h1, h2, h3, fun h0 => ?_, fun r hr => ?_⟩
  · obtain ⟨b, o, e, hlt, hc⟩ := h4.below hb h0
    exact ⟨b, o, e, Nat.lt_of_lt_of_le hlt hb.size, hc⟩
  · obtain ⟨k1, k2, k3⟩ := h5 r hr
    exact ⟨k1, k2, (k3.below hb).more hb.size⟩
theorem Lst.at_ (h : Lst w A n c rs) {k : Nat} (hk : k < n) : ∃ b o r, A = some ⟨b, o, none⟩ ∧ rs[k]? = some r ∧ w.cell? ⟨b, o + k, none⟩ = some (.slice r.A r.l.length r.c) ∧ Rd w w.heap.size r.A r.l := by
  obtain ⟨h1, h2, h3, h4, h5⟩ := h
  obtain ⟨b, o, e, -, hc⟩ := h4 (by rw [List.length_map]; omega)
  have hr := List.getElem?_eq_getElem (show k < rs.length by omega)
  exact ⟨b, o, rs[k], e, hr, hc k _ (by rw [List.getElem?_map, hr]; rfl), (h5 _ (List.getElem_mem _)).2.2⟩
set_option maxRecDepth 20000 in
set_option maxHeartbeats 4000000 in
theorem RSame_any (h1 : Lst w A1 n1 c1 rs1) (h2 : Lst w A2 n2 c2 rs2) (hm1 : n1 ≤ 1000000) (hm2 : n2 ≤ 1000000) (hl1 : ∀ r ∈ rs1, r.l.length ≤ 1000000) (hl2 : ∀ r ∈ rs2, r.l.length ≤ 1000000) :
    Calls Try.prog 22 #[.slice A1 n1 c1, .slice A2 n2 c2] w fun e w' => e = .returned (.bool (decide (lsOf rs1 = lsOf rs2))) ∧ Below w.heap.size w w' := by
  have hb1 : (n1 : Int) ≤ 1000000 := by omega
  have hb2 : (n2 : Int) ≤ 1000000 := by omega
  by_cases hn : n1 = n2
  · obtain ⟨n, hnn⟩ : ∃ n, n1 = n := ⟨_, rfl⟩
    rw [← hn]
    rw [← hn] at h2 hb2
    rw [hnn] at h1 h2 hb1 hm1 ⊢
    have HX := Lib.hid (And.intro h1 (And.intro h2 (And.intro hl1 hl2)))
    have hbn : ((n : Int) != (n : Int)) = false := by simp
    clear h1 h2 hl1 hl2 hb2 hm2 hn hnn
    go_enter Try.func22, Try.ntmps22
    go_wp2_with fail
    go_loopw [5, 13] (fun _ i wr => ∃ k : Nat, k ≤ n ∧ i = .int .i64 (k : Int) ∧ (lsOf rs1).take k = (lsOf rs2).take k ∧ Below w.heap.size w wr) (fun _ i _ => n - (intOf i).toNat)
    case atStart => exact ⟨0, Nat.zero_le _, rfl, by simp, Below.refl _ _⟩
    case round =>
      obtain ⟨k, hk, rfl, heq, hbl⟩ := hrel
      have hkb : (k : Int) ≤ 1000000 := by omega
      by_cases hlt : k < n
      · have hlt2 : (k : Int) < (n : Int) := by omega
        obtain ⟨b1, o1, ra, rfl, hra, -, -⟩ := HX.out.1.at_ hlt
        obtain ⟨b2, o2, rb, rfl, hrb, -, -⟩ := HX.out.2.1.at_ hlt
        have hm1 := HX.out.2.2.1 ra (List.mem_of_getElem? hra)
        have hm2 := HX.out.2.2.2 rb (List.mem_of_getElem? hrb)
        have P1 : ∀ W, Below wr.heap.size wr W → W.cell? ⟨b1, o1 + k, none⟩ = some (.slice ra.A ra.l.length ra.c) ∧ Rd W W.heap.size ra.A ra.l := fun W hb => by
          obtain ⟨b9, o9, r9, e9, h9, hc9, hr9⟩ := (HX.out.1.below (hbl.trans (hb.mono hbl.size))).at_ hlt
          injection e9 with e9
          injection e9 with e8 e7
          rw [hra] at h9
          injection h9 with h9
          subst h9
          rw [e8, e7]
          exact ⟨hc9, hr9⟩
        have P2 : ∀ W, Below wr.heap.size wr W → W.cell? ⟨b2, o2 + k, none⟩ = some (.slice rb.A rb.l.length rb.c) ∧ Rd W W.heap.size rb.A rb.l := fun W hb => by
          obtain ⟨b9, o9, r9, e9, h9, hc9, hr9⟩ := (HX.out.2.1.below (hbl.trans (hb.mono hbl.size))).at_ hlt
          injection e9 with e9
          injection e9 with e8 e7
          rw [hrb] at h9
          injection h9 with h9
          subst h9
          rw [e8, e7]
          exact ⟨hc9, hr9⟩
        have L1 : ∀ W, Below wr.heap.size wr W → (Instr.loadAt 35 (.pointer (some ⟨b1, o1 + k, none⟩))).run Try.prog W = .ok (.slice ra.A ra.l.length ra.c) W := fun W hb => by
          have c := (P1 W hb).1
          go_simp
        have L2 : ∀ W, Below wr.heap.size wr W → (Instr.loadAt 35 (.pointer (some ⟨b2, o2 + k, none⟩))).run Try.prog W = .ok (.slice rb.A rb.l.length rb.c) W := fun W hb => by
          have c := (P2 W hb).1
          go_simp
        obtain ⟨bb, hbb⟩ : ∃ bb, decide (ra.l = rb.l) = bb := ⟨_, rfl⟩
        have cS : ∀ W, Below wr.heap.size wr W → Calls Try.prog 15 #[.slice ra.A ra.l.length ra.c, .slice rb.A rb.l.length rb.c] W fun e w' => e = .returned (.bool bb) ∧ Below W.heap.size W w' := fun W hb =>
          (Same_any ra.A rb.A ra.l.length ra.c W.heap.size rb.l.length rb.c W.heap.size ra.l rb.l W (P1 W hb).2 rfl (by unfold maxLen; omega) (P2 W hb).2 rfl (by unfold maxLen; omega)).mono fun e w' h => by
            have h9 := below_all h
            rw [hbb] at h9
            exact h9
        have HK := Lib.hid (And.intro heq (And.intro hbl (And.intro hra (And.intro hrb hbb))))
        clear heq hbl hra hrb hbb P1 P2
        go_wp2_with fail
        refine wp_region_flow [some 16, some 17, some 18, some 19, some 20, some 21, some 22, some 23, some 24, some 25] (fun i => ([.is (.slice (some ⟨b1, o1, none⟩) n c1), .is (.int .i64 (k : Int)), .is (.pointer (some ⟨b1, o1 + k, none⟩)), .is (.slice ra.A ra.l.length ra.c), .is (.slice (some ⟨b2, o2, none⟩) n c2), .is (.int .i64 (k : Int)), .is (.pointer (some ⟨b2, o2 + k, none⟩)), .is (.slice rb.A rb.l.length rb.c), .is (.bool bb), .is (.bool (!bb))] : List Flw).getD i .any) (by kernel_rfl) (by kernel_rfl) rfl ?_ ?_
        · skip
          refine ⟨step_free rfl (fun aF wF hs hb => ?_), ?_⟩
          · obtain ⟨x0, -⟩ := hs
            have e0 : aF.eval (.tmp 0) = .slice (some ⟨b1, o1, none⟩) n c1 := x0
            exact opC_move e0 ⟨rfl, below_same wF⟩
          refine ⟨step_free rfl (fun aF wF hs hb => ?_), ?_⟩
          · obtain ⟨x0, -⟩ := hs
            have e0 : aF.eval (.tmp 5) = .int .i64 (k : Int) := x0
            exact opC_move e0 ⟨rfl, below_same wF⟩
          refine ⟨step_free rfl (fun aF wF hs hb => ?_), ?_⟩
          · obtain ⟨x0, x1, -⟩ := hs
            have e0 : aF.eval (.tmp 16) = .slice (some ⟨b1, o1, none⟩) n c1 := x0
            have e1 : aF.eval (.tmp 17) = .int .i64 (k : Int) := x1
            refine opC_value (v := .pointer (some ⟨b1, o1 + k, none⟩)) ?_ ⟨rfl, below_same wF⟩
            have t0 := ev_of e0
            have t1 := ev_of e1
            simp [execOp, go_sem, t0, t1, hlt2]
          refine ⟨step_free rfl (fun aF wF hs hb => ?_), ?_⟩
          · obtain ⟨x0, -⟩ := hs
            have e0 : aF.eval (.tmp 18) = .pointer (some ⟨b1, o1 + k, none⟩) := x0
            exact opC_load e0 (L1 wF hb) ⟨rfl, below_same wF⟩
          refine ⟨step_free rfl (fun aF wF hs hb => ?_), ?_⟩
          · obtain ⟨x0, -⟩ := hs
            have e0 : aF.eval (.tmp 1) = .slice (some ⟨b2, o2, none⟩) n c2 := x0
            exact opC_move e0 ⟨rfl, below_same wF⟩
          refine ⟨step_free rfl (fun aF wF hs hb => ?_), ?_⟩
          · obtain ⟨x0, -⟩ := hs
            have e0 : aF.eval (.tmp 5) = .int .i64 (k : Int) := x0
            exact opC_move e0 ⟨rfl, below_same wF⟩
          refine ⟨step_free rfl (fun aF wF hs hb => ?_), ?_⟩
          · obtain ⟨x0, x1, -⟩ := hs
            have e0 : aF.eval (.tmp 20) = .slice (some ⟨b2, o2, none⟩) n c2 := x0
            have e1 : aF.eval (.tmp 21) = .int .i64 (k : Int) := x1
            refine opC_value (v := .pointer (some ⟨b2, o2 + k, none⟩)) ?_ ⟨rfl, below_same wF⟩
            have t0 := ev_of e0
            have t1 := ev_of e1
            simp [execOp, go_sem, t0, t1, hlt2]
          refine ⟨step_free rfl (fun aF wF hs hb => ?_), ?_⟩
          · obtain ⟨x0, -⟩ := hs
            have e0 : aF.eval (.tmp 22) = .pointer (some ⟨b2, o2 + k, none⟩) := x0
            exact opC_load e0 (L2 wF hb) ⟨rfl, below_same wF⟩
          refine ⟨step_free rfl (fun aF wF hs hb => ?_), ?_⟩
          · obtain ⟨x0, x1, -⟩ := hs
            have e0 : aF.eval (.tmp 19) = .slice ra.A ra.l.length ra.c := x0
            have e1 : aF.eval (.tmp 23) = .slice rb.A rb.l.length rb.c := x1
            exact opC_call (args := #[.slice ra.A ra.l.length ra.c, .slice rb.A rb.l.length rb.c]) (enters_of Try.func15 (by kernel_rfl) rfl) (by simp [e0, e1]) (cS wF hb) (fun _ h => ⟨rfl, h⟩)
          refine ⟨step_free rfl (fun aF wF hs hb => ?_), ?_⟩
          · obtain ⟨x0, -⟩ := hs
            have e0 : aF.eval (.tmp 24) = .bool bb := x0
            refine opC_value (v := .bool (!bb)) ?_ ⟨rfl, below_same wF⟩
            have t0 := ev_of e0
            simp [execOp, go_sem, t0]
          exact trivial
        · intro fv w9 hf hb9
          have e25 : fv 9 = .bool (!bb) := hf 9 25 rfl
          simp only [putF, Act.put, List.setIfInBounds_toArray, List.set_cons_zero, List.set_cons_succ]
          rw [e25]
          have HB := Lib.hid (HK.out.2.1.trans (hb9.mono HK.out.2.1.size))
          clear hf hb9 e25 L1 L2 cS
          cases bb with
          | true =>
            simp only [Bool.not_true]
            go_wp2_with fail
            go_roundw
            case rel =>
              refine ⟨k + 1, by omega, congrArg (Value.int .i64) (by omega), ?_, HB.out⟩
              obtain ⟨heq, -, hra, hrb, hbb⟩ := HK.out
              have hxe : ra.l = rb.l := of_decide_eq_true hbb
              have e1 : (lsOf rs1)[k]? = some ra.l := by unfold lsOf; rw [List.getElem?_map, hra]; rfl
              have e2 : (lsOf rs2)[k]? = some rb.l := by unfold lsOf; rw [List.getElem?_map, hrb]; rfl
              rw [List.take_add_one, List.take_add_one, heq, e1, e2, hxe]
            case measure => simp [intOf]; omega
          | false =>
            simp only [Bool.not_false]
            go_wp2_with fail
            go_ret
            refine ⟨?_, HB.out⟩
            obtain ⟨heq, -, hra, hrb, hbb⟩ := HK.out
            have hne : lsOf rs1 ≠ lsOf rs2 := fun e => by
              have e1 : (lsOf rs1)[k]? = some ra.l := by unfold lsOf; rw [List.getElem?_map, hra]; rfl
              have e2 : (lsOf rs2)[k]? = some rb.l := by unfold lsOf; rw [List.getElem?_map, hrb]; rfl
              rw [e, e2] at e1
              injection e1 with e1
              exact of_decide_eq_false hbb e1.symm
            rw [decide_eq_false hne]
            rfl
      · have hlt2 : ¬ (k : Int) < (n : Int) := by omega
        have hkn : k = n := by omega
        subst hkn
        have HK := Lib.hid (And.intro heq hbl)
        clear heq hbl hlt
        go_wp2_with fail
        go_ret
        refine ⟨?_, HK.out.2⟩
        have he : lsOf rs1 = lsOf rs2 := by
          have h := HK.out.1
          have e1 : (lsOf rs1).length = k := by unfold lsOf; rw [List.length_map]; exact HX.out.1.1
          have e2 : (lsOf rs2).length = k := by unfold lsOf; rw [List.length_map]; exact HX.out.2.1.1
          rw [List.take_of_length_le (by omega), List.take_of_length_le (by omega)] at h
          exact h
        rw [decide_eq_true he]
        rfl
  · have hbn : ((n1 : Int) != (n2 : Int)) = true := by rw [bne_iff_ne]; omega
    have hne : lsOf rs1 ≠ lsOf rs2 := fun e => by
      have h := congrArg List.length e
      unfold lsOf at h
      rw [List.length_map, List.length_map, h1.1, h2.1] at h
      exact hn h
    have HN := Lib.hid hne
    clear h1 h2 hl1 hl2 hn hne
    go_enter Try.func22, Try.ntmps22
    go_wp2_with fail
    go_ret
    refine ⟨?_, Below.refl _ _⟩
    rw [decide_eq_false HN.out]
    rfl
end
end Go.Proofs.Ytbaenpgjggojaaa
