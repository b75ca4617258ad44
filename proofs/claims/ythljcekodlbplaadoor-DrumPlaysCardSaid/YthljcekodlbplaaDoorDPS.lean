/-
  The document's Play: bits that are turned. Conditions: the document's drum is there.
-/
import Derived.Test.YthljcekodlbplaaDoorDPE
import Derived.Test.YthljcekodlbplaaDoorDPN
namespace Go.Proofs.YthljcekodlbplaaDoor
open Go.ChangeShapes Go.WideShapes Go.ChangeAt Go.RowKit

/-- What bits that are turned leave. -/
def PlayT (w : World) (base x : Nat) (oo : Nat → Prop) (gs : List Seg) (ds : List (Int × Seg)) (left : Int) (p N kk : Nat) (e : Ending) (w' : World) : Prop :=
  ∃ AF' cF' gs' AD' cD', e = .returned (.tuple #[.pointer (some ⟨x, 0, none⟩), .int .i64 0]) ∧ XD w' base x (fun i => oo i ∨ ownD x (.slice AF' gs'.length cF') (.slice AD' (waS ds).length cD') i) AF' cF' gs' AD' cD' (waS ds) left ∧ gs'.map Seg.l = (sfA (gs.map Seg.l) (dsl ds)).set p (turnK ((sfA (gs.map Seg.l) (dsl ds)).getD p []) N kk (min 32 (2048 - N))) ∧ Kept (fun i => i = x) w w' ∧ ∀ i, i < w.heap.size → ownD x (.slice AF' gs'.length cF') (.slice AD' (waS ds).length cD') i → i = x
set_option maxRecDepth 100000 in
set_option maxHeartbeats 4000000 in
theorem Play_turn_ok {w : World} {x : Nat} {AF AP AK : Option Addr} {nF cF nP cP nK cK a k : Nat} {p N left : Int} {v1 : Value} (hp : 0 ≤ p) (hth : decide (p < (nF : Int)) = true) (hN : 0 ≤ N ∧ N ≤ 2047) (ha : a % 7 = 5) (hk9 : k < 4294967296) {base cD : Nat} {oo : Nat → Prop} {gs : List Seg} {AD : Option Addr} {ds : List (Int × Seg)} (hv1 : v1 = .slice AD ds.length cD) (hnF : gs.length = nF) (hXD : XD w base x oo AF cF gs AD cD ds left) (hown : ∀ i, ownD x (.slice AF gs.length cF) (.slice AD ds.length cD) i → oo i) (hoo : ∀ i, oo i → i < w.heap.size) (hg9 : gs.length ≤ 1000) (hd9 : ds.length ≤ 100000) (hs : ∀ s ∈ gs, s.l.length = 256) (he : ∀ d ∈ ds, 0 ≤ d.1 → d.2.l.length = 256) (h : Blk w x 53 #[.slice AF nF cF, v1, .int .i64 left]) :
    Calls Tryd.prog 9 #[.pointer (some ⟨x, 0, none⟩), .agg #[.int .u8 (a : Int), .int .i64 p, .slice AP nP cP, .slice AK nK cK, .int .i64 N, .int .u32 (k : Int)]] w fun e w' => PlayT w base x oo gs ds left p.toNat N.toNat k e w' := by
  obtain ⟨b, hb⟩ : ∃ b, w.heap.size = b := ⟨_, rfl⟩
  obtain ⟨W, hW⟩ : ∃ W, w.alloc (.cells #[.int .u8 (a : Int), .int .i64 p, .slice AP nP cP, .slice AK nK cK, .int .i64 N, .int .u32 (k : Int)] 35) = W := ⟨_, rfl⟩
  have hbx := Blk.new w 35 #[.int .u8 (a : Int), .int .i64 p, .slice AP nP cP, .slice AK nK cK, .int .i64 N, .int .u32 (k : Int)]
  have hx := h.alloc (.cells #[.int .u8 (a : Int), .int .i64 p, .slice AP nP cP, .slice AK nK cK, .int .i64 N, .int .u32 (k : Int)] 35)
  have hbl := (Below.refl _ w).alloc (Nat.le_refl _) (.cells #[.int .u8 (a : Int), .int .i64 p, .slice AP nP cP, .slice AK nK cK, .int .i64 N, .int .u32 (k : Int)] 35)
  have hxl := h.lt
  rw [hW] at hbx hx hbl
  rw [hb] at hbx hxl
  have HW := Lib.hid (And.intro hW hb)
  have LP : ∀ W', Below W.heap.size W W' → (Instr.loadAt 3 (.pointer (some ⟨b, 1, none⟩))).run Tryd.prog W' = .ok (.int .i64 p) W' := fun W' hb' => by
    have c0 := (hbx.below hb' hbx.lt).cell 1
    simp at c0
    go_simp
  have LF : ∀ W', Below W.heap.size W W' → (Instr.loadAt 50 (.pointer (some ⟨x, 0, none⟩))).run Tryd.prog W' = .ok (.slice AF nF cF) W' := fun W' hb' => by
    have c0 := (hx.below hb' hx.lt).cell 0
    simp at c0
    go_simp
  have HX := Lib.hid hx
  have HBX := Lib.hid hbx
  have HBL := Lib.hid hbl
  have HXL := Lib.hid hxl
  have hr : ((a : Int)).tmod 7 = 5 := by
    rw [Int.tmod_eq_emod_of_nonneg (by omega)]
    omega
  clear ha
  subst hv1
  have HOW := Lib.hid hown
  have HOO := Lib.hid hoo
  have HXD := Lib.hid hXD
  have HS9 := Lib.hid hs
  have HE9 := Lib.hid he
  clear hXD hown hoo hs he
  clear h hbx hx hbl hxl hW hb
  go_enter Tryd.func9, Tryd.ntmps9
  go_wp2_with fail
  rw [HW.out.1, HW.out.2]
  refine wp_region_flow [some 13, some 14, some 15, some 16, some 17, some 18, some 19, some 20, some 21, some 22, some 23, some 24, some 25, some 6] (fun i => ([.is (.pointer (some ⟨b, 1, none⟩)), .is (.int .i64 p), .is (.bool true), .is (.bool true), .is (.pointer (some ⟨b, 1, none⟩)), .is (.int .i64 p), .is (.pointer (some ⟨x, 0, none⟩)), .is (.pointer (some ⟨x, 0, none⟩)), .is (.pointer (some ⟨x, 0, none⟩)), .is (.slice AF nF cF), .is (.int .i64 (nF : Int)), .is (.bool true), .is (.bool true), .is (.bool true)] : List Flw).getD i .any) (by kernel_rfl) (by kernel_rfl) rfl ?_ ?_
  · refine ⟨step_free rfl (fun aF wF hs hb => ?_), ?_⟩
    · obtain ⟨x0, -⟩ := hs
      have e0 : aF.eval (.tmp 3) = .pointer (some ⟨b, 0, none⟩) := x0
      refine opC_value (v := .pointer (some ⟨b, 1, none⟩)) ?_ ⟨rfl, below_same wF⟩
      have t0 := ev_of e0
      simp [execOp, go_sem, t0]
    refine ⟨step_free rfl (fun aF wF hs hb => ?_), ?_⟩
    · obtain ⟨x0, -⟩ := hs
      have e0 : aF.eval (.tmp 13) = .pointer (some ⟨b, 1, none⟩) := x0
      exact opC_load e0 (LP wF hb) ⟨rfl, below_same wF⟩
    refine ⟨step_free rfl (fun aF wF hs hb => ?_), ?_⟩
    · obtain ⟨x0, -⟩ := hs
      have e0 : aF.eval (.tmp 14) = .int .i64 p := x0
      refine opC_value (v := .bool true) ?_ ⟨rfl, below_same wF⟩
      simp [execOp, go_sem, ev_of e0, hp]
    refine ⟨step_free rfl (fun aF wF hs hb => ?_), ?_⟩
    · obtain ⟨x0, -⟩ := hs
      have e0 : aF.eval (.tmp 15) = .bool true := x0
      exact opC_move e0 ⟨rfl, below_same wF⟩
    refine ⟨step_yes 3 16 rfl rfl (fun _ _ h => h) (fun aF wF hs hb => ?_), ?_⟩
    · obtain ⟨x0, -⟩ := hs
      have e0 : aF.eval (.tmp 3) = .pointer (some ⟨b, 0, none⟩) := x0
      refine opC_value (v := .pointer (some ⟨b, 1, none⟩)) ?_ ⟨rfl, below_same wF⟩
      have t0 := ev_of e0
      simp [execOp, go_sem, t0]
    refine ⟨step_yes 3 16 rfl rfl (fun _ _ h => h) (fun aF wF hs hb => ?_), ?_⟩
    · obtain ⟨x0, -⟩ := hs
      have e0 : aF.eval (.tmp 17) = .pointer (some ⟨b, 1, none⟩) := x0
      exact opC_load e0 (LP wF hb) ⟨rfl, below_same wF⟩
    refine ⟨step_yes 3 16 rfl rfl (fun _ _ h => h) (fun aF wF hs hb => ?_), ?_⟩
    · obtain ⟨x0, -⟩ := hs
      have e0 : aF.eval (.tmp 0) = .pointer (some ⟨x, 0, none⟩) := x0
      exact opC_move e0 ⟨rfl, below_same wF⟩
    refine ⟨step_yes 3 16 rfl rfl (fun _ _ h => h) (fun aF wF hs hb => ?_), ?_⟩
    · obtain ⟨x0, -⟩ := hs
      have e0 : aF.eval (.tmp 19) = .pointer (some ⟨x, 0, none⟩) := x0
      refine opC_value (v := .pointer (some ⟨x, 0, none⟩)) ?_ ⟨rfl, below_same wF⟩
      have t0 := ev_of e0
      simp [execOp, go_sem, t0]
    refine ⟨step_yes 3 16 rfl rfl (fun _ _ h => h) (fun aF wF hs hb => ?_), ?_⟩
    · obtain ⟨x0, -⟩ := hs
      have e0 : aF.eval (.tmp 20) = .pointer (some ⟨x, 0, none⟩) := x0
      refine opC_value (v := .pointer (some ⟨x, 0, none⟩)) ?_ ⟨rfl, below_same wF⟩
      have t0 := ev_of e0
      simp [execOp, go_sem, t0]
    refine ⟨step_yes 3 16 rfl rfl (fun _ _ h => h) (fun aF wF hs hb => ?_), ?_⟩
    · obtain ⟨x0, -⟩ := hs
      have e0 : aF.eval (.tmp 21) = .pointer (some ⟨x, 0, none⟩) := x0
      exact opC_load e0 (LF wF hb) ⟨rfl, below_same wF⟩
    refine ⟨step_yes 3 16 rfl rfl (fun _ _ h => h) (fun aF wF hs hb => ?_), ?_⟩
    · obtain ⟨x0, -⟩ := hs
      have e0 : aF.eval (.tmp 22) = .slice AF nF cF := x0
      refine opC_value (v := .int .i64 (nF : Int)) ?_ ⟨rfl, below_same wF⟩
      have t0 := ev_of e0
      simp [execOp, go_sem, t0]
    refine ⟨step_yes 3 16 rfl rfl (fun _ _ h => h) (fun aF wF hs hb => ?_), ?_⟩
    · obtain ⟨x0, x1, -⟩ := hs
      have e0 : aF.eval (.tmp 18) = .int .i64 p := x0
      have e1 : aF.eval (.tmp 23) = .int .i64 (nF : Int) := x1
      refine opC_value (v := .bool true) ?_ ⟨rfl, below_same wF⟩
      simp [execOp, go_sem, ev_of e0, ev_of e1, hth]
    refine ⟨step_free rfl (fun aF wF hs hb => ?_), ?_⟩
    · obtain ⟨x0, x1, -⟩ := hs
      have e0 : aF.eval (.tmp 16) = .bool true := x0
      have e1 : aF.eval (.tmp 24) = .bool true := x1
      refine opC_value (v := .bool true) ?_ ⟨rfl, below_same wF⟩
      have t0 := ev_of e0
      have t1 := ev_of e1
      simp [execOp, go_sem, t0, t1]
    refine ⟨step_free rfl (fun aF wF hs hb => ?_), ?_⟩
    · obtain ⟨x0, -⟩ := hs
      have e0 : aF.eval (.tmp 25) = .bool true := x0
      exact opC_assign e0 ⟨rfl, below_same wF⟩
    exact trivial
  · intro f w6 hf hb6
    have h9 : f 13 = .bool true := hf 13 6 rfl
    simp only [putF, Act.put, List.setIfInBounds_toArray, List.set_cons_zero, List.set_cons_succ]
    rw [h9]
    have HX6 := Lib.hid (HX.out.below hb6 HX.out.lt)
    have HBX6 := Lib.hid (HBX.out.below hb6 HBX.out.lt)
    have HB6 := Lib.hid (HBL.out.trans (hb6.mono HBL.out.size))
    have HXD6 := Lib.hid (HXD.out.below HB6.out)
    clear hf h9 hb6 LP LF HX HBX HBL HW
    have b0 := HBX6.out.cell 0
    have b1 := HBX6.out.cell 1
    have b4 := HBX6.out.cell 4
    simp at b0 b1 b4
    subst hnF
    have b2 := HBX6.out.cell 2
    have b3 := HBX6.out.cell 3
    have b5 := HBX6.out.cell 5
    simp at b2 b3 b5
    have hN1 : ¬ (2047 : Int) < N := by omega
    have hN0 : ¬ N < 0 := by omega
    obtain ⟨p', hp'⟩ : ∃ p' : Nat, p = (p' : Int) := ⟨p.toNat, by omega⟩
    obtain ⟨N', hN'⟩ : ∃ N' : Nat, N = (N' : Int) := ⟨N.toNat, by omega⟩
    have hpl : p' < gs.length := by have := of_decide_eq_true hth; omega
    have HK6 := Lib.hid (Kept.of_below (own := fun i => i = x) HB6.out)
    clear hth
    go_wp2_with fail
    subst hp' hN'
    refine (turned_any HXD6.out HOW.out (fun i e => Nat.lt_of_lt_of_le (HOO.out i e) HB6.out.size) hg9 hd9 HS9.out HE9.out hpl (by omega) hk9).mono ?_
    rintro e w7 ⟨AF', cF', gs', AD', cD', rfl, h1, h2, h3, h4⟩
    have H1 := Lib.hid h1
    have H2 := Lib.hid h2
    have H3 : Hid (Kept (fun i => i = x) w w7) := Lib.hid (HK6.out.trans h3 (fun _ _ h => h))
    have H4 : Hid (∀ i, i < w.heap.size → ownD x (.slice AF' gs'.length cF') (.slice AD' (waS ds).length cD') i → i = x) := Lib.hid (fun i hi e => h4 i (Nat.lt_of_lt_of_le hi HB6.out.size) e)
    clear h1 h2 h3 h4 HX6 HBX6 HXD6 HB6 HOW HOO HS9 HE9 b0 b1 b2 b3 b4 b5 HK6
    go_wp2_with fail
    exact bodyPost_ret (v := .tuple #[.pointer (some ⟨x, 0, none⟩), .int .i64 0]) (by simp [results, Tryd.results9, go_sem, Result.andThen]) rfl ⟨AF', cF', gs', AD', cD', rfl, H1.out, by simpa using H2.out, H3.out, H4.out⟩
end Go.Proofs.YthljcekodlbplaaDoor
