/-
Blocks of structs read and written whole, or in the midst, by what is known of the block alone. No condition.
order.named: the order with what its kind names alone. No condition.
-/
import Derived.Test.YtjlajnackecfgaaGreatDoorOdDW9
import Derived.Tactics
namespace Go.Proofs.YtjlajnackecfgaaGreatDoor
open Go Go.RowKit

/-- A type of structs (or arrays) of so many cells. -/
def RowT (P : Program) (t : TypeId) (n : Nat) : Prop := ∃ d, P.underlying t = some d ∧ d.isRow = true ∧ (P.info? t).map (·.size) = some n
def StopW (p : Prop) : Prop := p
section
variable {P : Program} {ops : Array Oper} {rest : List Oper} {o : Oper} {a : Act} {w : World} {Q : Exit → Act → World → Prop}
theorem stopAt (h : StopW (wpList P ops Q (o :: rest) a w)) : wpList P ops Q (o :: rest) a w := h
theorem blk_range {g : Nat} {bt : TypeId} {cs : Array Value} (hb : Blk w g bt cs) (k : Nat) (vs : Array Value) (hv : ∀ (j : Nat) v, vs[j]? = some v → cs[k + j]? = some v) : w.rangeAt g k vs.toList := fun j v h => by
  rw [hb.cell (k + j)]
  exact hv j v (by simpa using h)
theorem blk_there {g : Nat} {bt : TypeId} {cs : Array Value} (hb : Blk w g bt cs) (k n : Nat) (hs : k + n ≤ cs.size) : w.there g k n := fun j hj => by
  refine ⟨?_, hb.frozen (k + j)⟩
  have := hb.cell (k + j)
  rw [this]
  simp
  omega
theorem run_loadB {g : Nat} {bt : TypeId} {cs : Array Value} (hb : Blk w g bt cs) (t : TypeId) (k : Nat) (vs : Array Value) (hv : ∀ (j : Nat) v, vs[j]? = some v → cs[k + j]? = some v)
    (hr : RowT P t vs.size) : (Instr.loadAt t (.pointer (some ⟨g, k, none⟩))).run P w = .ok (.agg vs) w := by
  obtain ⟨d, hu, hd, hi⟩ := hr
  have := run_loadAt_mid (P := P) w g k t vs.toList d (blk_range hb k vs hv) hu hd (by rw [hi]; simp)
  simpa using this
/-- A struct is read. -/
theorem wpl_loadB (hg : o.guard = none) (t : TypeId) (x : Operand) (ho : o.op = .load t x) (g k : Nat) (hx : a.eval x = .pointer (some ⟨g, k, none⟩)) {bt : TypeId} {cs : Array Value} (hb : Blk w g bt cs) (vs : Array Value)
    (hv : ∀ (j : Nat) v, vs[j]? = some v → cs[k + j]? = some v) (hr : RowT P t vs.size)
    (h : wpList P ops Q rest (a.put o.dst (.agg vs)) w) : wpList P ops Q (o :: rest) a w := by
  obtain ⟨d, hu, hd, hi⟩ := hr
  refine wpList_load_mid hg t x ho g k hx vs.toList d (blk_range hb k vs hv) hu hd (by rw [hi]; simp) ?_
  simpa using h
/-- A struct is written. -/
theorem wpl_storeB (hg : o.guard = none) (t : TypeId) (x y : Operand) (ho : o.op = .store t x y) (g k : Nat) (hx : a.eval x = .pointer (some ⟨g, k, none⟩)) (vs : Array Value) (hy : a.eval y = .agg vs) {bt : TypeId} {cs : Array Value} (hb : Blk w g bt cs)
    (hs : k + vs.size ≤ cs.size) (hr : RowT P t vs.size) (h1 : vs.all (·.oneCell') = true)
    (h : ∀ w', OnlyAt g w w' → Blk w' g bt (putL cs k vs.toList) → wpList P ops Q rest (a.put o.dst undef) w') : wpList P ops Q (o :: rest) a w :=
  wpList_store_mid hg t x y ho g k vs hx hy (blk_there hb k _ hs) (by obtain ⟨_, _, _, hi⟩ := hr; exact hi) h1 (h _ (onlyAt_setCells _ _ _ _) (blk_setCells _ _ _ _ hb))
theorem wpl_storeA (hg : o.guard = none) (t : TypeId) (x y : Operand) (ho : o.op = .store t x y) (g : Nat) (hx : a.eval x = .pointer (some ⟨g, 0, none⟩)) (vs : Array Value) (hy : a.eval y = .agg vs) {bt : TypeId} {cs : Array Value} (hb : Blk w g bt cs)
    (hs : cs.size = vs.size) (hr : RowT P t vs.size) (h1 : vs.all (·.oneCell') = true)
    (h : ∀ w', OnlyAt g w w' → Blk w' g bt vs → wpList P ops Q rest (a.put o.dst undef) w') : wpList P ops Q (o :: rest) a w :=
  wpl_storeB hg t x y ho g 0 hx vs hy hb (by omega) hr h1 fun w' h2 h3 => h w' h2 (by rw [putL_all hs] at h3; exact h3)
theorem opC_loadB {dst : Option Tmp} {t : TypeId} {x : Operand} {ty : TypeId} {pos : String} {af : Array Edge} {gd : Option (Nat × Bool)} {K : Value → World → Prop} {g k : Nat} {bt : TypeId} {cs : Array Value}
    (he : a.eval x = .pointer (some ⟨g, k, none⟩)) (hb : Blk w g bt cs) (vs : Array Value) (hv : ∀ (j : Nat) v, vs[j]? = some v → cs[k + j]? = some v)
    (hr : RowT P t vs.size) (hk : K (.agg vs) w) : opC P ⟨dst, .load t x, ty, pos, af, gd⟩ a w K :=
  opC_load he (run_loadB hb t k vs hv hr) hk
end
/-- A part of a block's cells, told by places. -/
theorem part_of {cs vs : Array Value} {k : Nat} (h : cs.extract k (k + vs.size) = vs) : ∀ (j : Nat) v, vs[j]? = some v → cs[k + j]? = some v := fun j v hj => by
  rw [← h] at hj
  rw [Array.getElem?_extract] at hj
  split at hj
  · exact hj
  · cases hj
theorem OnlyAt.blk {g q : Nat} {w w' : World} {bt : TypeId} {cs : Array Value} (h : OnlyAt g w w') (hb : Blk w q bt cs) (hq : q ≠ g) : Blk w' q bt cs := (h.block q hq).trans hb
end Go.Proofs.YtjlajnackecfgaaGreatDoor
namespace Go.Proofs.YtjlajnackecfgaaGreatDoor
open Go.ChangeShapes Go.WideShapes Go.ChangeAt Go.RowKit
theorem ordT_seq (k a K : Int) (P R B M S F G s d ek m s' : Int) : (ordT k a K P R B M S F G s d ek m).setIfInBounds 10 (.int .u32 s') = ordT k a K P R B M S F G s' d ek m := by simp [ordT]
theorem ordT_event (k a K : Int) (P R B M S F G s d ek m s' d' ek' m' : Int) : putL (ordT k a K P R B M S F G s d ek m) 10 (#[Value.int .u32 s', .int .i32 d', .int .u8 ek', .int .i64 m'] : Array Value).toList = ordT k a K P R B M S F G s' d' ek' m' := by simp [ordT, putL]
theorem infoOr : (Tryz.prog.info? 32).map (·.size) = some 14 := by kernel_rfl
theorem rowOr : RowT Tryz.prog 32 14 := ⟨_, Tryz.underlying32, rfl, infoOr⟩
theorem rowTm : RowT Tryz.prog 28 8 := ⟨_, Tryz.underlying28, rfl, infoTm⟩
theorem rowEv : RowT Tryz.prog 30 4 := ⟨_, Tryz.underlying30, rfl, infoEv⟩
theorem blk14 {w : World} {q : Nat} {ty : TypeId} {a0 a1 a2 a3 a4 a5 a6 a7 a8 a9 a10 a11 a12 a13 : Value} (h : Blk w q ty #[a0, a1, a2, a3, a4, a5, a6, a7, a8, a9, a10, a11, a12, a13]) : w.cell? ⟨q, 0, none⟩ = some a0 ∧ w.cell? ⟨q, 1, none⟩ = some a1 ∧ w.cell? ⟨q, 2, none⟩ = some a2 ∧ w.cell? ⟨q, 3, none⟩ = some a3 ∧ w.cell? ⟨q, 4, none⟩ = some a4 ∧ w.cell? ⟨q, 5, none⟩ = some a5 ∧ w.cell? ⟨q, 6, none⟩ = some a6 ∧ w.cell? ⟨q, 7, none⟩ = some a7 ∧ w.cell? ⟨q, 8, none⟩ = some a8 ∧ w.cell? ⟨q, 9, none⟩ = some a9 ∧ w.cell? ⟨q, 10, none⟩ = some a10 ∧ w.cell? ⟨q, 11, none⟩ = some a11 ∧ w.cell? ⟨q, 12, none⟩ = some a12 ∧ w.cell? ⟨q, 13, none⟩ = some a13 := by
  have h0 := h.cell 0
  have h1 := h.cell 1
  have h2 := h.cell 2
  have h3 := h.cell 3
  have h4 := h.cell 4
  have h5 := h.cell 5
  have h6 := h.cell 6
  have h7 := h.cell 7
  have h8 := h.cell 8
  have h9 := h.cell 9
  have h10 := h.cell 10
  have h11 := h.cell 11
  have h12 := h.cell 12
  have h13 := h.cell 13
  simp at h0 h1 h2 h3 h4 h5 h6 h7 h8 h9 h10 h11 h12 h13
  exact ⟨h0, h1, h2, h3, h4, h5, h6, h7, h8, h9, h10, h11, h12, h13⟩
set_option maxRecDepth 100000 in
set_option maxHeartbeats 4000000 in
theorem named_1 (o : Ord) (h : o.k = 1) (w : World) : Calls Tryz.prog 28 #[o.v] w (Ret (Ord.v ⟨o.k, o.a, o.t, Evt.zero⟩) w) := by
  obtain ⟨k, a, ⟨K, P, R, B, M, S, F, G⟩, s, d, ek, m⟩ := o
  dsimp only at h
  have j1 : ((k : Int) == 1) = true := by rw [beq_iff_eq]; omega
  clear h
  show Calls Tryz.prog 28 #[.agg #[.int .u8 (k : Int), .int .u32 (a : Int), .int .u8 (K : Int), .int .i64 P, .int .u32 (R : Int), .int .u8 (B : Int), .int .i64 M, .int .i32 S, .int .i64 F, .int .i64 G, .int .u32 (s : Int), .int .i32 d, .int .u8 (ek : Int), .int .i64 m]] w (Ret (.agg #[.int .u8 (k : Int), .int .u32 (a : Int), .int .u8 (K : Int), .int .i64 P, .int .u32 (R : Int), .int .u8 (B : Int), .int .i64 M, .int .i32 S, .int .i64 F, .int .i64 G, .int .u32 0, .int .i32 0, .int .u8 0, .int .i64 0]) w)
  obtain ⟨Z, hZ⟩ : ∃ Z : Array Value, Z = #[.int .u8 (k : Int), .int .u32 (a : Int), .int .u8 (K : Int), .int .i64 P, .int .u32 (R : Int), .int .u8 (B : Int), .int .i64 M, .int .i32 S, .int .i64 F, .int .i64 G, .int .u32 (s : Int), .int .i32 d, .int .u8 (ek : Int), .int .i64 m] := ⟨_, rfl⟩
  obtain ⟨Y, hY⟩ : ∃ Y : Array Value, Y = #[.int .u8 0, .int .u32 0, .int .u8 0, .int .i64 0, .int .u32 0, .int .u8 0, .int .i64 0, .int .i32 0, .int .i64 0, .int .i64 0, .int .u32 0, .int .i32 0, .int .u8 0, .int .i64 0] := ⟨_, rfl⟩
  obtain ⟨X, hX⟩ : ∃ X : Array Value, X = #[.int .u8 (k : Int), .int .u32 0, .int .u8 0, .int .i64 0, .int .u32 0, .int .u8 0, .int .i64 0, .int .i32 0, .int .i64 0, .int .i64 0, .int .u32 0, .int .i32 0, .int .u8 0, .int .i64 0] := ⟨_, rfl⟩
  have k1 := ((Blk.new w 32 Z).alloc (.cells Y 32)).alloc (.cells X 32)
  have k2 := (Blk.new (w.alloc (.cells Z 32)) 32 Y).alloc (.cells X 32)
  have k3 := Blk.new ((w.alloc (.cells Z 32)).alloc (.cells Y 32)) 32 X
  have hb := ((b_alloc w (.cells Z 32)).alloc (by simp) (.cells Y 32)).alloc (by simp; omega) (.cells X 32)
  simp only [World.size_alloc] at k2 k3
  obtain ⟨W0, hW⟩ : ∃ W, ((w.alloc (.cells Z 32)).alloc (.cells Y 32)).alloc (.cells X 32) = W := ⟨_, rfl⟩
  rw [hW] at k1 k2 k3 hb
  have HW := Lib.hid hW
  have HK := Lib.hid (And.intro k1 (And.intro k2 (And.intro k3 hb)))
  clear k1 k2 k3 hb hW
  subst hX hY hZ
  go_enter Tryz.func28, Tryz.ntmps28
  go_upto_region 2 with (fail)
  rw [HW.out]
  clear HW
  have z0 := HK.out.1.cell 0
  simp at z0
  obtain ⟨p, hp⟩ : ∃ p, w.heap.size = p := ⟨_, rfl⟩
  obtain ⟨r, hr⟩ : ∃ r, w.heap.size + 1 = r := ⟨_, rfl⟩
  obtain ⟨q, hq⟩ : ∃ q, w.heap.size + 1 + 1 = q := ⟨_, rfl⟩
  have hpq : p < q := by omega
  have hrq : r < q := by omega
  have hpr' : w.heap.size ≤ r := by omega
  rw [hq, hr, hp] at HK
  rw [hp] at z0
  rw [hq, hr, hp]
  go_upto_region 4 with (fail)
  refine wp_region_flowI (R := relB q) (l := [_, _, _, _, _, _, _, _]) [some 11, some 12, some 13, some 14, some 15, none, some 16, none] (fun i => ([.is (.pointer (some ⟨p, 1, none⟩)), .is (.int .u32 (a : Int)), .is (.pointer (some ⟨p, 2, none⟩)), .is (.agg #[.int .u8 (K : Int), .int .i64 P, .int .u32 (R : Int), .int .u8 (B : Int), .int .i64 M, .int .i32 S, .int .i64 F, .int .i64 G]), .is (.pointer (some ⟨q, 1, none⟩)), .any, .is (.pointer (some ⟨q, 2, none⟩)), .any] : List (FlwG (relB q))).getD i .any)
    (fun U W => Blk W q 32 (ordT k (bif U 5 then (a : Int) else 0) (bif U 7 then (K : Int) else 0) (bif U 7 then P else 0) (bif U 7 then (R : Int) else 0) (bif U 7 then (B : Int) else 0) (bif U 7 then M else 0) (bif U 7 then S else 0) (bif U 7 then F else 0) (bif U 7 then G else 0) 0 0 0 0)) (by kernel_rfl) (by kernel_rfl) rfl ?_ ?_ ?_
  · exact HK.out.2.2.1.drewN 1
  · skip
    refine ⟨step_freeI rfl (fun aF wF U hs hr hS hI => ?_), ?_⟩
    · obtain ⟨x0, -⟩ := hs
      have e0 : aF.eval (.tmp 1) = .pointer (some ⟨p, 0, none⟩) := x0
      refine opC_value (v := .pointer (some ⟨p, 1, none⟩)) ?_ ⟨rfl, Below.refl _ _, hI⟩
      have t0 := ev_of e0
      simp [execOp, go_sem, t0]
    refine ⟨step_freeI rfl (fun aF wF U hs hr hS hI => ?_), ?_⟩
    · obtain ⟨x0, -⟩ := hs
      have e0 : aF.eval (.tmp 11) = .pointer (some ⟨p, 1, none⟩) := x0
      have c1 := (HK.out.1.below (hr : Below q W0 wF) hpq).cell 1
      simp at c1
      refine opC_load e0 ?_ ⟨rfl, Below.refl _ _, hI⟩
      go_simp
    refine ⟨step_freeI rfl (fun aF wF U hs hr hS hI => ?_), ?_⟩
    · obtain ⟨x0, -⟩ := hs
      have e0 : aF.eval (.tmp 1) = .pointer (some ⟨p, 0, none⟩) := x0
      refine opC_value (v := .pointer (some ⟨p, 2, none⟩)) ?_ ⟨rfl, Below.refl _ _, hI⟩
      have t0 := ev_of e0
      simp [execOp, go_sem, t0]
    refine ⟨step_freeI rfl (fun aF wF U hs hr hS hI => ?_), ?_⟩
    · obtain ⟨x0, -⟩ := hs
      have e0 : aF.eval (.tmp 13) = .pointer (some ⟨p, 2, none⟩) := x0
      exact opC_loadB e0 (HK.out.1.below (hr : Below q W0 wF) hpq) #[.int .u8 (K : Int), .int .i64 P, .int .u32 (R : Int), .int .u8 (B : Int), .int .i64 M, .int .i32 S, .int .i64 F, .int .i64 G] (part_of (by rfl)) rowTm ⟨rfl, Below.refl _ _, hI⟩
    refine ⟨step_freeI rfl (fun aF wF U hs hr hS hI => ?_), ?_⟩
    · obtain ⟨x0, -⟩ := hs
      have e0 : aF.eval (.tmp 3) = .pointer (some ⟨q, 0, none⟩) := x0
      refine opC_value (v := .pointer (some ⟨q, 1, none⟩)) ?_ ⟨rfl, Below.refl _ _, hI⟩
      have t0 := ev_of e0
      simp [execOp, go_sem, t0]
    refine ⟨step_freeI rfl (fun aF wF U hs hr hS hI => ?_), ?_⟩
    · obtain ⟨x0, x1, -⟩ := hs
      have e0 : aF.eval (.tmp 15) = .pointer (some ⟨q, 1, none⟩) := x0
      have e1 : aF.eval (.tmp 12) = .int .u32 (a : Int) := x1
      refine opC_store1 e0 e1 hI (by show 1 < 14; decide) (fun u hc hf => by go_simp) fun w' ho hb => ⟨trivial, below_only ho (Nat.le_refl _), by
        rw [ordT_loan] at hb
        exact hb⟩
    refine ⟨step_freeI rfl (fun aF wF U hs hr hS hI => ?_), ?_⟩
    · obtain ⟨x0, -⟩ := hs
      have e0 : aF.eval (.tmp 3) = .pointer (some ⟨q, 0, none⟩) := x0
      refine opC_value (v := .pointer (some ⟨q, 2, none⟩)) ?_ ⟨rfl, Below.refl _ _, hI⟩
      have t0 := ev_of e0
      simp [execOp, go_sem, t0]
    refine ⟨step_freeI rfl (fun aF wF U hs hr hS hI => ?_), ?_⟩
    · obtain ⟨x0, x1, -⟩ := hs
      have e0 : aF.eval (.tmp 16) = .pointer (some ⟨q, 2, none⟩) := x0
      have e1 : aF.eval (.tmp 14) = .agg #[.int .u8 (K : Int), .int .i64 P, .int .u32 (R : Int), .int .u8 (B : Int), .int .i64 M, .int .i32 S, .int .i64 F, .int .i64 G] := x1
      exact opC_storeM e0 e1 hI (by show 2 + 8 ≤ 14; decide) (by kernel_rfl) (by simp [Value.oneCell']) fun w' ho hb => ⟨trivial, below_only ho (Nat.le_refl _), by
        rw [ordT_terms] at hb
        exact hb⟩
    exact trivial
  · intro f w9 U hf hb9 hall hI
    have e5 : U 5 = true := hall 5 (by decide)
    have e7 : U 7 = true := hall 7 (by decide)
    simp only [e5, e7, cond_true] at hI
    have hY9 := HK.out.2.1.below (hb9 : Below q W0 w9) hrq
    have HB9 := Lib.hid (HK.out.2.2.2.trans ((hb9 : Below q W0 w9).mono (by omega)))
    have HI := Lib.hid hI
    have HY := Lib.hid hY9
    clear hI hY9 hf hall e5 e7 hb9
    simp only [putF, Act.put, List.setIfInBounds_toArray, List.set_cons_zero, List.set_cons_succ]
    go_upto_region 9 with (fail)
    go_wp2_with (first | (with_reducible refine wpl_loadB (o := ⟨some 35, _, _, _, _, _⟩) rfl 32 (.tmp 3) rfl q 0 rfl HI.out #[.int .u8 (k : Int), .int .u32 (a : Int), .int .u8 (K : Int), .int .i64 P, .int .u32 (R : Int), .int .u8 (B : Int), .int .i64 M, .int .i32 S, .int .i64 F, .int .i64 G, .int .u32 0, .int .i32 0, .int .u8 0, .int .i64 0] ?g1 ?g2 ?_) | (with_reducible refine wpl_storeA (o := ⟨none, _, _, _, _, _⟩) rfl 32 (.tmp 2) (.tmp 35) rfl r rfl #[.int .u8 (k : Int), .int .u32 (a : Int), .int .u8 (K : Int), .int .i64 P, .int .u32 (R : Int), .int .u8 (B : Int), .int .i64 M, .int .i32 S, .int .i64 F, .int .i64 G, .int .u32 0, .int .i32 0, .int .u8 0, .int .i64 0] rfl HY.out ?g5 ?g6 ?g7 ?_))
    case g1 => exact part_of (by rfl)
    case g2 => exact rowOr
    case g5 => rfl
    case g6 => exact rowOr
    case g7 => simp [Value.oneCell']
    intro w10 ho hY10
    have hB10 := HB9.out.trans (below_only ho (show p ≤ r by omega))
    go_wp2_with fail
    obtain ⟨r0, r1, r2, r3, r4, r5, r6, r7, r8, r9, r10, r11, r12, r13⟩ := blk14 hY10
    refine bodyPost_ret (v := .agg #[.int .u8 (k : Int), .int .u32 (a : Int), .int .u8 (K : Int), .int .i64 P, .int .u32 (R : Int), .int .u8 (B : Int), .int .i64 M, .int .i32 S, .int .i64 F, .int .i64 G, .int .u32 0, .int .i32 0, .int .u8 0, .int .i64 0]) ?_ rfl ⟨rfl, by rw [hp]; exact hB10⟩
    simp [results, Tryz.results28, go_sem, r0, r1, r2, r3, r4, r5, r6, r7, r8, r9, r10, r11, r12, r13]
set_option maxRecDepth 100000 in
set_option maxHeartbeats 4000000 in
theorem named_2 (o : Ord) (h : o.k = 2) (w : World) : Calls Tryz.prog 28 #[o.v] w (Ret (Ord.v ⟨o.k, o.a, Trm.zero, o.e⟩) w) := by
  obtain ⟨k, a, ⟨K, P, R, B, M, S, F, G⟩, s, d, ek, m⟩ := o
  dsimp only at h
  have j1 : ((k : Int) == 1) = false := by rw [beq_eq_false_iff_ne]; omega
  have j2 : ((k : Int) == 2) = true := by rw [beq_iff_eq]; omega
  clear h
  show Calls Tryz.prog 28 #[.agg #[.int .u8 (k : Int), .int .u32 (a : Int), .int .u8 (K : Int), .int .i64 P, .int .u32 (R : Int), .int .u8 (B : Int), .int .i64 M, .int .i32 S, .int .i64 F, .int .i64 G, .int .u32 (s : Int), .int .i32 d, .int .u8 (ek : Int), .int .i64 m]] w (Ret (.agg #[.int .u8 (k : Int), .int .u32 (a : Int), .int .u8 0, .int .i64 0, .int .u32 0, .int .u8 0, .int .i64 0, .int .i32 0, .int .i64 0, .int .i64 0, .int .u32 (s : Int), .int .i32 d, .int .u8 (ek : Int), .int .i64 m]) w)
  obtain ⟨Z, hZ⟩ : ∃ Z : Array Value, Z = #[.int .u8 (k : Int), .int .u32 (a : Int), .int .u8 (K : Int), .int .i64 P, .int .u32 (R : Int), .int .u8 (B : Int), .int .i64 M, .int .i32 S, .int .i64 F, .int .i64 G, .int .u32 (s : Int), .int .i32 d, .int .u8 (ek : Int), .int .i64 m] := ⟨_, rfl⟩
  obtain ⟨Y, hY⟩ : ∃ Y : Array Value, Y = #[.int .u8 0, .int .u32 0, .int .u8 0, .int .i64 0, .int .u32 0, .int .u8 0, .int .i64 0, .int .i32 0, .int .i64 0, .int .i64 0, .int .u32 0, .int .i32 0, .int .u8 0, .int .i64 0] := ⟨_, rfl⟩
  obtain ⟨X, hX⟩ : ∃ X : Array Value, X = #[.int .u8 (k : Int), .int .u32 0, .int .u8 0, .int .i64 0, .int .u32 0, .int .u8 0, .int .i64 0, .int .i32 0, .int .i64 0, .int .i64 0, .int .u32 0, .int .i32 0, .int .u8 0, .int .i64 0] := ⟨_, rfl⟩
  have k1 := ((Blk.new w 32 Z).alloc (.cells Y 32)).alloc (.cells X 32)
  have k2 := (Blk.new (w.alloc (.cells Z 32)) 32 Y).alloc (.cells X 32)
  have k3 := Blk.new ((w.alloc (.cells Z 32)).alloc (.cells Y 32)) 32 X
  have hb := ((b_alloc w (.cells Z 32)).alloc (by simp) (.cells Y 32)).alloc (by simp; omega) (.cells X 32)
  simp only [World.size_alloc] at k2 k3
  obtain ⟨W0, hW⟩ : ∃ W, ((w.alloc (.cells Z 32)).alloc (.cells Y 32)).alloc (.cells X 32) = W := ⟨_, rfl⟩
  rw [hW] at k1 k2 k3 hb
  have HW := Lib.hid hW
  have HK := Lib.hid (And.intro k1 (And.intro k2 (And.intro k3 hb)))
  clear k1 k2 k3 hb hW
  subst hX hY hZ
  go_enter Tryz.func28, Tryz.ntmps28
  go_upto_region 2 with (fail)
  rw [HW.out]
  clear HW
  have z0 := HK.out.1.cell 0
  simp at z0
  obtain ⟨p, hp⟩ : ∃ p, w.heap.size = p := ⟨_, rfl⟩
  obtain ⟨r, hr⟩ : ∃ r, w.heap.size + 1 = r := ⟨_, rfl⟩
  obtain ⟨q, hq⟩ : ∃ q, w.heap.size + 1 + 1 = q := ⟨_, rfl⟩
  have hpq : p < q := by omega
  have hrq : r < q := by omega
  have hpr' : w.heap.size ≤ r := by omega
  rw [hq, hr, hp] at HK
  rw [hp] at z0
  rw [hq, hr, hp]
  go_upto_region 6 with (fail)
  refine wp_region_flowI (R := relB q) (l := [_, _, _, _, _, _, _, _]) [some 19, some 20, some 21, some 22, some 23, none, some 24, none] (fun i => ([.is (.pointer (some ⟨p, 1, none⟩)), .is (.int .u32 (a : Int)), .is (.pointer (some ⟨p, 10, none⟩)), .is (.agg #[.int .u32 (s : Int), .int .i32 d, .int .u8 (ek : Int), .int .i64 m]), .is (.pointer (some ⟨q, 1, none⟩)), .any, .is (.pointer (some ⟨q, 10, none⟩)), .any] : List (FlwG (relB q))).getD i .any)
    (fun U W => Blk W q 32 (ordT k (bif U 5 then (a : Int) else 0) 0 0 0 0 0 0 0 0 (bif U 7 then (s : Int) else 0) (bif U 7 then d else 0) (bif U 7 then (ek : Int) else 0) (bif U 7 then m else 0))) (by kernel_rfl) (by kernel_rfl) rfl ?_ ?_ ?_
  · exact HK.out.2.2.1.drewN 1
  · skip
    refine ⟨step_freeI rfl (fun aF wF U hs hr hS hI => ?_), ?_⟩
    · obtain ⟨x0, -⟩ := hs
      have e0 : aF.eval (.tmp 1) = .pointer (some ⟨p, 0, none⟩) := x0
      refine opC_value (v := .pointer (some ⟨p, 1, none⟩)) ?_ ⟨rfl, Below.refl _ _, hI⟩
      have t0 := ev_of e0
      simp [execOp, go_sem, t0]
    refine ⟨step_freeI rfl (fun aF wF U hs hr hS hI => ?_), ?_⟩
    · obtain ⟨x0, -⟩ := hs
      have e0 : aF.eval (.tmp 19) = .pointer (some ⟨p, 1, none⟩) := x0
      have c1 := (HK.out.1.below (hr : Below q W0 wF) hpq).cell 1
      simp at c1
      refine opC_load e0 ?_ ⟨rfl, Below.refl _ _, hI⟩
      go_simp
    refine ⟨step_freeI rfl (fun aF wF U hs hr hS hI => ?_), ?_⟩
    · obtain ⟨x0, -⟩ := hs
      have e0 : aF.eval (.tmp 1) = .pointer (some ⟨p, 0, none⟩) := x0
      refine opC_value (v := .pointer (some ⟨p, 10, none⟩)) ?_ ⟨rfl, Below.refl _ _, hI⟩
      have t0 := ev_of e0
      simp [execOp, go_sem, t0]
    refine ⟨step_freeI rfl (fun aF wF U hs hr hS hI => ?_), ?_⟩
    · obtain ⟨x0, -⟩ := hs
      have e0 : aF.eval (.tmp 21) = .pointer (some ⟨p, 10, none⟩) := x0
      exact opC_loadB e0 (HK.out.1.below (hr : Below q W0 wF) hpq) #[.int .u32 (s : Int), .int .i32 d, .int .u8 (ek : Int), .int .i64 m] (part_of (by rfl)) rowEv ⟨rfl, Below.refl _ _, hI⟩
    refine ⟨step_freeI rfl (fun aF wF U hs hr hS hI => ?_), ?_⟩
    · obtain ⟨x0, -⟩ := hs
      have e0 : aF.eval (.tmp 3) = .pointer (some ⟨q, 0, none⟩) := x0
      refine opC_value (v := .pointer (some ⟨q, 1, none⟩)) ?_ ⟨rfl, Below.refl _ _, hI⟩
      have t0 := ev_of e0
      simp [execOp, go_sem, t0]
    refine ⟨step_freeI rfl (fun aF wF U hs hr hS hI => ?_), ?_⟩
    · obtain ⟨x0, x1, -⟩ := hs
      have e0 : aF.eval (.tmp 23) = .pointer (some ⟨q, 1, none⟩) := x0
      have e1 : aF.eval (.tmp 20) = .int .u32 (a : Int) := x1
      refine opC_store1 e0 e1 hI (by show 1 < 14; decide) (fun u hc hf => by go_simp) fun w' ho hb => ⟨trivial, below_only ho (Nat.le_refl _), by
        rw [ordT_loan] at hb
        exact hb⟩
    refine ⟨step_freeI rfl (fun aF wF U hs hr hS hI => ?_), ?_⟩
    · obtain ⟨x0, -⟩ := hs
      have e0 : aF.eval (.tmp 3) = .pointer (some ⟨q, 0, none⟩) := x0
      refine opC_value (v := .pointer (some ⟨q, 10, none⟩)) ?_ ⟨rfl, Below.refl _ _, hI⟩
      have t0 := ev_of e0
      simp [execOp, go_sem, t0]
    refine ⟨step_freeI rfl (fun aF wF U hs hr hS hI => ?_), ?_⟩
    · obtain ⟨x0, x1, -⟩ := hs
      have e0 : aF.eval (.tmp 24) = .pointer (some ⟨q, 10, none⟩) := x0
      have e1 : aF.eval (.tmp 22) = .agg #[.int .u32 (s : Int), .int .i32 d, .int .u8 (ek : Int), .int .i64 m] := x1
      exact opC_storeM e0 e1 hI (by show 10 + 4 ≤ 14; decide) (by kernel_rfl) (by simp [Value.oneCell']) fun w' ho hb => ⟨trivial, below_only ho (Nat.le_refl _), by
        rw [ordT_event] at hb
        exact hb⟩
    exact trivial
  · intro f w9 U hf hb9 hall hI
    have e5 : U 5 = true := hall 5 (by decide)
    have e7 : U 7 = true := hall 7 (by decide)
    simp only [e5, e7, cond_true] at hI
    have hY9 := HK.out.2.1.below (hb9 : Below q W0 w9) hrq
    have HB9 := Lib.hid (HK.out.2.2.2.trans ((hb9 : Below q W0 w9).mono (by omega)))
    have HI := Lib.hid hI
    have HY := Lib.hid hY9
    clear hI hY9 hf hall e5 e7 hb9
    simp only [putF, Act.put, List.setIfInBounds_toArray, List.set_cons_zero, List.set_cons_succ]
    go_upto_region 9 with (fail)
    go_wp2_with (first | (with_reducible refine wpl_loadB (o := ⟨some 35, _, _, _, _, _⟩) rfl 32 (.tmp 3) rfl q 0 rfl HI.out #[.int .u8 (k : Int), .int .u32 (a : Int), .int .u8 0, .int .i64 0, .int .u32 0, .int .u8 0, .int .i64 0, .int .i32 0, .int .i64 0, .int .i64 0, .int .u32 (s : Int), .int .i32 d, .int .u8 (ek : Int), .int .i64 m] ?g1 ?g2 ?_) | (with_reducible refine wpl_storeA (o := ⟨none, _, _, _, _, _⟩) rfl 32 (.tmp 2) (.tmp 35) rfl r rfl #[.int .u8 (k : Int), .int .u32 (a : Int), .int .u8 0, .int .i64 0, .int .u32 0, .int .u8 0, .int .i64 0, .int .i32 0, .int .i64 0, .int .i64 0, .int .u32 (s : Int), .int .i32 d, .int .u8 (ek : Int), .int .i64 m] rfl HY.out ?g5 ?g6 ?g7 ?_))
    case g1 => exact part_of (by rfl)
    case g2 => exact rowOr
    case g5 => rfl
    case g6 => exact rowOr
    case g7 => simp [Value.oneCell']
    intro w10 ho hY10
    have hB10 := HB9.out.trans (below_only ho (show p ≤ r by omega))
    go_wp2_with fail
    obtain ⟨r0, r1, r2, r3, r4, r5, r6, r7, r8, r9, r10, r11, r12, r13⟩ := blk14 hY10
    refine bodyPost_ret (v := .agg #[.int .u8 (k : Int), .int .u32 (a : Int), .int .u8 0, .int .i64 0, .int .u32 0, .int .u8 0, .int .i64 0, .int .i32 0, .int .i64 0, .int .i64 0, .int .u32 (s : Int), .int .i32 d, .int .u8 (ek : Int), .int .i64 m]) ?_ rfl ⟨rfl, by rw [hp]; exact hB10⟩
    simp [results, Tryz.results28, go_sem, r0, r1, r2, r3, r4, r5, r6, r7, r8, r9, r10, r11, r12, r13]
set_option maxRecDepth 100000 in
set_option maxHeartbeats 4000000 in
theorem named_3 (o : Ord) (h : o.k = 3) (w : World) : Calls Tryz.prog 28 #[o.v] w (Ret (Ord.v ⟨o.k, o.a, Trm.zero, ⟨o.e.s, 0, 0, 0⟩⟩) w) := by
  obtain ⟨k, a, ⟨K, P, R, B, M, S, F, G⟩, s, d, ek, m⟩ := o
  dsimp only at h
  have j1 : ((k : Int) == 1) = false := by rw [beq_eq_false_iff_ne]; omega
  have j2 : ((k : Int) == 2) = false := by rw [beq_eq_false_iff_ne]; omega
  have j3 : ((k : Int) == 3) = true := by rw [beq_iff_eq]; omega
  clear h
  show Calls Tryz.prog 28 #[.agg #[.int .u8 (k : Int), .int .u32 (a : Int), .int .u8 (K : Int), .int .i64 P, .int .u32 (R : Int), .int .u8 (B : Int), .int .i64 M, .int .i32 S, .int .i64 F, .int .i64 G, .int .u32 (s : Int), .int .i32 d, .int .u8 (ek : Int), .int .i64 m]] w (Ret (.agg #[.int .u8 (k : Int), .int .u32 (a : Int), .int .u8 0, .int .i64 0, .int .u32 0, .int .u8 0, .int .i64 0, .int .i32 0, .int .i64 0, .int .i64 0, .int .u32 (s : Int), .int .i32 0, .int .u8 0, .int .i64 0]) w)
  obtain ⟨Z, hZ⟩ : ∃ Z : Array Value, Z = #[.int .u8 (k : Int), .int .u32 (a : Int), .int .u8 (K : Int), .int .i64 P, .int .u32 (R : Int), .int .u8 (B : Int), .int .i64 M, .int .i32 S, .int .i64 F, .int .i64 G, .int .u32 (s : Int), .int .i32 d, .int .u8 (ek : Int), .int .i64 m] := ⟨_, rfl⟩
  obtain ⟨Y, hY⟩ : ∃ Y : Array Value, Y = #[.int .u8 0, .int .u32 0, .int .u8 0, .int .i64 0, .int .u32 0, .int .u8 0, .int .i64 0, .int .i32 0, .int .i64 0, .int .i64 0, .int .u32 0, .int .i32 0, .int .u8 0, .int .i64 0] := ⟨_, rfl⟩
  obtain ⟨X, hX⟩ : ∃ X : Array Value, X = #[.int .u8 (k : Int), .int .u32 0, .int .u8 0, .int .i64 0, .int .u32 0, .int .u8 0, .int .i64 0, .int .i32 0, .int .i64 0, .int .i64 0, .int .u32 0, .int .i32 0, .int .u8 0, .int .i64 0] := ⟨_, rfl⟩
  have k1 := ((Blk.new w 32 Z).alloc (.cells Y 32)).alloc (.cells X 32)
  have k2 := (Blk.new (w.alloc (.cells Z 32)) 32 Y).alloc (.cells X 32)
  have k3 := Blk.new ((w.alloc (.cells Z 32)).alloc (.cells Y 32)) 32 X
  have hb := ((b_alloc w (.cells Z 32)).alloc (by simp) (.cells Y 32)).alloc (by simp; omega) (.cells X 32)
  simp only [World.size_alloc] at k2 k3
  obtain ⟨W0, hW⟩ : ∃ W, ((w.alloc (.cells Z 32)).alloc (.cells Y 32)).alloc (.cells X 32) = W := ⟨_, rfl⟩
  rw [hW] at k1 k2 k3 hb
  have HW := Lib.hid hW
  have HK := Lib.hid (And.intro k1 (And.intro k2 (And.intro k3 hb)))
  clear k1 k2 k3 hb hW
  subst hX hY hZ
  go_enter Tryz.func28, Tryz.ntmps28
  go_upto_region 2 with (fail)
  rw [HW.out]
  clear HW
  have z0 := HK.out.1.cell 0
  simp at z0
  obtain ⟨p, hp⟩ : ∃ p, w.heap.size = p := ⟨_, rfl⟩
  obtain ⟨r, hr⟩ : ∃ r, w.heap.size + 1 = r := ⟨_, rfl⟩
  obtain ⟨q, hq⟩ : ∃ q, w.heap.size + 1 + 1 = q := ⟨_, rfl⟩
  have hpq : p < q := by omega
  have hrq : r < q := by omega
  have hpr' : w.heap.size ≤ r := by omega
  rw [hq, hr, hp] at HK
  rw [hp] at z0
  rw [hq, hr, hp]
  go_upto_region 8 with (fail)
  refine wp_region_flowI (R := relB q) (l := [_, _, _, _, _, _, _, _, _, _]) [some 27, some 28, some 29, some 30, some 31, some 32, none, some 33, some 34, none] (fun i => ([.is (.pointer (some ⟨p, 1, none⟩)), .is (.int .u32 (a : Int)), .is (.pointer (some ⟨p, 10, none⟩)), .is (.pointer (some ⟨p, 10, none⟩)), .is (.int .u32 (s : Int)), .is (.pointer (some ⟨q, 1, none⟩)), .any, .is (.pointer (some ⟨q, 10, none⟩)), .is (.pointer (some ⟨q, 10, none⟩)), .any] : List (FlwG (relB q))).getD i .any)
    (fun U W => Blk W q 32 (ordT k (bif U 6 then (a : Int) else 0) 0 0 0 0 0 0 0 0 (bif U 9 then (s : Int) else 0) 0 0 0)) (by kernel_rfl) (by kernel_rfl) rfl ?_ ?_ ?_
  · exact HK.out.2.2.1.drewN 1
  · skip
    refine ⟨step_freeI rfl (fun aF wF U hs hr hS hI => ?_), ?_⟩
    · obtain ⟨x0, -⟩ := hs
      have e0 : aF.eval (.tmp 1) = .pointer (some ⟨p, 0, none⟩) := x0
      refine opC_value (v := .pointer (some ⟨p, 1, none⟩)) ?_ ⟨rfl, Below.refl _ _, hI⟩
      have t0 := ev_of e0
      simp [execOp, go_sem, t0]
    refine ⟨step_freeI rfl (fun aF wF U hs hr hS hI => ?_), ?_⟩
    · obtain ⟨x0, -⟩ := hs
      have e0 : aF.eval (.tmp 27) = .pointer (some ⟨p, 1, none⟩) := x0
      have c1 := (HK.out.1.below (hr : Below q W0 wF) hpq).cell 1
      simp at c1
      refine opC_load e0 ?_ ⟨rfl, Below.refl _ _, hI⟩
      go_simp
    refine ⟨step_freeI rfl (fun aF wF U hs hr hS hI => ?_), ?_⟩
    · obtain ⟨x0, -⟩ := hs
      have e0 : aF.eval (.tmp 1) = .pointer (some ⟨p, 0, none⟩) := x0
      refine opC_value (v := .pointer (some ⟨p, 10, none⟩)) ?_ ⟨rfl, Below.refl _ _, hI⟩
      have t0 := ev_of e0
      simp [execOp, go_sem, t0]
    refine ⟨step_freeI rfl (fun aF wF U hs hr hS hI => ?_), ?_⟩
    · obtain ⟨x0, -⟩ := hs
      have e0 : aF.eval (.tmp 29) = .pointer (some ⟨p, 10, none⟩) := x0
      refine opC_value (v := .pointer (some ⟨p, 10, none⟩)) ?_ ⟨rfl, Below.refl _ _, hI⟩
      have t0 := ev_of e0
      simp [execOp, go_sem, t0]
    refine ⟨step_freeI rfl (fun aF wF U hs hr hS hI => ?_), ?_⟩
    · obtain ⟨x0, -⟩ := hs
      have e0 : aF.eval (.tmp 30) = .pointer (some ⟨p, 10, none⟩) := x0
      have c1 := (HK.out.1.below (hr : Below q W0 wF) hpq).cell 10
      simp at c1
      refine opC_load e0 ?_ ⟨rfl, Below.refl _ _, hI⟩
      go_simp
    refine ⟨step_freeI rfl (fun aF wF U hs hr hS hI => ?_), ?_⟩
    · obtain ⟨x0, -⟩ := hs
      have e0 : aF.eval (.tmp 3) = .pointer (some ⟨q, 0, none⟩) := x0
      refine opC_value (v := .pointer (some ⟨q, 1, none⟩)) ?_ ⟨rfl, Below.refl _ _, hI⟩
      have t0 := ev_of e0
      simp [execOp, go_sem, t0]
    refine ⟨step_freeI rfl (fun aF wF U hs hr hS hI => ?_), ?_⟩
    · obtain ⟨x0, x1, -⟩ := hs
      have e0 : aF.eval (.tmp 32) = .pointer (some ⟨q, 1, none⟩) := x0
      have e1 : aF.eval (.tmp 28) = .int .u32 (a : Int) := x1
      refine opC_store1 e0 e1 hI (by show 1 < 14; decide) (fun u hc hf => by go_simp) fun w' ho hb => ⟨trivial, below_only ho (Nat.le_refl _), by
        rw [ordT_loan] at hb
        exact hb⟩
    refine ⟨step_freeI rfl (fun aF wF U hs hr hS hI => ?_), ?_⟩
    · obtain ⟨x0, -⟩ := hs
      have e0 : aF.eval (.tmp 3) = .pointer (some ⟨q, 0, none⟩) := x0
      refine opC_value (v := .pointer (some ⟨q, 10, none⟩)) ?_ ⟨rfl, Below.refl _ _, hI⟩
      have t0 := ev_of e0
      simp [execOp, go_sem, t0]
    refine ⟨step_freeI rfl (fun aF wF U hs hr hS hI => ?_), ?_⟩
    · obtain ⟨x0, -⟩ := hs
      have e0 : aF.eval (.tmp 33) = .pointer (some ⟨q, 10, none⟩) := x0
      refine opC_value (v := .pointer (some ⟨q, 10, none⟩)) ?_ ⟨rfl, Below.refl _ _, hI⟩
      have t0 := ev_of e0
      simp [execOp, go_sem, t0]
    refine ⟨step_freeI rfl (fun aF wF U hs hr hS hI => ?_), ?_⟩
    · obtain ⟨x0, x1, -⟩ := hs
      have e0 : aF.eval (.tmp 34) = .pointer (some ⟨q, 10, none⟩) := x0
      have e1 : aF.eval (.tmp 31) = .int .u32 (s : Int) := x1
      refine opC_store1 e0 e1 hI (by show 10 < 14; decide) (fun u hc hf => by go_simp) fun w' ho hb => ⟨trivial, below_only ho (Nat.le_refl _), by
        rw [ordT_seq] at hb
        exact hb⟩
    exact trivial
  · intro f w9 U hf hb9 hall hI
    have e5 : U 6 = true := hall 6 (by decide)
    have e7 : U 9 = true := hall 9 (by decide)
    simp only [e5, e7, cond_true] at hI
    have hY9 := HK.out.2.1.below (hb9 : Below q W0 w9) hrq
    have HB9 := Lib.hid (HK.out.2.2.2.trans ((hb9 : Below q W0 w9).mono (by omega)))
    have HI := Lib.hid hI
    have HY := Lib.hid hY9
    clear hI hY9 hf hall e5 e7 hb9
    simp only [putF, Act.put, List.setIfInBounds_toArray, List.set_cons_zero, List.set_cons_succ]
    go_upto_region 9 with (fail)
    go_wp2_with (first | (with_reducible refine wpl_loadB (o := ⟨some 35, _, _, _, _, _⟩) rfl 32 (.tmp 3) rfl q 0 rfl HI.out #[.int .u8 (k : Int), .int .u32 (a : Int), .int .u8 0, .int .i64 0, .int .u32 0, .int .u8 0, .int .i64 0, .int .i32 0, .int .i64 0, .int .i64 0, .int .u32 (s : Int), .int .i32 0, .int .u8 0, .int .i64 0] ?g1 ?g2 ?_) | (with_reducible refine wpl_storeA (o := ⟨none, _, _, _, _, _⟩) rfl 32 (.tmp 2) (.tmp 35) rfl r rfl #[.int .u8 (k : Int), .int .u32 (a : Int), .int .u8 0, .int .i64 0, .int .u32 0, .int .u8 0, .int .i64 0, .int .i32 0, .int .i64 0, .int .i64 0, .int .u32 (s : Int), .int .i32 0, .int .u8 0, .int .i64 0] rfl HY.out ?g5 ?g6 ?g7 ?_))
    case g1 => exact part_of (by rfl)
    case g2 => exact rowOr
    case g5 => rfl
    case g6 => exact rowOr
    case g7 => simp [Value.oneCell']
    intro w10 ho hY10
    have hB10 := HB9.out.trans (below_only ho (show p ≤ r by omega))
    go_wp2_with fail
    obtain ⟨r0, r1, r2, r3, r4, r5, r6, r7, r8, r9, r10, r11, r12, r13⟩ := blk14 hY10
    refine bodyPost_ret (v := .agg #[.int .u8 (k : Int), .int .u32 (a : Int), .int .u8 0, .int .i64 0, .int .u32 0, .int .u8 0, .int .i64 0, .int .i32 0, .int .i64 0, .int .i64 0, .int .u32 (s : Int), .int .i32 0, .int .u8 0, .int .i64 0]) ?_ rfl ⟨rfl, by rw [hp]; exact hB10⟩
    simp [results, Tryz.results28, go_sem, r0, r1, r2, r3, r4, r5, r6, r7, r8, r9, r10, r11, r12, r13]
set_option maxRecDepth 100000 in
set_option maxHeartbeats 4000000 in
theorem named_4 (o : Ord) (h1 : o.k ≠ 1) (h2 : o.k ≠ 2) (h3 : o.k ≠ 3) (w : World) : Calls Tryz.prog 28 #[o.v] w (Ret (Ord.v ⟨o.k, 0, Trm.zero, Evt.zero⟩) w) := by
  obtain ⟨k, a, ⟨K, P, R, B, M, S, F, G⟩, s, d, ek, m⟩ := o
  dsimp only at h1 h2 h3
  have j1 : ((k : Int) == 1) = false := by rw [beq_eq_false_iff_ne]; omega
  have j2 : ((k : Int) == 2) = false := by rw [beq_eq_false_iff_ne]; omega
  have j3 : ((k : Int) == 3) = false := by rw [beq_eq_false_iff_ne]; omega
  clear h1 h2 h3
  show Calls Tryz.prog 28 #[.agg #[.int .u8 (k : Int), .int .u32 (a : Int), .int .u8 (K : Int), .int .i64 P, .int .u32 (R : Int), .int .u8 (B : Int), .int .i64 M, .int .i32 S, .int .i64 F, .int .i64 G, .int .u32 (s : Int), .int .i32 d, .int .u8 (ek : Int), .int .i64 m]] w (Ret (.agg #[.int .u8 (k : Int), .int .u32 0, .int .u8 0, .int .i64 0, .int .u32 0, .int .u8 0, .int .i64 0, .int .i32 0, .int .i64 0, .int .i64 0, .int .u32 0, .int .i32 0, .int .u8 0, .int .i64 0]) w)
  obtain ⟨Z, hZ⟩ : ∃ Z : Array Value, Z = #[.int .u8 (k : Int), .int .u32 (a : Int), .int .u8 (K : Int), .int .i64 P, .int .u32 (R : Int), .int .u8 (B : Int), .int .i64 M, .int .i32 S, .int .i64 F, .int .i64 G, .int .u32 (s : Int), .int .i32 d, .int .u8 (ek : Int), .int .i64 m] := ⟨_, rfl⟩
  obtain ⟨Y, hY⟩ : ∃ Y : Array Value, Y = #[.int .u8 0, .int .u32 0, .int .u8 0, .int .i64 0, .int .u32 0, .int .u8 0, .int .i64 0, .int .i32 0, .int .i64 0, .int .i64 0, .int .u32 0, .int .i32 0, .int .u8 0, .int .i64 0] := ⟨_, rfl⟩
  obtain ⟨X, hX⟩ : ∃ X : Array Value, X = #[.int .u8 (k : Int), .int .u32 0, .int .u8 0, .int .i64 0, .int .u32 0, .int .u8 0, .int .i64 0, .int .i32 0, .int .i64 0, .int .i64 0, .int .u32 0, .int .i32 0, .int .u8 0, .int .i64 0] := ⟨_, rfl⟩
  have k1 := ((Blk.new w 32 Z).alloc (.cells Y 32)).alloc (.cells X 32)
  have k2 := (Blk.new (w.alloc (.cells Z 32)) 32 Y).alloc (.cells X 32)
  have k3 := Blk.new ((w.alloc (.cells Z 32)).alloc (.cells Y 32)) 32 X
  have hb := ((b_alloc w (.cells Z 32)).alloc (by simp) (.cells Y 32)).alloc (by simp; omega) (.cells X 32)
  simp only [World.size_alloc] at k2 k3
  obtain ⟨W0, hW⟩ : ∃ W, ((w.alloc (.cells Z 32)).alloc (.cells Y 32)).alloc (.cells X 32) = W := ⟨_, rfl⟩
  rw [hW] at k1 k2 k3 hb
  have HW := Lib.hid hW
  have HK := Lib.hid (And.intro k1 (And.intro k2 (And.intro k3 hb)))
  clear k1 k2 k3 hb hW
  subst hX hY hZ
  go_enter Tryz.func28, Tryz.ntmps28
  go_upto_region 2 with (fail)
  rw [HW.out]
  clear HW
  have z0 := HK.out.1.cell 0
  simp at z0
  obtain ⟨p, hp⟩ : ∃ p, w.heap.size = p := ⟨_, rfl⟩
  obtain ⟨r, hr⟩ : ∃ r, w.heap.size + 1 = r := ⟨_, rfl⟩
  obtain ⟨q, hq⟩ : ∃ q, w.heap.size + 1 + 1 = q := ⟨_, rfl⟩
  have hpq : p < q := by omega
  have hrq : r < q := by omega
  have hpr' : w.heap.size ≤ r := by omega
  rw [hq, hr, hp] at HK
  rw [hp] at z0
  rw [hq, hr, hp]
  have HI := Lib.hid HK.out.2.2.1
  have HY := Lib.hid HK.out.2.1
  have HB9 := Lib.hid HK.out.2.2.2
  go_upto_region 9 with (fail)
  go_wp2_with (first | (with_reducible refine wpl_loadB (o := ⟨some 35, _, _, _, _, _⟩) rfl 32 (.tmp 3) rfl q 0 rfl HI.out #[.int .u8 (k : Int), .int .u32 0, .int .u8 0, .int .i64 0, .int .u32 0, .int .u8 0, .int .i64 0, .int .i32 0, .int .i64 0, .int .i64 0, .int .u32 0, .int .i32 0, .int .u8 0, .int .i64 0] ?g1 ?g2 ?_) | (with_reducible refine wpl_storeA (o := ⟨none, _, _, _, _, _⟩) rfl 32 (.tmp 2) (.tmp 35) rfl r rfl #[.int .u8 (k : Int), .int .u32 0, .int .u8 0, .int .i64 0, .int .u32 0, .int .u8 0, .int .i64 0, .int .i32 0, .int .i64 0, .int .i64 0, .int .u32 0, .int .i32 0, .int .u8 0, .int .i64 0] rfl HY.out ?g5 ?g6 ?g7 ?_))
  case g1 => exact part_of (by rfl)
  case g2 => exact rowOr
  case g5 => rfl
  case g6 => exact rowOr
  case g7 => simp [Value.oneCell']
  intro w10 ho hY10
  have hB10 := HB9.out.trans (below_only ho (show p ≤ r by omega))
  go_wp2_with fail
  obtain ⟨r0, r1, r2, r3, r4, r5, r6, r7, r8, r9, r10, r11, r12, r13⟩ := blk14 hY10
  refine bodyPost_ret (v := .agg #[.int .u8 (k : Int), .int .u32 0, .int .u8 0, .int .i64 0, .int .u32 0, .int .u8 0, .int .i64 0, .int .i32 0, .int .i64 0, .int .i64 0, .int .u32 0, .int .i32 0, .int .u8 0, .int .i64 0]) ?_ rfl ⟨rfl, by rw [hp]; exact hB10⟩
  simp [results, Tryz.results28, go_sem, r0, r1, r2, r3, r4, r5, r6, r7, r8, r9, r10, r11, r12, r13]
end Go.Proofs.YtjlajnackecfgaaGreatDoor
