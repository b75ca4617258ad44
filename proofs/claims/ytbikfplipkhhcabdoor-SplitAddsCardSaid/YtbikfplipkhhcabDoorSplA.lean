/-
  split: Right, take, From, Pay, Less. Conditions: the numbers' kinds.
-/
import Derived.Test.YtbikfplipkhhcabDoorMem
import Derived.Handy
import Derived.RegionTactic
import Derived.BigRegion
import Derived.Deep.RegionHeld3
namespace Go.Proofs.YtbikfplipkhhcabDoor
open Go.RowKit Go.BigFrame

def Ret (v : Value) (w : World) (e : Ending) (w' : World) : Prop := e = .returned v ∧ Below w.heap.size w w'
def eno (n : Int) : Value := .iface 31 (.int .i64 n)
theorem b_alloc (w : World) (o : Obj) : Below w.heap.size w (w.alloc o) := (Below.refl _ w).alloc (Nat.le_refl _) o
theorem one_b {w w' : World} {o : Obj} (h : Below (w.alloc o).heap.size (w.alloc o) w') : Below w.heap.size w w' := (b_alloc w o).trans (h.mono (by simp))
/-- What is owed. -/
def ov (f i p : Int) : Value := .agg #[.int .i64 f, .int .i64 i, .int .i64 p]
/-- Within 64 bits. -/
def F64 (x : Int) : Prop := -9223372036854775808 ≤ x ∧ x ≤ 9223372036854775807
def okO (f i p : Int) : Prop := 0 ≤ f ∧ 0 ≤ i ∧ 0 ≤ p
instance (f i p : Int) : Decidable (okO f i p) := inferInstanceAs (Decidable (_ ∧ _))

set_option maxHeartbeats 1000000 in
theorem Least_any (a b : Int) (w : World) :
    Calls Tryd.prog 29 #[.int .i64 a, .int .i64 b] w fun e w' => e = .returned (.int .i64 (min a b)) ∧ w = w' := by
  by_cases h : a ≤ b
  · rw [show min a b = a by omega]
    go_enter Tryd.func29, Tryd.ntmps29
    go_wp2
    all_goals first
      | (go_ret; exact ⟨rfl, rfl⟩)
      | (exfalso; omega)
  · rw [show min a b = b by omega]
    go_enter Tryd.func29, Tryd.ntmps29
    go_wp2
    all_goals first
      | (go_ret; exact ⟨rfl, rfl⟩)
      | (exfalso; omega)
set_option maxRecDepth 20000 in
set_option maxHeartbeats 4000000 in
theorem ORight_any (f i p : Int) (w : World) : Calls Tryd.prog 10 #[ov f i p] w (Ret (.bool (decide (okO f i p))) w) := by
  unfold ov
  rcases (show okO f i p ∨ f < 0 ∨ (0 ≤ f ∧ i < 0) ∨ (0 ≤ f ∧ 0 ≤ i ∧ p < 0) by unfold okO; omega) with h | h | h | h
  · rw [decide_eq_true h]
    obtain ⟨h0, h1, h2⟩ := h
    go_enter Tryd.func10, Tryd.ntmps10
    go_wp2_with fail
    go_ret
    exact ⟨by first | rfl | simp [h2], b_alloc _ _⟩
  · rw [decide_eq_false (fun e => by have := e.1; omega)]
    go_enter Tryd.func10, Tryd.ntmps10
    go_wp2_with fail
    go_ret
    exact ⟨by first | rfl | simp, b_alloc _ _⟩
  · rw [decide_eq_false (fun e => by have := e.2.1; omega)]
    obtain ⟨h0, h1⟩ := h
    go_enter Tryd.func10, Tryd.ntmps10
    go_wp2_with fail
    go_ret
    exact ⟨by first | rfl | simp, b_alloc _ _⟩
  · rw [decide_eq_false (fun e => by have := e.2.2; omega)]
    obtain ⟨h0, h1, h2⟩ := h
    go_enter Tryd.func10, Tryd.ntmps10
    go_wp2_with fail
    go_ret
    exact ⟨by first | rfl | (simp; omega), b_alloc _ _⟩
theorem ORight_yes {f i p : Int} (h : okO f i p) (w : World) : Calls Tryd.prog 10 #[ov f i p] w (Ret (.bool true) w) := by
  have := ORight_any f i p w
  rwa [decide_eq_true h] at this
theorem ORight_no {f i p : Int} (h : ¬ okO f i p) (w : World) : Calls Tryd.prog 10 #[ov f i p] w (Ret (.bool false) w) := by
  have := ORight_any f i p w
  rwa [decide_eq_false h] at this
set_option maxRecDepth 20000 in
set_option maxHeartbeats 4000000 in
theorem take_any {o a n r : Int} (h0 : 0 ≤ o) (h1 : 0 ≤ a) (ha : a ≤ 9223372036854775807) (hn : min o a = n) (hr : a - n = r) (w : World) :
    Calls Tryd.prog 21 #[.int .i64 o, .int .i64 a] w fun e w' => e = .returned (.tuple #[.int .i64 n, .int .i64 r]) ∧ w = w' := by
  have hL := fun W => Least_any o a W
  rw [hn] at hL
  have i1 : IntKind.i64.wrap r = r := by rw [IntKind.wrap_i64]; omega
  have hb : 0 ≤ r := by omega
  clear hn h0 h1 ha hb
  go_enter Tryd.func21, Tryd.ntmps21
  go_wp2_with fail
  refine (hL _).mono ?_
  rintro e w99 ⟨rfl, rfl⟩
  go_wp2_with fail
  go_ret2
  exact ⟨rfl, rfl⟩
theorem set3 {w : World} {g : Nat} {T : TypeId} {a b c : Value} (h : Blk w g T #[a, b, c]) (x y z : Value) :
    Blk (((w.setCell ⟨g, 0, none⟩ x).setCell ⟨g, 1, none⟩ y).setCell ⟨g, 2, none⟩ z) g T #[x, y, z] := ((h.set_ 0 x).set_ 1 y).set_ 2 z
theorem below_set3 {w w' : World} {B g : Nat} (h : Below B w w') (hg : B ≤ g) (x y z : Value) : Below B w (((w'.setCell ⟨g, 0, none⟩ x).setCell ⟨g, 1, none⟩ y).setCell ⟨g, 2, none⟩ z) :=
  ((h.setCell hg _).setCell hg _).setCell hg _
set_option maxRecDepth 20000 in
theorem fin_any {w W : World} {T : Array Value} {x y z : Int} {u v : Value} (hB : Below w.heap.size w W) (hQ : Blk W (w.heap.size + 1) 24 #[.int .i64 x, .int .i64 y, .int .i64 z]) (h6 : T[6]? = some (.pointer (some ⟨w.heap.size + 1, 0, none⟩))) (h7 : T[7]? = some u) (h8 : T[8]? = some v) :
    bodyPost Tryd.prog Tryd.f8 (Ret (.tuple #[ov x y z, u, v]) w) Exit.ret { tmps := T, defers := [] } W := by
  have c0 := hQ.cell 0
  have c1 := hQ.cell 1
  have c2 := hQ.cell 2
  simp at c0 c1 c2
  unfold ov
  refine bodyPost_ret (v := .tuple #[.agg #[.int .i64 x, .int .i64 y, .int .i64 z], u, v]) ?_ rfl ⟨rfl, hB⟩
  simp [results, Tryd.results8, go_sem, h6, h7, h8, c0, c1, c2, Result.andThen]
/-- Where a payment goes. -/
def Goes (s : Nat) (f i p a x y z r : Int) : Prop := x = (if s = 0 then min f a else 0) ∧ y = (if s ≤ 1 then min i (a - x) else 0) ∧ z = (if s ≤ 2 then min p (a - x - y) else 0) ∧ r = a - x - y - z
set_option maxRecDepth 20000 in
set_option maxHeartbeats 4000000 in
theorem From_neg {f i p a : Int} {s : Nat} (h : ¬ (okO f i p ∧ 0 ≤ a)) (w : World) :
    Calls Tryd.prog 8 #[ov f i p, .int .u8 (s : Int), .int .i64 a] w (Ret (.tuple #[ov 0 0 0, .int .i64 0, eno 1]) w) := by
  by_cases hk : okO f i p
  · have hR := fun W => ORight_yes hk W
    have ha : a < 0 := by
      rcases Int.lt_or_le a 0 with h1 | h1
      · exact h1
      · exact absurd ⟨hk, h1⟩ h
    unfold ov eno at *
    clear h hk
    go_enter Tryd.func8, Tryd.ntmps8
    have HQ0 := Lib.hid (Blk.new w 24 #[.int .i64 f, .int .i64 i, .int .i64 p])
    have HB0 := Lib.hid (b_alloc w (.cells #[.int .i64 f, .int .i64 i, .int .i64 p] 24))
    have HQ1_0 := Lib.hid (HQ0.out.alloc (.cells #[.int .i64 0, .int .i64 0, .int .i64 0] 24))
    have HQ1_1 : Hid (Blk ((w.alloc (.cells #[.int .i64 f, .int .i64 i, .int .i64 p] 24)).alloc (.cells #[.int .i64 0, .int .i64 0, .int .i64 0] 24)) (w.heap.size + 1) 24 #[.int .i64 0, .int .i64 0, .int .i64 0]) := Lib.hid (by
      have h := Blk.new (w.alloc (.cells #[.int .i64 f, .int .i64 i, .int .i64 p] 24)) 24 #[.int .i64 0, .int .i64 0, .int .i64 0]
      rw [show (w.alloc (.cells #[.int .i64 f, .int .i64 i, .int .i64 p] 24)).heap.size = w.heap.size + 1 by simp] at h
      exact h)
    have HB1 := Lib.hid (HB0.out.alloc HB0.out.size (.cells #[.int .i64 0, .int .i64 0, .int .i64 0] 24))
    go_wp2_with fail
    refine (hR _).mono ?_
    rintro e w2 ⟨rfl, hb2⟩
    have HQ2_0 := Lib.hid (HQ1_0.out.below hb2 HQ1_0.out.lt)
    have HQ2_1 := Lib.hid (HQ1_1.out.below hb2 HQ1_1.out.lt)
    have HB2 := Lib.hid (HB1.out.trans (hb2.mono HB1.out.size))
    clear hb2
    have c2_0_0 := HQ2_0.out.cell 0
    have c2_0_1 := HQ2_0.out.cell 1
    have c2_0_2 := HQ2_0.out.cell 2
    have z2_0 := HQ2_0.out.lt
    have c2_1_0 := HQ2_1.out.cell 0
    have f2_1_0 := HQ2_1.out.frozen 0
    have c2_1_1 := HQ2_1.out.cell 1
    have f2_1_1 := HQ2_1.out.frozen 1
    have c2_1_2 := HQ2_1.out.cell 2
    have f2_1_2 := HQ2_1.out.frozen 2
    have z2_1 := HQ2_1.out.lt
    try simp at c2_0_0 c2_0_1 c2_0_2 c2_1_0 f2_1_0 c2_1_1 f2_1_1 c2_1_2 f2_1_2
    go_wp2_with fail
    exact fin_any (below_set3 HB2.out (Nat.le_succ _) _ _ _) (set3 HQ2_1.out _ _ _) rfl rfl rfl
  · have hR := fun W => ORight_no hk W
    unfold ov eno at *
    clear h hk
    go_enter Tryd.func8, Tryd.ntmps8
    have HQ0 := Lib.hid (Blk.new w 24 #[.int .i64 f, .int .i64 i, .int .i64 p])
    have HB0 := Lib.hid (b_alloc w (.cells #[.int .i64 f, .int .i64 i, .int .i64 p] 24))
    have HQ1_0 := Lib.hid (HQ0.out.alloc (.cells #[.int .i64 0, .int .i64 0, .int .i64 0] 24))
    have HQ1_1 : Hid (Blk ((w.alloc (.cells #[.int .i64 f, .int .i64 i, .int .i64 p] 24)).alloc (.cells #[.int .i64 0, .int .i64 0, .int .i64 0] 24)) (w.heap.size + 1) 24 #[.int .i64 0, .int .i64 0, .int .i64 0]) := Lib.hid (by
      have h := Blk.new (w.alloc (.cells #[.int .i64 f, .int .i64 i, .int .i64 p] 24)) 24 #[.int .i64 0, .int .i64 0, .int .i64 0]
      rw [show (w.alloc (.cells #[.int .i64 f, .int .i64 i, .int .i64 p] 24)).heap.size = w.heap.size + 1 by simp] at h
      exact h)
    have HB1 := Lib.hid (HB0.out.alloc HB0.out.size (.cells #[.int .i64 0, .int .i64 0, .int .i64 0] 24))
    go_wp2_with fail
    refine (hR _).mono ?_
    rintro e w2 ⟨rfl, hb2⟩
    have HQ2_0 := Lib.hid (HQ1_0.out.below hb2 HQ1_0.out.lt)
    have HQ2_1 := Lib.hid (HQ1_1.out.below hb2 HQ1_1.out.lt)
    have HB2 := Lib.hid (HB1.out.trans (hb2.mono HB1.out.size))
    clear hb2
    have c2_0_0 := HQ2_0.out.cell 0
    have c2_0_1 := HQ2_0.out.cell 1
    have c2_0_2 := HQ2_0.out.cell 2
    have z2_0 := HQ2_0.out.lt
    have c2_1_0 := HQ2_1.out.cell 0
    have f2_1_0 := HQ2_1.out.frozen 0
    have c2_1_1 := HQ2_1.out.cell 1
    have f2_1_1 := HQ2_1.out.frozen 1
    have c2_1_2 := HQ2_1.out.cell 2
    have f2_1_2 := HQ2_1.out.frozen 2
    have z2_1 := HQ2_1.out.lt
    try simp at c2_0_0 c2_0_1 c2_0_2 c2_1_0 f2_1_0 c2_1_1 f2_1_1 c2_1_2 f2_1_2
    go_wp2_with fail
    exact fin_any (below_set3 HB2.out (Nat.le_succ _) _ _ _) (set3 HQ2_1.out _ _ _) rfl rfl rfl
set_option maxRecDepth 20000 in
set_option maxHeartbeats 4000000 in
theorem From_0 {f i p a x y z r : Int} (hk : okO f i p) (h0 : 0 ≤ a) (ha : a ≤ 9223372036854775807) (hg : Goes 0 f i p a x y z r) (w : World) :
    Calls Tryd.prog 8 #[ov f i p, .int .u8 0, .int .i64 a] w (Ret (.tuple #[ov x y z, .int .i64 r, .nilIface]) w) := by
  have hR := fun W => ORight_yes hk W
  obtain ⟨k0, k1, k2⟩ := hk
  obtain ⟨g0, g1, g2, g3⟩ := hg
  simp only [Nat.reduceLeDiff, if_true] at g0 g1 g2
  obtain ⟨a1, ha1⟩ : ∃ a1, a - x = a1 := ⟨_, rfl⟩
  obtain ⟨a2, ha2⟩ : ∃ a2, a1 - y = a2 := ⟨_, rfl⟩
  rw [ha1] at g1 g2 g3
  rw [ha2] at g2 g3
  have hT0 := fun W => take_any k0 h0 ha g0.symm ha1 W
  have hT1 := fun W => take_any k1 (a := a1) (by omega) (by omega) g1.symm ha2 W
  have hT2 := fun W => take_any k2 (a := a2) (by omega) (by omega) g2.symm g3.symm W
  unfold ov at *
  have e0 : ¬ a < 0 := by omega
  clear k0 k1 k2 g0 g1 g2
  clear g3 ha
  clear ha1 ha2
  go_enter Tryd.func8, Tryd.ntmps8
  have HQ0 := Lib.hid (Blk.new w 24 #[.int .i64 f, .int .i64 i, .int .i64 p])
  have HB0 := Lib.hid (b_alloc w (.cells #[.int .i64 f, .int .i64 i, .int .i64 p] 24))
  have HQ1_0 := Lib.hid (HQ0.out.alloc (.cells #[.int .i64 0, .int .i64 0, .int .i64 0] 24))
  have HQ1_1 : Hid (Blk ((w.alloc (.cells #[.int .i64 f, .int .i64 i, .int .i64 p] 24)).alloc (.cells #[.int .i64 0, .int .i64 0, .int .i64 0] 24)) (w.heap.size + 1) 24 #[.int .i64 0, .int .i64 0, .int .i64 0]) := Lib.hid (by
    have h := Blk.new (w.alloc (.cells #[.int .i64 f, .int .i64 i, .int .i64 p] 24)) 24 #[.int .i64 0, .int .i64 0, .int .i64 0]
    rw [show (w.alloc (.cells #[.int .i64 f, .int .i64 i, .int .i64 p] 24)).heap.size = w.heap.size + 1 by simp] at h
    exact h)
  have HB1 := Lib.hid (HB0.out.alloc HB0.out.size (.cells #[.int .i64 0, .int .i64 0, .int .i64 0] 24))
  go_wp2_with fail
  refine (hR _).mono ?_
  rintro e w2 ⟨rfl, hb2⟩
  have HQ2_0 := Lib.hid (HQ1_0.out.below hb2 HQ1_0.out.lt)
  have HQ2_1 := Lib.hid (HQ1_1.out.below hb2 HQ1_1.out.lt)
  have HB2 := Lib.hid (HB1.out.trans (hb2.mono HB1.out.size))
  clear hb2
  have c2_0_0 := HQ2_0.out.cell 0
  have c2_0_1 := HQ2_0.out.cell 1
  have c2_0_2 := HQ2_0.out.cell 2
  have z2_0 := HQ2_0.out.lt
  have c2_1_0 := HQ2_1.out.cell 0
  have f2_1_0 := HQ2_1.out.frozen 0
  have c2_1_1 := HQ2_1.out.cell 1
  have f2_1_1 := HQ2_1.out.frozen 1
  have c2_1_2 := HQ2_1.out.cell 2
  have f2_1_2 := HQ2_1.out.frozen 2
  have z2_1 := HQ2_1.out.lt
  try simp at c2_0_0 c2_0_1 c2_0_2 c2_1_0 f2_1_0 c2_1_1 f2_1_1 c2_1_2 f2_1_2
  go_wp2_with fail
  refine (hT0 _).mono ?_
  rintro e w99 ⟨rfl, rfl⟩
  go_wp2_with fail
  refine (hT1 _).mono ?_
  rintro e w99 ⟨rfl, rfl⟩
  go_wp2_with fail
  refine (hT2 _).mono ?_
  rintro e w99 ⟨rfl, rfl⟩
  go_wp2_with fail
  exact fin_any ((below_set3 HB2.out (Nat.le_succ _) _ _ _).alloc (by have := HB2.out.size; simp; omega) _) ((set3 HQ2_1.out _ _ _).alloc _) rfl rfl rfl
set_option maxRecDepth 20000 in
set_option maxHeartbeats 4000000 in
theorem From_1 {f i p a x y z r : Int} (hk : okO f i p) (h0 : 0 ≤ a) (ha : a ≤ 9223372036854775807) (hg : Goes 1 f i p a x y z r) (w : World) :
    Calls Tryd.prog 8 #[ov f i p, .int .u8 1, .int .i64 a] w (Ret (.tuple #[ov x y z, .int .i64 r, .nilIface]) w) := by
  have hR := fun W => ORight_yes hk W
  obtain ⟨k0, k1, k2⟩ := hk
  obtain ⟨g0, g1, g2, g3⟩ := hg
  simp only [Nat.reduceLeDiff, Nat.reduceEqDiff, if_true, if_false] at g0 g1 g2
  obtain ⟨a1, ha1⟩ : ∃ a1, a - x = a1 := ⟨_, rfl⟩
  obtain ⟨a2, ha2⟩ : ∃ a2, a1 - y = a2 := ⟨_, rfl⟩
  rw [ha1] at g1 g2 g3
  rw [ha2] at g2 g3
  subst g0
  obtain rfl : a1 = a := by omega
  have hT1 := fun W => take_any k1 (a := a1) (by omega) (by omega) g1.symm ha2 W
  have hT2 := fun W => take_any k2 (a := a2) (by omega) (by omega) g2.symm g3.symm W
  unfold ov at *
  have e0 : ¬ a1 < 0 := by omega
  clear k0 k1 k2 g1 g2
  clear g3 ha
  clear ha1 ha2
  go_enter Tryd.func8, Tryd.ntmps8
  have HQ0 := Lib.hid (Blk.new w 24 #[.int .i64 f, .int .i64 i, .int .i64 p])
  have HB0 := Lib.hid (b_alloc w (.cells #[.int .i64 f, .int .i64 i, .int .i64 p] 24))
  have HQ1_0 := Lib.hid (HQ0.out.alloc (.cells #[.int .i64 0, .int .i64 0, .int .i64 0] 24))
  have HQ1_1 : Hid (Blk ((w.alloc (.cells #[.int .i64 f, .int .i64 i, .int .i64 p] 24)).alloc (.cells #[.int .i64 0, .int .i64 0, .int .i64 0] 24)) (w.heap.size + 1) 24 #[.int .i64 0, .int .i64 0, .int .i64 0]) := Lib.hid (by
    have h := Blk.new (w.alloc (.cells #[.int .i64 f, .int .i64 i, .int .i64 p] 24)) 24 #[.int .i64 0, .int .i64 0, .int .i64 0]
    rw [show (w.alloc (.cells #[.int .i64 f, .int .i64 i, .int .i64 p] 24)).heap.size = w.heap.size + 1 by simp] at h
    exact h)
  have HB1 := Lib.hid (HB0.out.alloc HB0.out.size (.cells #[.int .i64 0, .int .i64 0, .int .i64 0] 24))
  go_wp2_with fail
  refine (hR _).mono ?_
  rintro e w2 ⟨rfl, hb2⟩
  have HQ2_0 := Lib.hid (HQ1_0.out.below hb2 HQ1_0.out.lt)
  have HQ2_1 := Lib.hid (HQ1_1.out.below hb2 HQ1_1.out.lt)
  have HB2 := Lib.hid (HB1.out.trans (hb2.mono HB1.out.size))
  clear hb2
  have c2_0_0 := HQ2_0.out.cell 0
  have c2_0_1 := HQ2_0.out.cell 1
  have c2_0_2 := HQ2_0.out.cell 2
  have z2_0 := HQ2_0.out.lt
  have c2_1_0 := HQ2_1.out.cell 0
  have f2_1_0 := HQ2_1.out.frozen 0
  have c2_1_1 := HQ2_1.out.cell 1
  have f2_1_1 := HQ2_1.out.frozen 1
  have c2_1_2 := HQ2_1.out.cell 2
  have f2_1_2 := HQ2_1.out.frozen 2
  have z2_1 := HQ2_1.out.lt
  try simp at c2_0_0 c2_0_1 c2_0_2 c2_1_0 f2_1_0 c2_1_1 f2_1_1 c2_1_2 f2_1_2
  go_wp2_with fail
  refine (hT1 _).mono ?_
  rintro e w99 ⟨rfl, rfl⟩
  go_wp2_with fail
  refine (hT2 _).mono ?_
  rintro e w99 ⟨rfl, rfl⟩
  go_wp2_with fail
  exact fin_any ((below_set3 HB2.out (Nat.le_succ _) _ _ _).alloc (by have := HB2.out.size; simp; omega) _) ((set3 HQ2_1.out _ _ _).alloc _) rfl rfl rfl
set_option maxRecDepth 20000 in
set_option maxHeartbeats 4000000 in
theorem From_2 {f i p a x y z r : Int} (hk : okO f i p) (h0 : 0 ≤ a) (ha : a ≤ 9223372036854775807) (hg : Goes 2 f i p a x y z r) (w : World) :
    Calls Tryd.prog 8 #[ov f i p, .int .u8 2, .int .i64 a] w (Ret (.tuple #[ov x y z, .int .i64 r, .nilIface]) w) := by
  have hR := fun W => ORight_yes hk W
  obtain ⟨k0, k1, k2⟩ := hk
  obtain ⟨g0, g1, g2, g3⟩ := hg
  simp only [Nat.reduceLeDiff, Nat.reduceEqDiff, if_true, if_false] at g0 g1 g2
  obtain ⟨a1, ha1⟩ : ∃ a1, a - x = a1 := ⟨_, rfl⟩
  obtain ⟨a2, ha2⟩ : ∃ a2, a1 - y = a2 := ⟨_, rfl⟩
  rw [ha1] at g2 g3
  rw [ha2] at g2 g3
  subst g0
  obtain rfl : a1 = a := by omega
  subst g1
  obtain rfl : a2 = a1 := by omega
  have hT2 := fun W => take_any k2 (a := a2) (by omega) (by omega) g2.symm g3.symm W
  unfold ov at *
  have e0 : ¬ a2 < 0 := by omega
  clear k0 k1 k2 g2
  clear g3 ha
  clear ha1 ha2
  go_enter Tryd.func8, Tryd.ntmps8
  have HQ0 := Lib.hid (Blk.new w 24 #[.int .i64 f, .int .i64 i, .int .i64 p])
  have HB0 := Lib.hid (b_alloc w (.cells #[.int .i64 f, .int .i64 i, .int .i64 p] 24))
  have HQ1_0 := Lib.hid (HQ0.out.alloc (.cells #[.int .i64 0, .int .i64 0, .int .i64 0] 24))
  have HQ1_1 : Hid (Blk ((w.alloc (.cells #[.int .i64 f, .int .i64 i, .int .i64 p] 24)).alloc (.cells #[.int .i64 0, .int .i64 0, .int .i64 0] 24)) (w.heap.size + 1) 24 #[.int .i64 0, .int .i64 0, .int .i64 0]) := Lib.hid (by
    have h := Blk.new (w.alloc (.cells #[.int .i64 f, .int .i64 i, .int .i64 p] 24)) 24 #[.int .i64 0, .int .i64 0, .int .i64 0]
    rw [show (w.alloc (.cells #[.int .i64 f, .int .i64 i, .int .i64 p] 24)).heap.size = w.heap.size + 1 by simp] at h
    exact h)
  have HB1 := Lib.hid (HB0.out.alloc HB0.out.size (.cells #[.int .i64 0, .int .i64 0, .int .i64 0] 24))
  go_wp2_with fail
  refine (hR _).mono ?_
  rintro e w2 ⟨rfl, hb2⟩
  have HQ2_0 := Lib.hid (HQ1_0.out.below hb2 HQ1_0.out.lt)
  have HQ2_1 := Lib.hid (HQ1_1.out.below hb2 HQ1_1.out.lt)
  have HB2 := Lib.hid (HB1.out.trans (hb2.mono HB1.out.size))
  clear hb2
  have c2_0_0 := HQ2_0.out.cell 0
  have c2_0_1 := HQ2_0.out.cell 1
  have c2_0_2 := HQ2_0.out.cell 2
  have z2_0 := HQ2_0.out.lt
  have c2_1_0 := HQ2_1.out.cell 0
  have f2_1_0 := HQ2_1.out.frozen 0
  have c2_1_1 := HQ2_1.out.cell 1
  have f2_1_1 := HQ2_1.out.frozen 1
  have c2_1_2 := HQ2_1.out.cell 2
  have f2_1_2 := HQ2_1.out.frozen 2
  have z2_1 := HQ2_1.out.lt
  try simp at c2_0_0 c2_0_1 c2_0_2 c2_1_0 f2_1_0 c2_1_1 f2_1_1 c2_1_2 f2_1_2
  go_wp2_with fail
  refine (hT2 _).mono ?_
  rintro e w99 ⟨rfl, rfl⟩
  go_wp2_with fail
  exact fin_any ((below_set3 HB2.out (Nat.le_succ _) _ _ _).alloc (by have := HB2.out.size; simp; omega) _) ((set3 HQ2_1.out _ _ _).alloc _) rfl rfl rfl
set_option maxRecDepth 20000 in
set_option maxHeartbeats 4000000 in
theorem From_bad {f i p a : Int} {s : Nat} (hs : 2 < s) (hs2 : s < 256) (w : World) :
    Calls Tryd.prog 8 #[ov f i p, .int .u8 (s : Int), .int .i64 a] w (Ret (.tuple #[ov 0 0 0, .int .i64 0, eno 1]) w) := by
  by_cases hk : okO f i p ∧ 0 ≤ a
  · obtain ⟨hk, h0⟩ := hk
    have hR := fun W => ORight_yes hk W
    have e0 : ¬ a < 0 := by omega
    have j0 : ((s : Int) == 0) = false := by rw [beq_eq_false_iff_ne]; omega
    have j1 : ((s : Int) == 1) = false := by rw [beq_eq_false_iff_ne]; omega
    have j2 : ((s : Int) == 2) = false := by rw [beq_eq_false_iff_ne]; omega
    unfold ov eno at *
    clear hk hs hs2 h0
    go_enter Tryd.func8, Tryd.ntmps8
    have HQ0 := Lib.hid (Blk.new w 24 #[.int .i64 f, .int .i64 i, .int .i64 p])
    have HB0 := Lib.hid (b_alloc w (.cells #[.int .i64 f, .int .i64 i, .int .i64 p] 24))
    have HQ1_0 := Lib.hid (HQ0.out.alloc (.cells #[.int .i64 0, .int .i64 0, .int .i64 0] 24))
    have HQ1_1 : Hid (Blk ((w.alloc (.cells #[.int .i64 f, .int .i64 i, .int .i64 p] 24)).alloc (.cells #[.int .i64 0, .int .i64 0, .int .i64 0] 24)) (w.heap.size + 1) 24 #[.int .i64 0, .int .i64 0, .int .i64 0]) := Lib.hid (by
      have h := Blk.new (w.alloc (.cells #[.int .i64 f, .int .i64 i, .int .i64 p] 24)) 24 #[.int .i64 0, .int .i64 0, .int .i64 0]
      rw [show (w.alloc (.cells #[.int .i64 f, .int .i64 i, .int .i64 p] 24)).heap.size = w.heap.size + 1 by simp] at h
      exact h)
    have HB1 := Lib.hid (HB0.out.alloc HB0.out.size (.cells #[.int .i64 0, .int .i64 0, .int .i64 0] 24))
    go_wp2_with fail
    refine (hR _).mono ?_
    rintro e w2 ⟨rfl, hb2⟩
    have HQ2_0 := Lib.hid (HQ1_0.out.below hb2 HQ1_0.out.lt)
    have HQ2_1 := Lib.hid (HQ1_1.out.below hb2 HQ1_1.out.lt)
    have HB2 := Lib.hid (HB1.out.trans (hb2.mono HB1.out.size))
    clear hb2
    have c2_0_0 := HQ2_0.out.cell 0
    have c2_0_1 := HQ2_0.out.cell 1
    have c2_0_2 := HQ2_0.out.cell 2
    have z2_0 := HQ2_0.out.lt
    have c2_1_0 := HQ2_1.out.cell 0
    have f2_1_0 := HQ2_1.out.frozen 0
    have c2_1_1 := HQ2_1.out.cell 1
    have f2_1_1 := HQ2_1.out.frozen 1
    have c2_1_2 := HQ2_1.out.cell 2
    have f2_1_2 := HQ2_1.out.frozen 2
    have z2_1 := HQ2_1.out.lt
    try simp at c2_0_0 c2_0_1 c2_0_2 c2_1_0 f2_1_0 c2_1_1 f2_1_1 c2_1_2 f2_1_2
    go_wp2_with fail
    exact fin_any ((below_set3 HB2.out (Nat.le_succ _) _ _ _).alloc (by have := HB2.out.size; simp; omega) _) ((set3 HQ2_1.out _ _ _).alloc _) rfl rfl rfl
  · exact From_neg hk w
end Go.Proofs.YtbikfplipkhhcabDoor
