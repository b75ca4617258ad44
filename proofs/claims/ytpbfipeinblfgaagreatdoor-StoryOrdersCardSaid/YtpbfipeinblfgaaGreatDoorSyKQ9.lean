/-
split: Right, take, From, Pay, Less. Conditions: the numbers' kinds.
split: Pay, Less, the example. Conditions: the numbers' kinds.
Slices of whole numbers: what they read as; a copy of one onto a row of the call's own; one among a law's arguments, opened. No condition.
A row of coins of the call's own: what is appended to it. No condition.
coin.Sum of a row of coins: one by one. Conditions: the numbers' kinds.
All that is owed, of what is owed and of how a loan stands. Condition: no part is below nothing, or too much.
A teller gives up what is owed. Condition: the teller is there.
-/
import Derived.Test.YtpbfipeinblfgaaGreatDoorLvlAQ9
import Derived.Test.YtpbfipeinblfgaaGreatDoorMemQ9
import Derived.Handy
import Derived.RegionTactic
import Derived.BigRegion
import Derived.Deep.RegionHeld3
import Derived.Test.YtpbfipeinblfgaaGreatDoorShutAQ9
import Derived.Laws.AppendOwnNone
import Derived.Test.YtpbfipeinblfgaaGreatDoorChAQ9
import Derived.Test.YtpbfipeinblfgaaGreatDoorSyEQ9
namespace Go.Proofs.YtpbfipeinblfgaaGreatDoor
open Go.RowKit Go.BigFrame

/-- What is owed. -/
def ov (f i p : Int) : Value := .agg #[.int .i64 f, .int .i64 i, .int .i64 p]
/-- Within 64 bits. -/
def F64 (x : Int) : Prop := -9223372036854775808 ≤ x ∧ x ≤ 9223372036854775807
def okO (f i p : Int) : Prop := 0 ≤ f ∧ 0 ≤ i ∧ 0 ≤ p
instance (f i p : Int) : Decidable (okO f i p) := inferInstanceAs (Decidable (_ ∧ _))

set_option maxRecDepth 20000 in
set_option maxHeartbeats 4000000 in
theorem ORight_any (f i p : Int) (w : World) : Calls Tryz.prog 15 #[ov f i p] w (Ret (.bool (decide (okO f i p))) w) := by
  unfold ov
  rcases (show okO f i p ∨ f < 0 ∨ (0 ≤ f ∧ i < 0) ∨ (0 ≤ f ∧ 0 ≤ i ∧ p < 0) by unfold okO; omega) with h | h | h | h
  · rw [decide_eq_true h]
    obtain ⟨h0, h1, h2⟩ := h
    go_enter Tryz.func15, Tryz.ntmps15
    go_wp2_with fail
    go_ret
    exact ⟨by first | rfl | simp [h2], b_alloc _ _⟩
  · rw [decide_eq_false (fun e => by have := e.1; omega)]
    go_enter Tryz.func15, Tryz.ntmps15
    go_wp2_with fail
    go_ret
    exact ⟨by first | rfl | simp, b_alloc _ _⟩
  · rw [decide_eq_false (fun e => by have := e.2.1; omega)]
    obtain ⟨h0, h1⟩ := h
    go_enter Tryz.func15, Tryz.ntmps15
    go_wp2_with fail
    go_ret
    exact ⟨by first | rfl | simp, b_alloc _ _⟩
  · rw [decide_eq_false (fun e => by have := e.2.2; omega)]
    obtain ⟨h0, h1, h2⟩ := h
    go_enter Tryz.func15, Tryz.ntmps15
    go_wp2_with fail
    go_ret
    exact ⟨by first | rfl | (simp; omega), b_alloc _ _⟩
theorem ORight_yes {f i p : Int} (h : okO f i p) (w : World) : Calls Tryz.prog 15 #[ov f i p] w (Ret (.bool true) w) := by
  have := ORight_any f i p w
  rwa [decide_eq_true h] at this
theorem ORight_no {f i p : Int} (h : ¬ okO f i p) (w : World) : Calls Tryz.prog 15 #[ov f i p] w (Ret (.bool false) w) := by
  have := ORight_any f i p w
  rwa [decide_eq_false h] at this
set_option maxRecDepth 20000 in
set_option maxHeartbeats 4000000 in
theorem take_any {o a n r : Int} (h0 : 0 ≤ o) (h1 : 0 ≤ a) (ha : a ≤ 9223372036854775807) (hn : min o a = n) (hr : a - n = r) (w : World) :
    Calls Tryz.prog 225 #[.int .i64 o, .int .i64 a] w fun e w' => e = .returned (.tuple #[.int .i64 n, .int .i64 r]) ∧ w = w' := by
  have hL := fun W => Least_any o a W
  rw [hn] at hL
  have i1 : IntKind.i64.wrap r = r := by rw [IntKind.wrap_i64]; omega
  have hb : 0 ≤ r := by omega
  clear hn h0 h1 ha hb
  go_enter Tryz.func225, Tryz.ntmps225
  go_wp2_with fail
  refine (hL _).mono ?_
  rintro e w99 ⟨rfl, rfl⟩
  go_wp2_with fail
  go_ret2
  exact ⟨rfl, rfl⟩
theorem set3S {w : World} {g : Nat} {T : TypeId} {a b c : Value} (h : Blk w g T #[a, b, c]) (x y z : Value) :
    Blk (((w.setCell ⟨g, 0, none⟩ x).setCell ⟨g, 1, none⟩ y).setCell ⟨g, 2, none⟩ z) g T #[x, y, z] := ((h.set_ 0 x).set_ 1 y).set_ 2 z
set_option maxRecDepth 20000 in
theorem fin_any {w W : World} {T : Array Value} {x y z : Int} {u v : Value} (hB : Below w.heap.size w W) (hQ : Blk W (w.heap.size + 1) 49 #[.int .i64 x, .int .i64 y, .int .i64 z]) (h6 : T[6]? = some (.pointer (some ⟨w.heap.size + 1, 0, none⟩))) (h7 : T[7]? = some u) (h8 : T[8]? = some v) :
    bodyPost Tryz.prog Tryz.f192 (Ret (.tuple #[ov x y z, u, v]) w) Exit.ret { tmps := T, defers := [] } W := by
  have c0 := hQ.cell 0
  have c1 := hQ.cell 1
  have c2 := hQ.cell 2
  simp at c0 c1 c2
  unfold ov
  refine bodyPost_ret (v := .tuple #[.agg #[.int .i64 x, .int .i64 y, .int .i64 z], u, v]) ?_ rfl ⟨rfl, hB⟩
  simp [results, Tryz.results192, go_sem, h6, h7, h8, c0, c1, c2, Result.andThen]
/-- Where a payment goes. -/
def Goes (s : Nat) (f i p a x y z r : Int) : Prop := x = (if s = 0 then min f a else 0) ∧ y = (if s ≤ 1 then min i (a - x) else 0) ∧ z = (if s ≤ 2 then min p (a - x - y) else 0) ∧ r = a - x - y - z
set_option maxRecDepth 20000 in
set_option maxHeartbeats 4000000 in
theorem From_neg {f i p a : Int} {s : Nat} (h : ¬ (okO f i p ∧ 0 ≤ a)) (w : World) :
    Calls Tryz.prog 192 #[ov f i p, .int .u8 (s : Int), .int .i64 a] w (Ret (.tuple #[ov 0 0 0, .int .i64 0, eno 1]) w) := by
  by_cases hk : okO f i p
  · have hR := fun W => ORight_yes hk W
    have ha : a < 0 := by
      rcases Int.lt_or_le a 0 with h1 | h1
      · exact h1
      · exact absurd ⟨hk, h1⟩ h
    unfold ov eno at *
    clear h hk
    go_enter Tryz.func192, Tryz.ntmps192
    have HQ0 := Lib.hid (Blk.new w 49 #[.int .i64 f, .int .i64 i, .int .i64 p])
    have HB0 := Lib.hid (b_alloc w (.cells #[.int .i64 f, .int .i64 i, .int .i64 p] 49))
    have HQ1_0 := Lib.hid (HQ0.out.alloc (.cells #[.int .i64 0, .int .i64 0, .int .i64 0] 49))
    have HQ1_1 : Hid (Blk ((w.alloc (.cells #[.int .i64 f, .int .i64 i, .int .i64 p] 49)).alloc (.cells #[.int .i64 0, .int .i64 0, .int .i64 0] 49)) (w.heap.size + 1) 49 #[.int .i64 0, .int .i64 0, .int .i64 0]) := Lib.hid (by
      have h := Blk.new (w.alloc (.cells #[.int .i64 f, .int .i64 i, .int .i64 p] 49)) 49 #[.int .i64 0, .int .i64 0, .int .i64 0]
      rw [show (w.alloc (.cells #[.int .i64 f, .int .i64 i, .int .i64 p] 49)).heap.size = w.heap.size + 1 by simp] at h
      exact h)
    have HB1 := Lib.hid (HB0.out.alloc HB0.out.size (.cells #[.int .i64 0, .int .i64 0, .int .i64 0] 49))
    go_wp2_with fail
    refine (hR _).mono ?_
    rintro e w2 ⟨rfl, hb2⟩
    have HQ2_0 := Lib.hid (HQ1_0.out.below hb2 HQ1_0.out.lt)
    have HQ2_1 := Lib.hid (HQ1_1.out.below hb2 HQ1_1.out.lt)
    have HB2 := Lib.hid (HB1.out.trans (hb2.mono HB1.out.size))
    clear hb2
    have c2_0_0 := HQ2_0.out.cell 0
    have c2_0_1 := HQ2_0.out.cell 1
    have c2_0_2 := HQ2_0.out.cell 2
    have z2_0 := HQ2_0.out.lt
    have c2_1_0 := HQ2_1.out.cell 0
    have f2_1_0 := HQ2_1.out.frozen 0
    have c2_1_1 := HQ2_1.out.cell 1
    have f2_1_1 := HQ2_1.out.frozen 1
    have c2_1_2 := HQ2_1.out.cell 2
    have f2_1_2 := HQ2_1.out.frozen 2
    have z2_1 := HQ2_1.out.lt
    try simp at c2_0_0 c2_0_1 c2_0_2 c2_1_0 f2_1_0 c2_1_1 f2_1_1 c2_1_2 f2_1_2
    go_wp2_with fail
    exact fin_any (below_set3 HB2.out (Nat.le_succ _) _ _ _) (set3S HQ2_1.out _ _ _) rfl rfl rfl
  · have hR := fun W => ORight_no hk W
    unfold ov eno at *
    clear h hk
    go_enter Tryz.func192, Tryz.ntmps192
    have HQ0 := Lib.hid (Blk.new w 49 #[.int .i64 f, .int .i64 i, .int .i64 p])
    have HB0 := Lib.hid (b_alloc w (.cells #[.int .i64 f, .int .i64 i, .int .i64 p] 49))
    have HQ1_0 := Lib.hid (HQ0.out.alloc (.cells #[.int .i64 0, .int .i64 0, .int .i64 0] 49))
    have HQ1_1 : Hid (Blk ((w.alloc (.cells #[.int .i64 f, .int .i64 i, .int .i64 p] 49)).alloc (.cells #[.int .i64 0, .int .i64 0, .int .i64 0] 49)) (w.heap.size + 1) 49 #[.int .i64 0, .int .i64 0, .int .i64 0]) := Lib.hid (by
      have h := Blk.new (w.alloc (.cells #[.int .i64 f, .int .i64 i, .int .i64 p] 49)) 49 #[.int .i64 0, .int .i64 0, .int .i64 0]
      rw [show (w.alloc (.cells #[.int .i64 f, .int .i64 i, .int .i64 p] 49)).heap.size = w.heap.size + 1 by simp] at h
      exact h)
    have HB1 := Lib.hid (HB0.out.alloc HB0.out.size (.cells #[.int .i64 0, .int .i64 0, .int .i64 0] 49))
    go_wp2_with fail
    refine (hR _).mono ?_
    rintro e w2 ⟨rfl, hb2⟩
    have HQ2_0 := Lib.hid (HQ1_0.out.below hb2 HQ1_0.out.lt)
    have HQ2_1 := Lib.hid (HQ1_1.out.below hb2 HQ1_1.out.lt)
    have HB2 := Lib.hid (HB1.out.trans (hb2.mono HB1.out.size))
    clear hb2
    have c2_0_0 := HQ2_0.out.cell 0
    have c2_0_1 := HQ2_0.out.cell 1
    have c2_0_2 := HQ2_0.out.cell 2
    have z2_0 := HQ2_0.out.lt
    have c2_1_0 := HQ2_1.out.cell 0
    have f2_1_0 := HQ2_1.out.frozen 0
    have c2_1_1 := HQ2_1.out.cell 1
    have f2_1_1 := HQ2_1.out.frozen 1
    have c2_1_2 := HQ2_1.out.cell 2
    have f2_1_2 := HQ2_1.out.frozen 2
    have z2_1 := HQ2_1.out.lt
    try simp at c2_0_0 c2_0_1 c2_0_2 c2_1_0 f2_1_0 c2_1_1 f2_1_1 c2_1_2 f2_1_2
    go_wp2_with fail
    exact fin_any (below_set3 HB2.out (Nat.le_succ _) _ _ _) (set3S HQ2_1.out _ _ _) rfl rfl rfl
set_option maxRecDepth 20000 in
set_option maxHeartbeats 4000000 in
theorem From_0 {f i p a x y z r : Int} (hk : okO f i p) (h0 : 0 ≤ a) (ha : a ≤ 9223372036854775807) (hg : Goes 0 f i p a x y z r) (w : World) :
    Calls Tryz.prog 192 #[ov f i p, .int .u8 0, .int .i64 a] w (Ret (.tuple #[ov x y z, .int .i64 r, .nilIface]) w) := by
  have hR := fun W => ORight_yes hk W
  obtain ⟨k0, k1, k2⟩ := hk
  obtain ⟨g0, g1, g2, g3⟩ := hg
  simp only [Nat.reduceLeDiff, if_true] at g0 g1 g2
  obtain ⟨a1, ha1⟩ : ∃ a1, a - x = a1 := ⟨_, rfl⟩
  obtain ⟨a2, ha2⟩ : ∃ a2, a1 - y = a2 := ⟨_, rfl⟩
  rw [ha1] at g1 g2 g3
  rw [ha2] at g2 g3
  have hT0 := fun W => take_any k0 h0 ha g0.symm ha1 W
  have hT1 := fun W => take_any k1 (a := a1) (by omega) (by omega) g1.symm ha2 W
  have hT2 := fun W => take_any k2 (a := a2) (by omega) (by omega) g2.symm g3.symm W
  unfold ov at *
  have e0 : ¬ a < 0 := by omega
  clear k0 k1 k2 g0 g1 g2
  clear g3 ha
  clear ha1 ha2
  go_enter Tryz.func192, Tryz.ntmps192
  have HQ0 := Lib.hid (Blk.new w 49 #[.int .i64 f, .int .i64 i, .int .i64 p])
  have HB0 := Lib.hid (b_alloc w (.cells #[.int .i64 f, .int .i64 i, .int .i64 p] 49))
  have HQ1_0 := Lib.hid (HQ0.out.alloc (.cells #[.int .i64 0, .int .i64 0, .int .i64 0] 49))
  have HQ1_1 : Hid (Blk ((w.alloc (.cells #[.int .i64 f, .int .i64 i, .int .i64 p] 49)).alloc (.cells #[.int .i64 0, .int .i64 0, .int .i64 0] 49)) (w.heap.size + 1) 49 #[.int .i64 0, .int .i64 0, .int .i64 0]) := Lib.hid (by
    have h := Blk.new (w.alloc (.cells #[.int .i64 f, .int .i64 i, .int .i64 p] 49)) 49 #[.int .i64 0, .int .i64 0, .int .i64 0]
    rw [show (w.alloc (.cells #[.int .i64 f, .int .i64 i, .int .i64 p] 49)).heap.size = w.heap.size + 1 by simp] at h
    exact h)
  have HB1 := Lib.hid (HB0.out.alloc HB0.out.size (.cells #[.int .i64 0, .int .i64 0, .int .i64 0] 49))
  go_wp2_with fail
  refine (hR _).mono ?_
  rintro e w2 ⟨rfl, hb2⟩
  have HQ2_0 := Lib.hid (HQ1_0.out.below hb2 HQ1_0.out.lt)
  have HQ2_1 := Lib.hid (HQ1_1.out.below hb2 HQ1_1.out.lt)
  have HB2 := Lib.hid (HB1.out.trans (hb2.mono HB1.out.size))
  clear hb2
  have c2_0_0 := HQ2_0.out.cell 0
  have c2_0_1 := HQ2_0.out.cell 1
  have c2_0_2 := HQ2_0.out.cell 2
  have z2_0 := HQ2_0.out.lt
  have c2_1_0 := HQ2_1.out.cell 0
  have f2_1_0 := HQ2_1.out.frozen 0
  have c2_1_1 := HQ2_1.out.cell 1
  have f2_1_1 := HQ2_1.out.frozen 1
  have c2_1_2 := HQ2_1.out.cell 2
  have f2_1_2 := HQ2_1.out.frozen 2
  have z2_1 := HQ2_1.out.lt
  try simp at c2_0_0 c2_0_1 c2_0_2 c2_1_0 f2_1_0 c2_1_1 f2_1_1 c2_1_2 f2_1_2
  go_wp2_with fail
  refine (hT0 _).mono ?_
  rintro e w99 ⟨rfl, rfl⟩
  go_wp2_with fail
  refine (hT1 _).mono ?_
  rintro e w99 ⟨rfl, rfl⟩
  go_wp2_with fail
  refine (hT2 _).mono ?_
  rintro e w99 ⟨rfl, rfl⟩
  go_wp2_with fail
  exact fin_any ((below_set3 HB2.out (Nat.le_succ _) _ _ _).alloc (by have := HB2.out.size; simp; omega) _) ((set3S HQ2_1.out _ _ _).alloc _) rfl rfl rfl
set_option maxRecDepth 20000 in
set_option maxHeartbeats 4000000 in
theorem From_1 {f i p a x y z r : Int} (hk : okO f i p) (h0 : 0 ≤ a) (ha : a ≤ 9223372036854775807) (hg : Goes 1 f i p a x y z r) (w : World) :
    Calls Tryz.prog 192 #[ov f i p, .int .u8 1, .int .i64 a] w (Ret (.tuple #[ov x y z, .int .i64 r, .nilIface]) w) := by
  have hR := fun W => ORight_yes hk W
  obtain ⟨k0, k1, k2⟩ := hk
  obtain ⟨g0, g1, g2, g3⟩ := hg
  simp only [Nat.reduceLeDiff, Nat.reduceEqDiff, if_true, if_false] at g0 g1 g2
  obtain ⟨a1, ha1⟩ : ∃ a1, a - x = a1 := ⟨_, rfl⟩
  obtain ⟨a2, ha2⟩ : ∃ a2, a1 - y = a2 := ⟨_, rfl⟩
  rw [ha1] at g1 g2 g3
  rw [ha2] at g2 g3
  subst g0
  obtain rfl : a1 = a := by omega
  have hT1 := fun W => take_any k1 (a := a1) (by omega) (by omega) g1.symm ha2 W
  have hT2 := fun W => take_any k2 (a := a2) (by omega) (by omega) g2.symm g3.symm W
  unfold ov at *
  have e0 : ¬ a1 < 0 := by omega
  clear k0 k1 k2 g1 g2
  clear g3 ha
  clear ha1 ha2
  go_enter Tryz.func192, Tryz.ntmps192
  have HQ0 := Lib.hid (Blk.new w 49 #[.int .i64 f, .int .i64 i, .int .i64 p])
  have HB0 := Lib.hid (b_alloc w (.cells #[.int .i64 f, .int .i64 i, .int .i64 p] 49))
  have HQ1_0 := Lib.hid (HQ0.out.alloc (.cells #[.int .i64 0, .int .i64 0, .int .i64 0] 49))
  have HQ1_1 : Hid (Blk ((w.alloc (.cells #[.int .i64 f, .int .i64 i, .int .i64 p] 49)).alloc (.cells #[.int .i64 0, .int .i64 0, .int .i64 0] 49)) (w.heap.size + 1) 49 #[.int .i64 0, .int .i64 0, .int .i64 0]) := Lib.hid (by
    have h := Blk.new (w.alloc (.cells #[.int .i64 f, .int .i64 i, .int .i64 p] 49)) 49 #[.int .i64 0, .int .i64 0, .int .i64 0]
    rw [show (w.alloc (.cells #[.int .i64 f, .int .i64 i, .int .i64 p] 49)).heap.size = w.heap.size + 1 by simp] at h
    exact h)
  have HB1 := Lib.hid (HB0.out.alloc HB0.out.size (.cells #[.int .i64 0, .int .i64 0, .int .i64 0] 49))
  go_wp2_with fail
  refine (hR _).mono ?_
  rintro e w2 ⟨rfl, hb2⟩
  have HQ2_0 := Lib.hid (HQ1_0.out.below hb2 HQ1_0.out.lt)
  have HQ2_1 := Lib.hid (HQ1_1.out.below hb2 HQ1_1.out.lt)
  have HB2 := Lib.hid (HB1.out.trans (hb2.mono HB1.out.size))
  clear hb2
  have c2_0_0 := HQ2_0.out.cell 0
  have c2_0_1 := HQ2_0.out.cell 1
  have c2_0_2 := HQ2_0.out.cell 2
  have z2_0 := HQ2_0.out.lt
  have c2_1_0 := HQ2_1.out.cell 0
  have f2_1_0 := HQ2_1.out.frozen 0
  have c2_1_1 := HQ2_1.out.cell 1
  have f2_1_1 := HQ2_1.out.frozen 1
  have c2_1_2 := HQ2_1.out.cell 2
  have f2_1_2 := HQ2_1.out.frozen 2
  have z2_1 := HQ2_1.out.lt
  try simp at c2_0_0 c2_0_1 c2_0_2 c2_1_0 f2_1_0 c2_1_1 f2_1_1 c2_1_2 f2_1_2
  go_wp2_with fail
  refine (hT1 _).mono ?_
  rintro e w99 ⟨rfl, rfl⟩
  go_wp2_with fail
  refine (hT2 _).mono ?_
  rintro e w99 ⟨rfl, rfl⟩
  go_wp2_with fail
  exact fin_any ((below_set3 HB2.out (Nat.le_succ _) _ _ _).alloc (by have := HB2.out.size; simp; omega) _) ((set3S HQ2_1.out _ _ _).alloc _) rfl rfl rfl
set_option maxRecDepth 20000 in
set_option maxHeartbeats 4000000 in
theorem From_2 {f i p a x y z r : Int} (hk : okO f i p) (h0 : 0 ≤ a) (ha : a ≤ 9223372036854775807) (hg : Goes 2 f i p a x y z r) (w : World) :
    Calls Tryz.prog 192 #[ov f i p, .int .u8 2, .int .i64 a] w (Ret (.tuple #[ov x y z, .int .i64 r, .nilIface]) w) := by
  have hR := fun W => ORight_yes hk W
  obtain ⟨k0, k1, k2⟩ := hk
  obtain ⟨g0, g1, g2, g3⟩ := hg
  simp only [Nat.reduceLeDiff, Nat.reduceEqDiff, if_true, if_false] at g0 g1 g2
  obtain ⟨a1, ha1⟩ : ∃ a1, a - x = a1 := ⟨_, rfl⟩
  obtain ⟨a2, ha2⟩ : ∃ a2, a1 - y = a2 := ⟨_, rfl⟩
  rw [ha1] at g2 g3
  rw [ha2] at g2 g3
  subst g0
  obtain rfl : a1 = a := by omega
  subst g1
  obtain rfl : a2 = a1 := by omega
  have hT2 := fun W => take_any k2 (a := a2) (by omega) (by omega) g2.symm g3.symm W
  unfold ov at *
  have e0 : ¬ a2 < 0 := by omega
  clear k0 k1 k2 g2
  clear g3 ha
  clear ha1 ha2
  go_enter Tryz.func192, Tryz.ntmps192
  have HQ0 := Lib.hid (Blk.new w 49 #[.int .i64 f, .int .i64 i, .int .i64 p])
  have HB0 := Lib.hid (b_alloc w (.cells #[.int .i64 f, .int .i64 i, .int .i64 p] 49))
  have HQ1_0 := Lib.hid (HQ0.out.alloc (.cells #[.int .i64 0, .int .i64 0, .int .i64 0] 49))
  have HQ1_1 : Hid (Blk ((w.alloc (.cells #[.int .i64 f, .int .i64 i, .int .i64 p] 49)).alloc (.cells #[.int .i64 0, .int .i64 0, .int .i64 0] 49)) (w.heap.size + 1) 49 #[.int .i64 0, .int .i64 0, .int .i64 0]) := Lib.hid (by
    have h := Blk.new (w.alloc (.cells #[.int .i64 f, .int .i64 i, .int .i64 p] 49)) 49 #[.int .i64 0, .int .i64 0, .int .i64 0]
    rw [show (w.alloc (.cells #[.int .i64 f, .int .i64 i, .int .i64 p] 49)).heap.size = w.heap.size + 1 by simp] at h
    exact h)
  have HB1 := Lib.hid (HB0.out.alloc HB0.out.size (.cells #[.int .i64 0, .int .i64 0, .int .i64 0] 49))
  go_wp2_with fail
  refine (hR _).mono ?_
  rintro e w2 ⟨rfl, hb2⟩
  have HQ2_0 := Lib.hid (HQ1_0.out.below hb2 HQ1_0.out.lt)
  have HQ2_1 := Lib.hid (HQ1_1.out.below hb2 HQ1_1.out.lt)
  have HB2 := Lib.hid (HB1.out.trans (hb2.mono HB1.out.size))
  clear hb2
  have c2_0_0 := HQ2_0.out.cell 0
  have c2_0_1 := HQ2_0.out.cell 1
  have c2_0_2 := HQ2_0.out.cell 2
  have z2_0 := HQ2_0.out.lt
  have c2_1_0 := HQ2_1.out.cell 0
  have f2_1_0 := HQ2_1.out.frozen 0
  have c2_1_1 := HQ2_1.out.cell 1
  have f2_1_1 := HQ2_1.out.frozen 1
  have c2_1_2 := HQ2_1.out.cell 2
  have f2_1_2 := HQ2_1.out.frozen 2
  have z2_1 := HQ2_1.out.lt
  try simp at c2_0_0 c2_0_1 c2_0_2 c2_1_0 f2_1_0 c2_1_1 f2_1_1 c2_1_2 f2_1_2
  go_wp2_with fail
  refine (hT2 _).mono ?_
  rintro e w99 ⟨rfl, rfl⟩
  go_wp2_with fail
  exact fin_any ((below_set3 HB2.out (Nat.le_succ _) _ _ _).alloc (by have := HB2.out.size; simp; omega) _) ((set3S HQ2_1.out _ _ _).alloc _) rfl rfl rfl
set_option maxRecDepth 20000 in
set_option maxHeartbeats 4000000 in
theorem From_bad {f i p a : Int} {s : Nat} (hs : 2 < s) (hs2 : s < 256) (w : World) :
    Calls Tryz.prog 192 #[ov f i p, .int .u8 (s : Int), .int .i64 a] w (Ret (.tuple #[ov 0 0 0, .int .i64 0, eno 1]) w) := by
  by_cases hk : okO f i p ∧ 0 ≤ a
  · obtain ⟨hk, h0⟩ := hk
    have hR := fun W => ORight_yes hk W
    have e0 : ¬ a < 0 := by omega
    have j0 : ((s : Int) == 0) = false := by rw [beq_eq_false_iff_ne]; omega
    have j1 : ((s : Int) == 1) = false := by rw [beq_eq_false_iff_ne]; omega
    have j2 : ((s : Int) == 2) = false := by rw [beq_eq_false_iff_ne]; omega
    unfold ov eno at *
    clear hk hs hs2 h0
    go_enter Tryz.func192, Tryz.ntmps192
    have HQ0 := Lib.hid (Blk.new w 49 #[.int .i64 f, .int .i64 i, .int .i64 p])
    have HB0 := Lib.hid (b_alloc w (.cells #[.int .i64 f, .int .i64 i, .int .i64 p] 49))
    have HQ1_0 := Lib.hid (HQ0.out.alloc (.cells #[.int .i64 0, .int .i64 0, .int .i64 0] 49))
    have HQ1_1 : Hid (Blk ((w.alloc (.cells #[.int .i64 f, .int .i64 i, .int .i64 p] 49)).alloc (.cells #[.int .i64 0, .int .i64 0, .int .i64 0] 49)) (w.heap.size + 1) 49 #[.int .i64 0, .int .i64 0, .int .i64 0]) := Lib.hid (by
      have h := Blk.new (w.alloc (.cells #[.int .i64 f, .int .i64 i, .int .i64 p] 49)) 49 #[.int .i64 0, .int .i64 0, .int .i64 0]
      rw [show (w.alloc (.cells #[.int .i64 f, .int .i64 i, .int .i64 p] 49)).heap.size = w.heap.size + 1 by simp] at h
      exact h)
    have HB1 := Lib.hid (HB0.out.alloc HB0.out.size (.cells #[.int .i64 0, .int .i64 0, .int .i64 0] 49))
    go_wp2_with fail
    refine (hR _).mono ?_
    rintro e w2 ⟨rfl, hb2⟩
    have HQ2_0 := Lib.hid (HQ1_0.out.below hb2 HQ1_0.out.lt)
    have HQ2_1 := Lib.hid (HQ1_1.out.below hb2 HQ1_1.out.lt)
    have HB2 := Lib.hid (HB1.out.trans (hb2.mono HB1.out.size))
    clear hb2
    have c2_0_0 := HQ2_0.out.cell 0
    have c2_0_1 := HQ2_0.out.cell 1
    have c2_0_2 := HQ2_0.out.cell 2
    have z2_0 := HQ2_0.out.lt
    have c2_1_0 := HQ2_1.out.cell 0
    have f2_1_0 := HQ2_1.out.frozen 0
    have c2_1_1 := HQ2_1.out.cell 1
    have f2_1_1 := HQ2_1.out.frozen 1
    have c2_1_2 := HQ2_1.out.cell 2
    have f2_1_2 := HQ2_1.out.frozen 2
    have z2_1 := HQ2_1.out.lt
    try simp at c2_0_0 c2_0_1 c2_0_2 c2_1_0 f2_1_0 c2_1_1 f2_1_1 c2_1_2 f2_1_2
    go_wp2_with fail
    exact fin_any ((below_set3 HB2.out (Nat.le_succ _) _ _ _).alloc (by have := HB2.out.size; simp; omega) _) ((set3S HQ2_1.out _ _ _).alloc _) rfl rfl rfl
  · exact From_neg hk w
end Go.Proofs.YtpbfipeinblfgaaGreatDoor
namespace Go.Proofs.YtpbfipeinblfgaaGreatDoor
open Go.RowKit Go.BigFrame

set_option maxRecDepth 20000 in
theorem fin_pay {w W : World} {T : Array Value} {x y z : Int} {u v : Value} (hB : Below w.heap.size w W) (hQ : Blk W (w.heap.size + 1) 49 #[.int .i64 x, .int .i64 y, .int .i64 z]) (h4 : T[4]? = some (.pointer (some ⟨w.heap.size + 1, 0, none⟩))) (h5 : T[5]? = some u) (h6 : T[6]? = some v) :
    bodyPost Tryz.prog Tryz.f154 (Ret (.tuple #[ov x y z, u, v]) w) Exit.ret { tmps := T, defers := [] } W := by
  have c0 := hQ.cell 0
  have c1 := hQ.cell 1
  have c2 := hQ.cell 2
  simp at c0 c1 c2
  unfold ov
  refine bodyPost_ret (v := .tuple #[.agg #[.int .i64 x, .int .i64 y, .int .i64 z], u, v]) ?_ rfl ⟨rfl, hB⟩
  simp [results, Tryz.results154, go_sem, h4, h5, h6, c0, c1, c2, Result.andThen]
set_option maxRecDepth 20000 in
theorem fin_less {w W : World} {T : Array Value} {x y z : Int} {v : Value} (hB : Below w.heap.size w W) (hQ : Blk W (w.heap.size + 2) 49 #[.int .i64 x, .int .i64 y, .int .i64 z]) (h4 : T[4]? = some (.pointer (some ⟨w.heap.size + 2, 0, none⟩))) (h5 : T[5]? = some v) :
    bodyPost Tryz.prog Tryz.f155 (Ret (.tuple #[ov x y z, v]) w) Exit.ret { tmps := T, defers := [] } W := by
  have c0 := hQ.cell 0
  have c1 := hQ.cell 1
  have c2 := hQ.cell 2
  simp at c0 c1 c2
  unfold ov
  refine bodyPost_ret (v := .tuple #[.agg #[.int .i64 x, .int .i64 y, .int .i64 z], v]) ?_ rfl ⟨rfl, hB⟩
  simp [results, Tryz.results155, go_sem, h4, h5, c0, c1, c2, Result.andThen]
set_option maxRecDepth 20000 in
set_option maxHeartbeats 4000000 in
theorem Pay_neg {f i p a : Int} (h : ¬ (okO f i p ∧ 0 ≤ a)) (w : World) :
    Calls Tryz.prog 154 #[ov f i p, .int .i64 a] w (Ret (.tuple #[ov 0 0 0, .int .i64 0, eno 1]) w) := by
  have hF : ∀ W, Calls Tryz.prog 192 #[ov f i p, .int .u8 0, .int .i64 a] W (Ret (.tuple #[ov 0 0 0, .int .i64 0, eno 1]) W) := fun W => From_neg (s := 0) h W
  unfold eno ov at *
  clear h
  go_enter Tryz.func154, Tryz.ntmps154
  have HQ0 := Lib.hid (Blk.new w 49 #[.int .i64 f, .int .i64 i, .int .i64 p])
  have HB0 := Lib.hid (b_alloc w (.cells #[.int .i64 f, .int .i64 i, .int .i64 p] 49))
  have HQ1_0 := Lib.hid (HQ0.out.alloc (.cells #[.int .i64 0, .int .i64 0, .int .i64 0] 49))
  have HQ1_1 : Hid (Blk ((w.alloc (.cells #[.int .i64 f, .int .i64 i, .int .i64 p] 49)).alloc (.cells #[.int .i64 0, .int .i64 0, .int .i64 0] 49)) (w.heap.size + 1) 49 #[.int .i64 0, .int .i64 0, .int .i64 0]) := Lib.hid (by
    have h := Blk.new (w.alloc (.cells #[.int .i64 f, .int .i64 i, .int .i64 p] 49)) 49 #[.int .i64 0, .int .i64 0, .int .i64 0]
    rw [show (w.alloc (.cells #[.int .i64 f, .int .i64 i, .int .i64 p] 49)).heap.size = w.heap.size + 1 by simp] at h
    exact h)
  have HB1 := Lib.hid (HB0.out.alloc HB0.out.size (.cells #[.int .i64 0, .int .i64 0, .int .i64 0] 49))
  go_wp2_with fail
  refine (hF _).mono ?_
  rintro e w2 ⟨rfl, hb2⟩
  have HQ2_0 := Lib.hid (HQ1_0.out.below hb2 HQ1_0.out.lt)
  have HQ2_1 := Lib.hid (HQ1_1.out.below hb2 HQ1_1.out.lt)
  have HB2 := Lib.hid (HB1.out.trans (hb2.mono HB1.out.size))
  clear hb2
  have c2_0_0 := HQ2_0.out.cell 0
  have c2_0_1 := HQ2_0.out.cell 1
  have c2_0_2 := HQ2_0.out.cell 2
  have z2_0 := HQ2_0.out.lt
  have c2_1_0 := HQ2_1.out.cell 0
  have f2_1_0 := HQ2_1.out.frozen 0
  have c2_1_1 := HQ2_1.out.cell 1
  have f2_1_1 := HQ2_1.out.frozen 1
  have c2_1_2 := HQ2_1.out.cell 2
  have f2_1_2 := HQ2_1.out.frozen 2
  have z2_1 := HQ2_1.out.lt
  try simp at c2_0_0 c2_0_1 c2_0_2 c2_1_0 f2_1_0 c2_1_1 f2_1_1 c2_1_2 f2_1_2
  go_wp2_with fail
  exact fin_pay (below_set3 HB2.out (Nat.le_succ _) _ _ _) (set3S HQ2_1.out _ _ _) rfl rfl rfl
set_option maxRecDepth 20000 in
set_option maxHeartbeats 4000000 in
theorem Pay_ok {f i p a x y z r : Int} (hk : okO f i p) (h0 : 0 ≤ a) (ha : a ≤ 9223372036854775807) (hg : Goes 0 f i p a x y z r) (w : World) :
    Calls Tryz.prog 154 #[ov f i p, .int .i64 a] w (Ret (.tuple #[ov x y z, .int .i64 r, .nilIface]) w) := by
  have hF := fun W => From_0 hk h0 ha hg W
  unfold ov at *
  clear hk h0 ha hg
  go_enter Tryz.func154, Tryz.ntmps154
  have HQ0 := Lib.hid (Blk.new w 49 #[.int .i64 f, .int .i64 i, .int .i64 p])
  have HB0 := Lib.hid (b_alloc w (.cells #[.int .i64 f, .int .i64 i, .int .i64 p] 49))
  have HQ1_0 := Lib.hid (HQ0.out.alloc (.cells #[.int .i64 0, .int .i64 0, .int .i64 0] 49))
  have HQ1_1 : Hid (Blk ((w.alloc (.cells #[.int .i64 f, .int .i64 i, .int .i64 p] 49)).alloc (.cells #[.int .i64 0, .int .i64 0, .int .i64 0] 49)) (w.heap.size + 1) 49 #[.int .i64 0, .int .i64 0, .int .i64 0]) := Lib.hid (by
    have h := Blk.new (w.alloc (.cells #[.int .i64 f, .int .i64 i, .int .i64 p] 49)) 49 #[.int .i64 0, .int .i64 0, .int .i64 0]
    rw [show (w.alloc (.cells #[.int .i64 f, .int .i64 i, .int .i64 p] 49)).heap.size = w.heap.size + 1 by simp] at h
    exact h)
  have HB1 := Lib.hid (HB0.out.alloc HB0.out.size (.cells #[.int .i64 0, .int .i64 0, .int .i64 0] 49))
  go_wp2_with fail
  refine (hF _).mono ?_
  rintro e w2 ⟨rfl, hb2⟩
  have HQ2_0 := Lib.hid (HQ1_0.out.below hb2 HQ1_0.out.lt)
  have HQ2_1 := Lib.hid (HQ1_1.out.below hb2 HQ1_1.out.lt)
  have HB2 := Lib.hid (HB1.out.trans (hb2.mono HB1.out.size))
  clear hb2
  have c2_0_0 := HQ2_0.out.cell 0
  have c2_0_1 := HQ2_0.out.cell 1
  have c2_0_2 := HQ2_0.out.cell 2
  have z2_0 := HQ2_0.out.lt
  have c2_1_0 := HQ2_1.out.cell 0
  have f2_1_0 := HQ2_1.out.frozen 0
  have c2_1_1 := HQ2_1.out.cell 1
  have f2_1_1 := HQ2_1.out.frozen 1
  have c2_1_2 := HQ2_1.out.cell 2
  have f2_1_2 := HQ2_1.out.frozen 2
  have z2_1 := HQ2_1.out.lt
  try simp at c2_0_0 c2_0_1 c2_0_2 c2_1_0 f2_1_0 c2_1_1 f2_1_1 c2_1_2 f2_1_2
  go_wp2_with fail
  exact fin_pay (below_set3 HB2.out (Nat.le_succ _) _ _ _) (set3S HQ2_1.out _ _ _) rfl rfl rfl
set_option maxRecDepth 20000 in
set_option maxHeartbeats 4000000 in
theorem Less_ok {f i p x y z a b c : Int} (hk : okO f i p) (hx : okO x y z) (ha : f - x = a) (hb : i - y = b) (hc : p - z = c) (h : okO a b c) (hf : f ≤ 9223372036854775807) (hi : i ≤ 9223372036854775807) (hp : p ≤ 9223372036854775807) (w : World) :
    Calls Tryz.prog 155 #[ov f i p, ov x y z] w (Ret (.tuple #[ov a b c, .nilIface]) w) := by
  have hR := fun W => ORight_yes hk W
  have hX := fun W => ORight_yes hx W
  have hA := fun W => ORight_yes h W
  obtain ⟨k0, k1, k2⟩ := hk
  obtain ⟨x0, x1, x2⟩ := hx
  obtain ⟨a0, a1, a2⟩ := h
  have i1 : IntKind.i64.wrap a = a := by rw [IntKind.wrap_i64]; omega
  have i2 : IntKind.i64.wrap b = b := by rw [IntKind.wrap_i64]; omega
  have i3 : IntKind.i64.wrap c = c := by rw [IntKind.wrap_i64]; omega
  have j1 : wrap64 a = a := by unfold wrap64; omega
  have j2 : wrap64 b = b := by unfold wrap64; omega
  have j3 : wrap64 c = c := by unfold wrap64; omega
  unfold ov at *
  clear k0 k1 k2 x0 x1 x2 a0 a1 a2 hf hi hp
  go_enter Tryz.func155, Tryz.ntmps155
  have HQ0 := Lib.hid (Blk.new w 49 #[.int .i64 f, .int .i64 i, .int .i64 p])
  have HB0 := Lib.hid (b_alloc w (.cells #[.int .i64 f, .int .i64 i, .int .i64 p] 49))
  have HQ1_0 := Lib.hid (HQ0.out.alloc (.cells #[.int .i64 x, .int .i64 y, .int .i64 z] 49))
  have HQ1_1 : Hid (Blk ((w.alloc (.cells #[.int .i64 f, .int .i64 i, .int .i64 p] 49)).alloc (.cells #[.int .i64 x, .int .i64 y, .int .i64 z] 49)) (w.heap.size + 1) 49 #[.int .i64 x, .int .i64 y, .int .i64 z]) := Lib.hid (by
    have h := Blk.new (w.alloc (.cells #[.int .i64 f, .int .i64 i, .int .i64 p] 49)) 49 #[.int .i64 x, .int .i64 y, .int .i64 z]
    rw [show (w.alloc (.cells #[.int .i64 f, .int .i64 i, .int .i64 p] 49)).heap.size = w.heap.size + 1 by simp] at h
    exact h)
  have HB1 := Lib.hid (HB0.out.alloc HB0.out.size (.cells #[.int .i64 x, .int .i64 y, .int .i64 z] 49))
  have HQ2_0 := Lib.hid (HQ1_0.out.alloc (.cells #[.int .i64 0, .int .i64 0, .int .i64 0] 49))
  have HQ2_1 := Lib.hid (HQ1_1.out.alloc (.cells #[.int .i64 0, .int .i64 0, .int .i64 0] 49))
  have HQ2_2 : Hid (Blk (((w.alloc (.cells #[.int .i64 f, .int .i64 i, .int .i64 p] 49)).alloc (.cells #[.int .i64 x, .int .i64 y, .int .i64 z] 49)).alloc (.cells #[.int .i64 0, .int .i64 0, .int .i64 0] 49)) (w.heap.size + 2) 49 #[.int .i64 0, .int .i64 0, .int .i64 0]) := Lib.hid (by
    have h := Blk.new ((w.alloc (.cells #[.int .i64 f, .int .i64 i, .int .i64 p] 49)).alloc (.cells #[.int .i64 x, .int .i64 y, .int .i64 z] 49)) 49 #[.int .i64 0, .int .i64 0, .int .i64 0]
    rw [show ((w.alloc (.cells #[.int .i64 f, .int .i64 i, .int .i64 p] 49)).alloc (.cells #[.int .i64 x, .int .i64 y, .int .i64 z] 49)).heap.size = w.heap.size + 2 by simp] at h
    exact h)
  have HB2 := Lib.hid (HB1.out.alloc HB1.out.size (.cells #[.int .i64 0, .int .i64 0, .int .i64 0] 49))
  go_wp2_with fail
  refine (hR _).mono ?_
  rintro e w3 ⟨rfl, hb3⟩
  have HQ3_0 := Lib.hid (HQ2_0.out.below hb3 HQ2_0.out.lt)
  have HQ3_1 := Lib.hid (HQ2_1.out.below hb3 HQ2_1.out.lt)
  have HQ3_2 := Lib.hid (HQ2_2.out.below hb3 HQ2_2.out.lt)
  have HB3 := Lib.hid (HB2.out.trans (hb3.mono HB2.out.size))
  clear hb3
  have c3_0_0 := HQ3_0.out.cell 0
  have c3_0_1 := HQ3_0.out.cell 1
  have c3_0_2 := HQ3_0.out.cell 2
  have z3_0 := HQ3_0.out.lt
  have c3_1_0 := HQ3_1.out.cell 0
  have c3_1_1 := HQ3_1.out.cell 1
  have c3_1_2 := HQ3_1.out.cell 2
  have z3_1 := HQ3_1.out.lt
  have c3_2_0 := HQ3_2.out.cell 0
  have f3_2_0 := HQ3_2.out.frozen 0
  have c3_2_1 := HQ3_2.out.cell 1
  have f3_2_1 := HQ3_2.out.frozen 1
  have c3_2_2 := HQ3_2.out.cell 2
  have f3_2_2 := HQ3_2.out.frozen 2
  have z3_2 := HQ3_2.out.lt
  try simp at c3_0_0 c3_0_1 c3_0_2 c3_1_0 c3_1_1 c3_1_2 c3_2_0 f3_2_0 c3_2_1 f3_2_1 c3_2_2 f3_2_2
  go_wp2_with fail
  refine (hX _).mono ?_
  rintro e w4 ⟨rfl, hb4⟩
  have HQ4_0 := Lib.hid (HQ3_0.out.below hb4 HQ3_0.out.lt)
  have HQ4_1 := Lib.hid (HQ3_1.out.below hb4 HQ3_1.out.lt)
  have HQ4_2 := Lib.hid (HQ3_2.out.below hb4 HQ3_2.out.lt)
  have HB4 := Lib.hid (HB3.out.trans (hb4.mono HB3.out.size))
  clear hb4 c3_0_0 c3_0_1 c3_0_2 z3_0 c3_1_0 c3_1_1 c3_1_2 z3_1 c3_2_0 f3_2_0 c3_2_1 f3_2_1 c3_2_2 f3_2_2 z3_2
  have c4_0_0 := HQ4_0.out.cell 0
  have c4_0_1 := HQ4_0.out.cell 1
  have c4_0_2 := HQ4_0.out.cell 2
  have z4_0 := HQ4_0.out.lt
  have c4_1_0 := HQ4_1.out.cell 0
  have c4_1_1 := HQ4_1.out.cell 1
  have c4_1_2 := HQ4_1.out.cell 2
  have z4_1 := HQ4_1.out.lt
  have c4_2_0 := HQ4_2.out.cell 0
  have f4_2_0 := HQ4_2.out.frozen 0
  have c4_2_1 := HQ4_2.out.cell 1
  have f4_2_1 := HQ4_2.out.frozen 1
  have c4_2_2 := HQ4_2.out.cell 2
  have f4_2_2 := HQ4_2.out.frozen 2
  have z4_2 := HQ4_2.out.lt
  try simp at c4_0_0 c4_0_1 c4_0_2 c4_1_0 c4_1_1 c4_1_2 c4_2_0 f4_2_0 c4_2_1 f4_2_1 c4_2_2 f4_2_2
  go_wp2_with fail
  have HC := Lib.hid (Blk.new w4 49 #[.int .i64 a, .int .i64 b, .int .i64 c])
  have HQ5_0 := Lib.hid (HQ4_0.out.alloc (.cells #[.int .i64 a, .int .i64 b, .int .i64 c] 49))
  have HQ5_1 := Lib.hid (HQ4_1.out.alloc (.cells #[.int .i64 a, .int .i64 b, .int .i64 c] 49))
  have HQ5_2 := Lib.hid (HQ4_2.out.alloc (.cells #[.int .i64 a, .int .i64 b, .int .i64 c] 49))
  have HQ5_3 := Lib.hid (Blk.new w4 49 #[.int .i64 a, .int .i64 b, .int .i64 c])
  have HB5 := Lib.hid (HB4.out.alloc HB4.out.size (.cells #[.int .i64 a, .int .i64 b, .int .i64 c] 49))
  clear HC
  clear c4_0_0 c4_0_1 c4_0_2 z4_0 c4_1_0 c4_1_1 c4_1_2 z4_1 c4_2_0 f4_2_0 c4_2_1 f4_2_1 c4_2_2 f4_2_2 z4_2
  refine (hA _).mono ?_
  rintro e w6 ⟨rfl, hb6⟩
  have HQ6_0 := Lib.hid (HQ5_0.out.below hb6 HQ5_0.out.lt)
  have HQ6_1 := Lib.hid (HQ5_1.out.below hb6 HQ5_1.out.lt)
  have HQ6_2 := Lib.hid (HQ5_2.out.below hb6 HQ5_2.out.lt)
  have HQ6_3 := Lib.hid (HQ5_3.out.below hb6 HQ5_3.out.lt)
  have HB6 := Lib.hid (HB5.out.trans (hb6.mono HB5.out.size))
  clear hb6
  have c6_0_0 := HQ6_0.out.cell 0
  have c6_0_1 := HQ6_0.out.cell 1
  have c6_0_2 := HQ6_0.out.cell 2
  have z6_0 := HQ6_0.out.lt
  have c6_1_0 := HQ6_1.out.cell 0
  have c6_1_1 := HQ6_1.out.cell 1
  have c6_1_2 := HQ6_1.out.cell 2
  have z6_1 := HQ6_1.out.lt
  have c6_2_0 := HQ6_2.out.cell 0
  have f6_2_0 := HQ6_2.out.frozen 0
  have c6_2_1 := HQ6_2.out.cell 1
  have f6_2_1 := HQ6_2.out.frozen 1
  have c6_2_2 := HQ6_2.out.cell 2
  have f6_2_2 := HQ6_2.out.frozen 2
  have z6_2 := HQ6_2.out.lt
  have c6_3_0 := HQ6_3.out.cell 0
  have c6_3_1 := HQ6_3.out.cell 1
  have c6_3_2 := HQ6_3.out.cell 2
  have z6_3 := HQ6_3.out.lt
  try simp at c6_0_0 c6_0_1 c6_0_2 c6_1_0 c6_1_1 c6_1_2 c6_2_0 f6_2_0 c6_2_1 f6_2_1 c6_2_2 f6_2_2 c6_3_0 c6_3_1 c6_3_2
  go_wp2_with fail
  exact fin_less (below_set3 HB6.out (Nat.le_add_right _ 2) _ _ _) (set3S HQ6_2.out _ _ _) rfl rfl
end Go.Proofs.YtpbfipeinblfgaaGreatDoor
namespace Go.Proofs.YtpbfipeinblfgaaGreatDoor
open Go.ChangeShapes Go.WideShapes Go.ChangeAt Go.RowKit

/-- A slice that reads as these values, each of one cell. -/
def RvI (w : World) (B : Nat) (A : Option Addr) (l : List Value) : Prop :=
  0 < l.length → ∃ b o, A = some ⟨b, o, none⟩ ∧ b < B ∧ ∀ (j : Nat) u, l[j]? = some u → w.cell? ⟨b, o + j, none⟩ = some u
section
variable {w w' : World} {B B' : Nat} {A : Option Addr} {l : List Value}
theorem RvI.nil_ : RvI w B A [] := fun h => absurd h (by simp)
theorem RvI.at_ {k : Nat} (h : RvI w B A l) (hk : k < l.length) : ∃ b o, A = some ⟨b, o, none⟩ ∧ b < B ∧ w.cell? ⟨b, o + k, none⟩ = some (l[k]'hk) := by
  obtain ⟨b, o, e, hb, hc⟩ := h (by omega)
  exact ⟨b, o, e, hb, hc k _ (List.getElem?_eq_getElem hk)⟩
theorem RvI.keep (h : RvI w B A l) (hk : ∀ p : Addr, p.block < B → w'.cell? p = w.cell? p) : RvI w' B A l := fun hn => by
  obtain ⟨b, o, e, hb, hc⟩ := h hn
  exact ⟨b, o, e, hb, fun j u hu => (hk _ hb).trans (hc j u hu)⟩
theorem RvI.more (h : RvI w B A l) (hB : B ≤ B') : RvI w B' A l := fun hn => by
  obtain ⟨b, o, e, hb, hc⟩ := h hn
  exact ⟨b, o, e, by omega, hc⟩
theorem RvI.below (h : RvI w B A l) (hb : Below B w w') : RvI w' B A l := h.keep fun _ hp => hb.cell hp
theorem RvI.take (h : RvI w B A l) (k : Nat) : RvI w B A (l.take k) := fun hn => by
  obtain ⟨b, o, e, hb, hc⟩ := h (by rw [List.length_take] at hn; omega)
  refine ⟨b, o, e, hb, fun j u hu => hc j u ?_⟩
  rw [List.getElem?_take] at hu
  split at hu
  · exact hu
  · cases hu
end

def encI (n : Int) : Value := .int .i64 n
theorem encI_one (l : List Int) : ∀ u ∈ l.map encI, u.oneCell' = true := by
  intro u hu
  obtain ⟨x, _, rfl⟩ := List.mem_map.1 hu
  rfl
theorem infoI : (Tryz.prog.info? 2).map (fun i => (i.zero, i.size, i.bytes)) = some (some (.int .i64 0), 1, 8) := by kernel_rfl
def OwnI (w : World) (base : Nat) (v : Value) (n : Nat) (l : List Int) : Prop := w.ownsRow base 2 1 v n (l.map encI)

theorem RvI.of_ownI {w : World} {base n c : Nat} {A : Option Addr} {l : List Int} (h : OwnI w base (.slice A n c) n l) : RvI w w.heap.size A (l.map encI) := fun hn => by
  rw [List.length_map] at hn
  have hln : l.length = n := by have := h.1; simpa using this
  obtain ⟨g, cap, hv, _, hlt⟩ := World.ownsRow.form h (by omega)
  have hA : A = some ⟨g, 0, none⟩ := by injection hv
  subst hA
  refine ⟨g, 0, rfl, hlt, fun j u hu => ?_⟩
  have := World.ownsRow.cells h (g := g) rfl j u hu
  simpa [go_sem] using this
theorem own_formI {w : World} {base : Nat} {v : Value} {n : Nat} {l : List Int} (h : OwnI w base v n l) :
    l.length = n ∧ ∃ A c, v = .slice A n c ∧ n ≤ c ∧ c ≤ maxLen ∧ RvI w w.heap.size A (l.map encI) := by
  have hl : l.length = n := by have := h.1; simpa using this
  refine ⟨hl, ?_⟩
  rcases h.2 with ⟨rfl, rfl⟩ | ⟨g, cap, cur, rfl, _, _, hnc, hcm, _⟩
  · exact ⟨_, _, rfl, Nat.le_refl _, by decide, by obtain rfl : l = [] := List.eq_nil_of_length_eq_zero hl; exact RvI.nil_⟩
  · exact ⟨_, _, rfl, hnc, hcm, RvI.of_ownI h⟩

section
variable {H : Type} {enc : TypeId × Value → H} {W : World}
theorem cellsI : Tryz.prog.cellsOf 2 = 1 := by kernel_rfl
theorem bytesI : Tryz.prog.bytesOf 2 = 8 := by kernel_rfl
end
end Go.Proofs.YtpbfipeinblfgaaGreatDoor
namespace Go.Proofs.YtpbfipeinblfgaaGreatDoor
open Go.ChangeShapes Go.WideShapes Go.ChangeAt Go.RowKit

def encC (n : Int) : Value := .int .i64 n
theorem encC_one (l : List Int) : ∀ u ∈ l.map encC, u.oneCell' = true := by
  intro u hu
  obtain ⟨x, _, rfl⟩ := List.mem_map.1 hu
  rfl
theorem infoCC : (Tryz.prog.info? 22).map (fun i => (i.zero, i.size, i.bytes)) = some (some (.int .i64 0), 1, 8) := by kernel_rfl
def OwnC (w : World) (base : Nat) (v : Value) (n : Nat) (l : List Int) : Prop := w.ownsRow base 22 1 v n (l.map encC)

theorem appendC_void (w : World) (base : Nat) (ty : TypeId) (v : Value) (n : Nat) (l : List Int) (hown : OwnC w base v n l) (A : Option Addr) (c : Nat) :
    (Builtin.append_ #[63, 63] ty #[v, .slice A 0 c]).run Tryz.prog w = .ok v w := by
  obtain ⟨i0, hi, hz0, hz1, hz2⟩ := info_parts infoCC
  unfold OwnC at hown
  cases A <;> rcases hown.2 with ⟨rfl, rfl⟩ | ⟨g, cap, cur, rfl, _, _, hnc, _⟩ <;>
    simp [Builtin.append_, run_underlying Tryz.underlying63, sizeOf, typeInfo, Builtin.lenOf, Builtin.firstCells, storeCells, loadCells, loadCellsFrom, *]
theorem appendC (w : World) (base : Nat) (ty : TypeId) (v : Value) (n : Nat) (l : List Int) (hown : OwnC w base v n l) (B : Nat) (A : Option Addr) (m c : Nat) (news : List Int)
    (hR : RvI w B A (news.map encC)) (hm : news.length = m) (hsz : n + m ≤ 1000) (hbase : base ≤ w.heap.size) :
    ∃ v' w', (Builtin.append_ #[63, 63] ty #[v, .slice A m c]).run Tryz.prog w = .ok v' w' ∧ OwnC w' base v' (n + m) (l ++ news) ∧ w.grownBy w' v.ownBlock := by
  rcases Nat.eq_zero_or_pos m with h0 | h0
  · subst h0
    obtain rfl : news = [] := List.eq_nil_of_length_eq_zero hm
    exact ⟨v, w, appendC_void w base ty v n _ hown A c, by simpa using hown, grown_refl _ _⟩
  · obtain ⟨b, o, rfl, _, hc⟩ := hR (by rw [List.length_map]; omega)
    obtain ⟨i0, hi, hz0, hz1, hz2⟩ := info_parts infoCC
    obtain ⟨v', w', hr, h2, h3, _⟩ := run_append_own (P := Tryz.prog) w base 63 ty 22 i0 (.int .i64 0) 1 8 Tryz.underlying63 hi hz0 hz1 hz2 rfl (by decide) v n (l.map encC) hown
      ⟨b, o, none⟩ m c (news.map encC) (by simpa using hm) (fun j u hu => by simpa [go_sem] using hc j u hu) (encC_one news) (by unfold maxLen; omega) (by omega) hbase
    exact ⟨v', w', hr, by unfold OwnC; rw [List.map_append]; exact h2, h3⟩
theorem wpList_appendC {w : World} {ops : Array Oper} {rest : List Oper} {o : Oper} {a : Act} {Q : Exit → Act → World → Prop} (hgd : o.guard = Option.none) (s x : Operand)
    (ho : o.op = .call { callee := .builtin .append, args := #[s, x], argTypes := #[63, 63] })
    (base : Nat) (v : Value) (n : Nat) (l : List Int) (hs : a.eval s = v) (hown : OwnC w base v n l)
    (B : Nat) (A : Option Addr) (m c : Nat) (news : List Int) (hx : a.eval x = .slice A m c) (hR : RvI w B A (news.map encC)) (hm : news.length = m) (hsz : n + m ≤ 1000) (hbase : base ≤ w.heap.size)
    (h : ∀ v' w', OwnC w' base v' (n + m) (l ++ news) → w.grownBy w' v.ownBlock → wpList Tryz.prog ops Q rest (a.put o.dst v') w') : wpList Tryz.prog ops Q (o :: rest) a w := by
  refine wpList_plain hgd fun _ hK => ?_
  obtain ⟨v', w', hr, h2, h3⟩ := appendC w base o.type v n l hown B A m c news hR hm hsz hbase
  unfold Oper.wp execOp
  simp only [ho, resolve, invoke, builtin, Sem.run_bind, Sem.run_pure, Result.andThen_ok, List.map_toArray, List.map_cons, List.map_nil, hs, hx, hr]
  exact hK _ _ (h v' w' h2 h3)
theorem RvI.of_ownC {w : World} {base n c : Nat} {A : Option Addr} {l : List Int} (h : OwnC w base (.slice A n c) n l) : RvI w w.heap.size A (l.map encC) := fun hn => by
  rw [List.length_map] at hn
  have hln : l.length = n := by have := h.1; simpa using this
  obtain ⟨g, cap, hv, _, hlt⟩ := World.ownsRow.form h (by omega)
  have hA : A = some ⟨g, 0, none⟩ := by injection hv
  subst hA
  refine ⟨g, 0, rfl, hlt, fun j u hu => ?_⟩
  have := World.ownsRow.cells h (g := g) rfl j u hu
  simpa [go_sem] using this
theorem own_formC {w : World} {base : Nat} {v : Value} {n : Nat} {l : List Int} (h : OwnC w base v n l) :
    l.length = n ∧ ∃ A c, v = .slice A n c ∧ n ≤ c ∧ c ≤ maxLen ∧ RvI w w.heap.size A (l.map encC) := by
  have hl : l.length = n := by have := h.1; simpa using this
  refine ⟨hl, ?_⟩
  rcases h.2 with ⟨rfl, rfl⟩ | ⟨g, cap, cur, rfl, _, _, hnc, hcm, _⟩
  · exact ⟨_, _, rfl, Nat.le_refl _, by decide, by obtain rfl : l = [] := List.eq_nil_of_length_eq_zero hl; exact RvI.nil_⟩
  · exact ⟨_, _, rfl, hnc, hcm, RvI.of_ownC h⟩

end Go.Proofs.YtpbfipeinblfgaaGreatDoor
namespace Go.Proofs.YtpbfipeinblfgaaGreatDoor
open Go.RowKit

/-- One step of a sum, and the whole: no beginning may be over. -/
def sumF (o : Option Int) (a : Int) : Option Int :=
  match o with
  | some s => if Fits (s + a) then some (s + a) else Option.none
  | Option.none => Option.none
def sumO (l : List Int) : Option Int := l.foldl sumF (some 0)
theorem sumF_none (l : List Int) : l.foldl sumF Option.none = Option.none := by
  induction l with
  | nil => rfl
  | cons a l ih => exact ih
theorem sumO_next (l : List Int) (k : Nat) (h : k < l.length) : sumO (l.take (k + 1)) = sumF (sumO (l.take k)) (l[k]'h) := by
  unfold sumO
  rw [List.take_succ_eq_append_getElem h, List.foldl_append]
  rfl
theorem sumO_fits (l : List Int) (s : Int) (h : sumO l = some s) : Fits s := by
  unfold sumO at h
  rcases List.eq_nil_or_concat l with rfl | ⟨r, a, rfl⟩
  · injection h with h
    subst h
    decide
  · rw [List.concat_eq_append, List.foldl_append] at h
    simp only [List.foldl_cons, List.foldl_nil] at h
    unfold sumF at h
    split at h
    · split at h
      · injection h with h
        subst h
        assumption
      · cases h
    · cases h
theorem sumO_stop (l : List Int) (k : Nat) (h : sumO (l.take k) = Option.none) : sumO l = Option.none := by
  unfold sumO at *
  rw [← List.take_append_drop k l, List.foldl_append, h]
  exact sumF_none _

/-- What coin.Sum tells. -/
def sumV (o : Option Int) : Value :=
  match o with
  | some s => .tuple #[.int .i64 s, .nilIface]
  | Option.none => .tuple #[.int .i64 0, .iface 110 (.int .i64 12)]
set_option maxRecDepth 20000 in
set_option maxHeartbeats 2000000 in
theorem CSum_any (A : Option Addr) (n c B : Nat) (l : List Int) (w : World) (hR : RvI w B A (l.map encC)) (hn : l.length = n) (hnc : n ≤ c) (hcm : c ≤ maxLen) (hl : ∀ u ∈ l, Fits u) :
    Calls Tryz.prog 62 #[.slice A n c] w fun e w' => e = .returned (sumV (sumO l)) ∧ w = w' := by
  unfold maxLen at hcm
  have HR := Lib.hid hR
  have HN := Lib.hid hn
  have HL := Lib.hid hl
  clear hR hn hl
  go_enter Tryz.func62, Tryz.ntmps62
  go_wp2_with fail
  go_loop [4, 11] (fun v i => ∃ (k : Nat) (s : Int), k ≤ n ∧ i = .int .i64 k ∧ v = .int .i64 s ∧ Fits s ∧ Hid (sumO (l.take k) = some s)) (fun _ i => n - (intOf i).toNat)
  case atStart => exact ⟨0, 0, Nat.zero_le _, rfl, rfl, by decide, Lib.hid rfl⟩
  case round =>
    obtain ⟨k, s, hk, rfl, rfl, hs, HS⟩ := hrel
    by_cases hlt : k < n
    · have hkl : k < l.length := by rw [HN.out]; exact hlt
      obtain ⟨b, o, rfl, hb, hc⟩ := HR.out.at_ (k := k) (by rw [List.length_map]; exact hkl)
      rw [List.getElem_map] at hc
      unfold encC at hc
      have hx := sumO_next l k hkl
      have ha : Fits (l[k]'hkl) := HL.out _ (List.getElem_mem hkl)
      obtain ⟨a, hae⟩ : ∃ a, l[k]'hkl = a := ⟨_, rfl⟩
      rw [hae] at hc hx ha
      rw [HS.out] at hx
      have cA := fun W => CoinAdd_any s a hs ha W
      clear hae hkl
      by_cases hf : Fits (s + a)
      · have HX := Lib.hid (hx.trans (if_pos hf))
        simp only [hf, if_true] at cA
        have hf1 := hf.1
        have hf2 := hf.2
        have HF := Lib.hid hf
        clear hx hs ha hf
        go_wp2_with (go_at_call 111; refine (cA _).mono ?_; rintro e w' ⟨rfl, rfl⟩)
        go_round
        case rel => exact ⟨k + 1, s + a, by omega, by go_num, rfl, HF.out, HX⟩
        case measure => simp [intOf]; omega
      · have hz : sumO l = Option.none := sumO_stop l (k + 1) (hx.trans (if_neg hf))
        have HZ := Lib.hid (show sumV (sumO l) = _ from congrArg sumV hz)
        simp only [hf, if_false] at cA
        clear hx hs ha hf hz
        go_wp2_with (go_at_call 111; refine (cA _).mono ?_; rintro e w' ⟨rfl, rfl⟩)
        go_ret2
        exact ⟨by rw [HZ.out]; rfl, rfl⟩
    · have hkn : k = n := by omega
      subst hkn
      have HZ := Lib.hid (show sumV (sumO l) = sumV (some s) by rw [← HS.out, List.take_of_length_le (by rw [HN.out]; exact Nat.le_refl _)])
      go_wp2_with fail
      go_ret2
      exact ⟨by rw [HZ.out]; rfl, rfl⟩
end Go.Proofs.YtpbfipeinblfgaaGreatDoor
namespace Go.Proofs.YtpbfipeinblfgaaGreatDoor
open Go.ChangeShapes Go.WideShapes Go.ChangeAt Go.RowKit Go.Shelf

theorem RvI.blkS {w : World} {b : Nat} {ty : TypeId} {cs : Array Value} (h : Blk w b ty cs) : RvI w w.heap.size (some ⟨b, 0, none⟩) cs.toList := fun _ =>
  ⟨b, 0, rfl, h.lt, fun j u hu => by
    rw [h.cell, Nat.zero_add]
    simpa using hu⟩
set_option maxRecDepth 100000 in
set_option maxHeartbeats 4000000 in
theorem All_any {f i p : Int} (hk : okO f i p) (hf : f ≤ 1000000000000000000) (hi : i ≤ 1000000000000000000) (hp : p ≤ 1000000000000000000) (w : World) :
    Calls Tryz.prog 34 #[ov f i p] w (Ret (.tuple #[.int .i64 (f + i + p), .nilIface]) w) := by
  have hrt := fun W => ORight_yes hk W
  unfold ov at hrt ⊢
  have hsum := fun A B W (hR : RvI W B A ([f, i, p].map encC)) => CSum_any A 3 3 B [f, i, p] W hR rfl (Nat.le_refl _) (by decide) (by
    intro u hu
    obtain ⟨k1, k2, k3⟩ := hk
    simp at hu
    rcases hu with rfl | rfl | rfl <;> (unfold Fits; omega))
  have hso : sumO [f, i, p] = some (f + i + p) := by
    obtain ⟨k1, k2, k3⟩ := hk
    show sumF (sumF (sumF (some 0) f) i) p = _
    unfold sumF
    simp only
    rw [if_pos (by unfold Fits; omega)]
    simp only
    rw [if_pos (by unfold Fits; omega)]
    simp only
    rw [if_pos (by unfold Fits; omega)]
    congr 1
    omega
  rw [hso] at hsum
  obtain ⟨Z, hZ⟩ : ∃ Z, f + i + p = Z := ⟨_, rfl⟩
  unfold sumV at hsum
  simp only [hZ] at hsum
  rw [hZ]
  have hab := b_alloc w (.cells #[.int .i64 f, .int .i64 i, .int .i64 p] 49)
  have hbe := Blk.new w 49 #[.int .i64 f, .int .i64 i, .int .i64 p]
  obtain ⟨W1, hW⟩ : ∃ W, w.alloc (.cells #[.int .i64 f, .int .i64 i, .int .i64 p] 49) = W := ⟨_, rfl⟩
  obtain ⟨eb, hE⟩ : ∃ j, w.heap.size = j := ⟨_, rfl⟩
  rw [hW] at hab hbe
  rw [hE] at hbe
  have HW := Lib.hid hW
  have HEB := Lib.hid hE
  have HB := Lib.hid hab
  have HE := Lib.hid hbe
  have HR := Lib.hid hrt
  have HS := Lib.hid hsum
  have q0 := hbe.cell 0
  have q1 := hbe.cell 1
  have q2 := hbe.cell 2
  simp at q0 q1 q2
  clear hW hE hab hbe hrt hsum hso hZ hk hf hi hp
  go_enter Tryz.func34, Tryz.ntmps34
  go_upto_region 1 with (fail)
  rw [HW.out, HEB.out]
  clear HW
  go_wp2_with fail
  refine (HR.out W1).mono ?_
  rintro e w2 ⟨rfl, b2⟩
  have HE2 := Lib.hid (HE.out.below b2 HE.out.lt)
  have HB2 := Lib.hid (HB.out.trans (b2.mono HB.out.size))
  have r0 := HE2.out.cell 0
  have r1 := HE2.out.cell 1
  have r2 := HE2.out.cell 2
  simp at r0 r1 r2
  clear q0 q1 q2 HB HE b2
  go_wp2_with fail
  have hbk := Blk.new w2 22 #[.int .i64 f, .int .i64 i, .int .i64 p]
  have hb3 := Lib.hid (HB2.out.trans ((b_alloc w2 (.cells #[.int .i64 f, .int .i64 i, .int .i64 p] 22)).mono HB2.out.size))
  refine (HS.out _ _ _ (RvI.blkS hbk)).mono ?_
  rintro e w4 ⟨rfl, rfl⟩
  clear hbk
  go_wp2_with fail
  go_ret2
  exact ⟨rfl, hb3.out⟩
def stV (x : TS) : Value := .agg #[.int .i64 x.f, .int .i64 x.i, .int .i64 x.p, .int .u64 (x.c : Int), .int .i64 x.d, .int .i64 x.s, .int .i64 x.r, .int .i64 x.h, .int .u8 (x.t : Int)]
set_option maxRecDepth 100000 in
set_option maxHeartbeats 4000000 in
theorem Quote_any {x : TS} (hf : 0 ≤ x.f ∧ x.f ≤ 1000000000000000000) (hi : 0 ≤ x.i ∧ x.i ≤ 1000000000000000000) (hp : 0 ≤ x.p ∧ x.p ≤ 1000000000000000000) (w : World) :
    Calls Tryz.prog 16 #[stV x] w (Ret (.int .i64 (x.f + x.i + x.p)) w) := by
  have hA := fun W => All_any (f := x.f) (i := x.i) (p := x.p) ⟨hf.1, hi.1, hp.1⟩ hf.2 hi.2 hp.2 W
  unfold stV
  unfold ov at hA
  obtain ⟨Z, hZ⟩ : ∃ Z, x.f + x.i + x.p = Z := ⟨_, rfl⟩
  rw [hZ] at hA ⊢
  obtain ⟨C, hC⟩ : ∃ C : Array Value, C = #[.int .i64 x.f, .int .i64 x.i, .int .i64 x.p, .int .u64 (x.c : Int), .int .i64 x.d, .int .i64 x.s, .int .i64 x.r, .int .i64 x.h, .int .u8 (x.t : Int)] := ⟨_, rfl⟩
  have hab := b_alloc w (.cells C 52)
  have hbe := Blk.new w 52 C
  obtain ⟨W1, hW⟩ : ∃ W, w.alloc (.cells C 52) = W := ⟨_, rfl⟩
  obtain ⟨eb, hE⟩ : ∃ j, w.heap.size = j := ⟨_, rfl⟩
  rw [hW] at hab hbe
  rw [hE] at hbe
  rw [hC] at hW
  have q0 := hbe.cell 0
  have q1 := hbe.cell 1
  have q2 := hbe.cell 2
  rw [hC] at q0 q1 q2
  simp at q0 q1 q2
  have HW := Lib.hid hW
  have HEB := Lib.hid hE
  have HB := Lib.hid hab
  have HA := Lib.hid hA
  clear hW hE hab hbe hA hZ hC hf hi hp
  go_enter Tryz.func16, Tryz.ntmps16
  go_upto_region 1 with (fail)
  rw [HW.out, HEB.out]
  clear HW
  go_wp2_with fail
  refine (HA.out W1).mono ?_
  rintro e w2 ⟨rfl, b2⟩
  have HB2 := Lib.hid (HB.out.trans (b2.mono HB.out.size))
  clear q0 q1 q2 HB b2
  go_wp2_with fail
  go_ret
  exact ⟨rfl, HB2.out⟩
end Go.Proofs.YtpbfipeinblfgaaGreatDoor
namespace Go.Proofs.YtpbfipeinblfgaaGreatDoor
open Go.ChangeShapes Go.WideShapes Go.ChangeAt Go.RowKit Go.Shelf

set_option maxRecDepth 100000 in
set_option maxHeartbeats 4000000 in
theorem writeOff_any {o : Deal} {b0 g q : Nat} {day : Int} {l : List Ev} {x : TS} (w : World) (h : Tel w b0 g (.pointer (some ⟨q, 0, none⟩)) day l x) (hs : Sto w b0 q o) (hb : b0 ≤ w.heap.size) (hL : x.L.length ≤ 1000000000) (e : Ev) (he : EvOk e) (hf : 0 ≤ x.f ∧ x.f ≤ 1000000000000000000) (hi : 0 ≤ x.i ∧ x.i ≤ 1000000000000000000) (hp : 0 ≤ x.p ∧ x.p ≤ 1000000000000000000) :
    Calls Tryz.prog 109 #[.pointer (some ⟨g, 0, none⟩), .agg #[.int .u32 (e.s : Int), .int .i32 e.d, .int .u8 (e.k : Int), .int .i64 e.a]] w (TelPost w b0 g (.pointer (some ⟨q, 0, none⟩)) day l (offM o.n day x e)) := by
  have hQ := fun W => Quote_any hf hi hp W
  unfold offM
  obtain ⟨he1, he2, he3, he4⟩ := he
  have hab := b_alloc w (.cells #[.int .u32 (e.s : Int), .int .i32 e.d, .int .u8 (e.k : Int), .int .i64 e.a] 47)
  have hbe := Blk.new w 47 #[.int .u32 (e.s : Int), .int .i32 e.d, .int .u8 (e.k : Int), .int .i64 e.a]
  obtain ⟨W1, hW⟩ : ∃ W, w.alloc (.cells #[.int .u32 (e.s : Int), .int .i32 e.d, .int .u8 (e.k : Int), .int .i64 e.a] 47) = W := ⟨_, rfl⟩
  obtain ⟨eb, hE⟩ : ∃ j, w.heap.size = j := ⟨_, rfl⟩
  have hgl := h.lt
  rw [hW] at hab hbe
  rw [hE] at hbe hgl
  have hne : eb ≠ g := fun e => by omega
  have HNE := Lib.hid hne
  have T1 := Lib.hid (h.below hab)
  have B1 := Lib.hid (hab.mono hb)
  have E1 := Lib.hid hbe
  have HW := Lib.hid hW
  have HEB := Lib.hid hE
  have HS := Lib.hid hs
  have HL := Lib.hid hL
  have HB := Lib.hid hb
  clear h hs hb hL hab hbe hW hE hne hgl
  unfold stV at hQ
  obtain ⟨Z, hZ⟩ : ∃ Z, x.f + x.i + x.p = Z := ⟨_, rfl⟩
  rw [hZ] at hQ
  have hz0 : 0 ≤ Z ∧ Z ≤ 3000000000000000000 := by omega
  have HZ := Lib.hid hZ
  have HQ := Lib.hid hQ
  obtain ⟨ev, en, hT, -⟩ := id T1.out
  have HT := Lib.hid hT
  clear hT hQ hZ
  go_enter Tryz.func109, Tryz.ntmps109
  go_upto_region 1 with (fail)
  rw [HW.out, HEB.out]
  clear HW
  have LD1_0 : ∀ W', Below W1.heap.size W1 W' → (Instr.loadAt 23 (.pointer (some ⟨eb, 0, none⟩))).run Tryz.prog W' = .ok (.int .u32 (e.s : Int)) W' := fun W' hb' => by
    have x0 := (E1.out.below hb' E1.out.lt).cell 0
    simp at x0
    go_simp
  have LD1_1 := fun W' (hb' : Below W1.heap.size W1 W') => run_loadB (P := Tryz.prog) (HT.out.below hb' HT.out.lt) 52 1 #[.int .i64 x.f, .int .i64 x.i, .int .i64 x.p, .int .u64 (x.c : Int), .int .i64 x.d, .int .i64 x.s, .int .i64 x.r, .int .i64 x.h, .int .u8 (x.t : Int)] (part_of (by rfl)) rowState
  have LD1_2 : ∀ W', Below W1.heap.size W1 W' → (Instr.loadAt 22 (.pointer (some ⟨g, 3, none⟩))).run Tryz.prog W' = .ok (.int .i64 x.p) W' := fun W' hb' => by
    have x0 := (HT.out.below hb' HT.out.lt).cell 3
    simp [telC] at x0
    go_simp
  have LD1_3 : ∀ W', Below W1.heap.size W1 W' → (Instr.loadAt 22 (.pointer (some ⟨g, 2, none⟩))).run Tryz.prog W' = .ok (.int .i64 x.i) W' := fun W' hb' => by
    have x0 := (HT.out.below hb' HT.out.lt).cell 2
    simp [telC] at x0
    go_simp
  have LD1_4 : ∀ W', Below W1.heap.size W1 W' → (Instr.loadAt 22 (.pointer (some ⟨g, 1, none⟩))).run Tryz.prog W' = .ok (.int .i64 x.f) W' := fun W' hb' => by
    have x0 := (HT.out.below hb' HT.out.lt).cell 1
    simp [telC] at x0
    go_simp
  refine wp_region_flow_lst _ [some 4, some 5, some 6, some 7, some 8, some 9, some 10, some 11, some 12, some 13, some 14, some 15, some 16, some 17, some 18, some 19, some 20, some 21, some 22, some 23, some 24, some 25, some 26, some 27, some 28, some 29, some 30, some 31, some 32, some 33, some 34] (fun i => ([.is (.pointer (some ⟨g, 0, none⟩)), .is (.pointer (some ⟨eb, 0, none⟩)), .is (.int .u32 (e.s : Int)), .is (.pointer (some ⟨g, 0, none⟩)), .is (.pointer (some ⟨g, 0, none⟩)), .is (.pointer (some ⟨g, 1, none⟩)), .is (.agg #[.int .i64 x.f, .int .i64 x.i, .int .i64 x.p, .int .u64 (x.c : Int), .int .i64 x.d, .int .i64 x.s, .int .i64 x.r, .int .i64 x.h, .int .u8 (x.t : Int)]), .is (.int .i64 Z), .is (.agg #[.int .u8 ((8 : Nat) : Int), .int .i64 (Z)]), .is (.pointer (some ⟨g, 0, none⟩)), .is (.pointer (some ⟨g, 0, none⟩)), .is (.pointer (some ⟨g, 1, none⟩)), .is (.pointer (some ⟨g, 1, none⟩)), .is (.pointer (some ⟨g, 3, none⟩)), .is (.int .i64 x.p), .is (.agg #[.int .u8 ((2 : Nat) : Int), .int .i64 (-x.p)]), .is (.pointer (some ⟨g, 0, none⟩)), .is (.pointer (some ⟨g, 0, none⟩)), .is (.pointer (some ⟨g, 1, none⟩)), .is (.pointer (some ⟨g, 1, none⟩)), .is (.pointer (some ⟨g, 2, none⟩)), .is (.int .i64 x.i), .is (.agg #[.int .u8 ((3 : Nat) : Int), .int .i64 (-x.i)]), .is (.pointer (some ⟨g, 0, none⟩)), .is (.pointer (some ⟨g, 0, none⟩)), .is (.pointer (some ⟨g, 1, none⟩)), .is (.pointer (some ⟨g, 1, none⟩)), .is (.pointer (some ⟨g, 1, none⟩)), .is (.int .i64 x.f), .is (.agg #[.int .u8 ((4 : Nat) : Int), .int .i64 (-x.f)]), legF W1.heap.size 4 #[.int .u8 ((8 : Nat) : Int), .int .i64 (Z), .int .u8 ((2 : Nat) : Int), .int .i64 (-x.p), .int .u8 ((3 : Nat) : Int), .int .i64 (-x.i), .int .u8 ((4 : Nat) : Int), .int .i64 (-x.f)]] : List Flw).getD i .any) (by rfl) (by kernel_rfl) (by kernel_rfl) (by kernel_rfl) (by rfl) (by rfl) ?_ ?_
  · skip
    refine ⟨step_free rfl (fun aF wF hs hb => ?_), ?_⟩
    · obtain ⟨x0, -⟩ := hs
      have e0 : aF.eval (.tmp 0) = .pointer (some ⟨g, 0, none⟩) := x0
      exact opC_move e0 ⟨rfl, below_same wF⟩
    refine ⟨step_free rfl (fun aF wF hs hb => ?_), ?_⟩
    · obtain ⟨x0, -⟩ := hs
      have e0 : aF.eval (.tmp 3) = .pointer (some ⟨eb, 0, none⟩) := x0
      refine opC_value (v := .pointer (some ⟨eb, 0, none⟩)) ?_ ⟨rfl, below_same wF⟩
      have t0 := ev_of e0
      go_simp
    refine ⟨step_free rfl (fun aF wF hs hb => ?_), ?_⟩
    · obtain ⟨x0, -⟩ := hs
      have e0 : aF.eval (.tmp 5) = .pointer (some ⟨eb, 0, none⟩) := x0
      exact opC_load e0 (LD1_0 wF hb) ⟨rfl, below_same wF⟩
    refine ⟨step_free rfl (fun aF wF hs hb => ?_), ?_⟩
    · obtain ⟨x0, -⟩ := hs
      have e0 : aF.eval (.tmp 0) = .pointer (some ⟨g, 0, none⟩) := x0
      exact opC_move e0 ⟨rfl, below_same wF⟩
    refine ⟨step_free rfl (fun aF wF hs hb => ?_), ?_⟩
    · obtain ⟨x0, -⟩ := hs
      have e0 : aF.eval (.tmp 7) = .pointer (some ⟨g, 0, none⟩) := x0
      refine opC_value (v := .pointer (some ⟨g, 0, none⟩)) ?_ ⟨rfl, below_same wF⟩
      have t0 := ev_of e0
      go_simp
    refine ⟨step_free rfl (fun aF wF hs hb => ?_), ?_⟩
    · obtain ⟨x0, -⟩ := hs
      have e0 : aF.eval (.tmp 8) = .pointer (some ⟨g, 0, none⟩) := x0
      refine opC_value (v := .pointer (some ⟨g, 1, none⟩)) ?_ ⟨rfl, below_same wF⟩
      have t0 := ev_of e0
      go_simp
    refine ⟨step_free rfl (fun aF wF hs hb => ?_), ?_⟩
    · obtain ⟨x0, -⟩ := hs
      have e0 : aF.eval (.tmp 9) = .pointer (some ⟨g, 1, none⟩) := x0
      exact opC_load e0 (LD1_1 wF hb) ⟨rfl, below_same wF⟩
    refine ⟨step_free rfl (fun aF wF hs hb => ?_), ?_⟩
    · obtain ⟨x0, -⟩ := hs
      have e0 : aF.eval (.tmp 10) = .agg #[.int .i64 x.f, .int .i64 x.i, .int .i64 x.p, .int .u64 (x.c : Int), .int .i64 x.d, .int .i64 x.s, .int .i64 x.r, .int .i64 x.h, .int .u8 (x.t : Int)] := x0
      exact opC_call (args := #[.agg #[.int .i64 x.f, .int .i64 x.i, .int .i64 x.p, .int .u64 (x.c : Int), .int .i64 x.d, .int .i64 x.s, .int .i64 x.r, .int .i64 x.h, .int .u8 (x.t : Int)]]) (enters_of Tryz.func16 (by kernel_rfl) rfl) (by simp [e0]; try rfl) (HQ.out wF) (fun _ h => ⟨rfl, h⟩)
    refine ⟨step_free rfl (fun aF wF hs hb => ?_), ?_⟩
    · obtain ⟨x0, -⟩ := hs
      have e0 : aF.eval (.tmp 11) = .int .i64 Z := x0
      exact opC_call (args := #[.int .u8 ((8 : Nat) : Int), .int .i64 Z]) (enters_of Tryz.func56 (by kernel_rfl) rfl) (by simp [e0]; try rfl) (debit_any 8 Z wF) (fun _ h => ⟨rfl, h⟩)
    refine ⟨step_free rfl (fun aF wF hs hb => ?_), ?_⟩
    · obtain ⟨x0, -⟩ := hs
      have e0 : aF.eval (.tmp 0) = .pointer (some ⟨g, 0, none⟩) := x0
      exact opC_move e0 ⟨rfl, below_same wF⟩
    refine ⟨step_free rfl (fun aF wF hs hb => ?_), ?_⟩
    · obtain ⟨x0, -⟩ := hs
      have e0 : aF.eval (.tmp 13) = .pointer (some ⟨g, 0, none⟩) := x0
      refine opC_value (v := .pointer (some ⟨g, 0, none⟩)) ?_ ⟨rfl, below_same wF⟩
      have t0 := ev_of e0
      go_simp
    refine ⟨step_free rfl (fun aF wF hs hb => ?_), ?_⟩
    · obtain ⟨x0, -⟩ := hs
      have e0 : aF.eval (.tmp 14) = .pointer (some ⟨g, 0, none⟩) := x0
      refine opC_value (v := .pointer (some ⟨g, 1, none⟩)) ?_ ⟨rfl, below_same wF⟩
      have t0 := ev_of e0
      go_simp
    refine ⟨step_free rfl (fun aF wF hs hb => ?_), ?_⟩
    · obtain ⟨x0, -⟩ := hs
      have e0 : aF.eval (.tmp 15) = .pointer (some ⟨g, 1, none⟩) := x0
      refine opC_value (v := .pointer (some ⟨g, 1, none⟩)) ?_ ⟨rfl, below_same wF⟩
      have t0 := ev_of e0
      go_simp
    refine ⟨step_free rfl (fun aF wF hs hb => ?_), ?_⟩
    · obtain ⟨x0, -⟩ := hs
      have e0 : aF.eval (.tmp 16) = .pointer (some ⟨g, 1, none⟩) := x0
      refine opC_value (v := .pointer (some ⟨g, 3, none⟩)) ?_ ⟨rfl, below_same wF⟩
      have t0 := ev_of e0
      go_simp
    refine ⟨step_free rfl (fun aF wF hs hb => ?_), ?_⟩
    · obtain ⟨x0, -⟩ := hs
      have e0 : aF.eval (.tmp 17) = .pointer (some ⟨g, 3, none⟩) := x0
      exact opC_load e0 (LD1_2 wF hb) ⟨rfl, below_same wF⟩
    refine ⟨step_free rfl (fun aF wF hs hb => ?_), ?_⟩
    · obtain ⟨x0, -⟩ := hs
      have e0 : aF.eval (.tmp 18) = .int .i64 x.p := x0
      exact opC_call (args := #[.int .u8 ((2 : Nat) : Int), .int .i64 x.p]) (enters_of Tryz.func57 (by kernel_rfl) rfl) (by simp [e0]; try rfl) (credit_any 2 x.p (by omega) wF) (fun _ h => ⟨rfl, h⟩)
    refine ⟨step_free rfl (fun aF wF hs hb => ?_), ?_⟩
    · obtain ⟨x0, -⟩ := hs
      have e0 : aF.eval (.tmp 0) = .pointer (some ⟨g, 0, none⟩) := x0
      exact opC_move e0 ⟨rfl, below_same wF⟩
    refine ⟨step_free rfl (fun aF wF hs hb => ?_), ?_⟩
    · obtain ⟨x0, -⟩ := hs
      have e0 : aF.eval (.tmp 20) = .pointer (some ⟨g, 0, none⟩) := x0
      refine opC_value (v := .pointer (some ⟨g, 0, none⟩)) ?_ ⟨rfl, below_same wF⟩
      have t0 := ev_of e0
      go_simp
    refine ⟨step_free rfl (fun aF wF hs hb => ?_), ?_⟩
    · obtain ⟨x0, -⟩ := hs
      have e0 : aF.eval (.tmp 21) = .pointer (some ⟨g, 0, none⟩) := x0
      refine opC_value (v := .pointer (some ⟨g, 1, none⟩)) ?_ ⟨rfl, below_same wF⟩
      have t0 := ev_of e0
      go_simp
    refine ⟨step_free rfl (fun aF wF hs hb => ?_), ?_⟩
    · obtain ⟨x0, -⟩ := hs
      have e0 : aF.eval (.tmp 22) = .pointer (some ⟨g, 1, none⟩) := x0
      refine opC_value (v := .pointer (some ⟨g, 1, none⟩)) ?_ ⟨rfl, below_same wF⟩
      have t0 := ev_of e0
      go_simp
    refine ⟨step_free rfl (fun aF wF hs hb => ?_), ?_⟩
    · obtain ⟨x0, -⟩ := hs
      have e0 : aF.eval (.tmp 23) = .pointer (some ⟨g, 1, none⟩) := x0
      refine opC_value (v := .pointer (some ⟨g, 2, none⟩)) ?_ ⟨rfl, below_same wF⟩
      have t0 := ev_of e0
      go_simp
    refine ⟨step_free rfl (fun aF wF hs hb => ?_), ?_⟩
    · obtain ⟨x0, -⟩ := hs
      have e0 : aF.eval (.tmp 24) = .pointer (some ⟨g, 2, none⟩) := x0
      exact opC_load e0 (LD1_3 wF hb) ⟨rfl, below_same wF⟩
    refine ⟨step_free rfl (fun aF wF hs hb => ?_), ?_⟩
    · obtain ⟨x0, -⟩ := hs
      have e0 : aF.eval (.tmp 25) = .int .i64 x.i := x0
      exact opC_call (args := #[.int .u8 ((3 : Nat) : Int), .int .i64 x.i]) (enters_of Tryz.func57 (by kernel_rfl) rfl) (by simp [e0]; try rfl) (credit_any 3 x.i (by omega) wF) (fun _ h => ⟨rfl, h⟩)
    refine ⟨step_free rfl (fun aF wF hs hb => ?_), ?_⟩
    · obtain ⟨x0, -⟩ := hs
      have e0 : aF.eval (.tmp 0) = .pointer (some ⟨g, 0, none⟩) := x0
      exact opC_move e0 ⟨rfl, below_same wF⟩
    refine ⟨step_free rfl (fun aF wF hs hb => ?_), ?_⟩
    · obtain ⟨x0, -⟩ := hs
      have e0 : aF.eval (.tmp 27) = .pointer (some ⟨g, 0, none⟩) := x0
      refine opC_value (v := .pointer (some ⟨g, 0, none⟩)) ?_ ⟨rfl, below_same wF⟩
      have t0 := ev_of e0
      go_simp
    refine ⟨step_free rfl (fun aF wF hs hb => ?_), ?_⟩
    · obtain ⟨x0, -⟩ := hs
      have e0 : aF.eval (.tmp 28) = .pointer (some ⟨g, 0, none⟩) := x0
      refine opC_value (v := .pointer (some ⟨g, 1, none⟩)) ?_ ⟨rfl, below_same wF⟩
      have t0 := ev_of e0
      go_simp
    refine ⟨step_free rfl (fun aF wF hs hb => ?_), ?_⟩
    · obtain ⟨x0, -⟩ := hs
      have e0 : aF.eval (.tmp 29) = .pointer (some ⟨g, 1, none⟩) := x0
      refine opC_value (v := .pointer (some ⟨g, 1, none⟩)) ?_ ⟨rfl, below_same wF⟩
      have t0 := ev_of e0
      go_simp
    refine ⟨step_free rfl (fun aF wF hs hb => ?_), ?_⟩
    · obtain ⟨x0, -⟩ := hs
      have e0 : aF.eval (.tmp 30) = .pointer (some ⟨g, 1, none⟩) := x0
      refine opC_value (v := .pointer (some ⟨g, 1, none⟩)) ?_ ⟨rfl, below_same wF⟩
      have t0 := ev_of e0
      go_simp
    refine ⟨step_free rfl (fun aF wF hs hb => ?_), ?_⟩
    · obtain ⟨x0, -⟩ := hs
      have e0 : aF.eval (.tmp 31) = .pointer (some ⟨g, 1, none⟩) := x0
      exact opC_load e0 (LD1_4 wF hb) ⟨rfl, below_same wF⟩
    refine ⟨step_free rfl (fun aF wF hs hb => ?_), ?_⟩
    · obtain ⟨x0, -⟩ := hs
      have e0 : aF.eval (.tmp 32) = .int .i64 x.f := x0
      exact opC_call (args := #[.int .u8 ((4 : Nat) : Int), .int .i64 x.f]) (enters_of Tryz.func57 (by kernel_rfl) rfl) (by simp [e0]; try rfl) (credit_any 4 x.f (by omega) wF) (fun _ h => ⟨rfl, h⟩)
    refine ⟨step_free rfl (fun aF wF hs hb => ?_), ?_⟩
    · obtain ⟨x0, x1, x2, x3, -⟩ := hs
      have e0 : aF.eval (.tmp 12) = .agg #[.int .u8 ((8 : Nat) : Int), .int .i64 (Z)] := x0
      have e1 : aF.eval (.tmp 19) = .agg #[.int .u8 ((2 : Nat) : Int), .int .i64 (-x.p)] := x1
      have e2 : aF.eval (.tmp 26) = .agg #[.int .u8 ((3 : Nat) : Int), .int .i64 (-x.i)] := x2
      have e3 : aF.eval (.tmp 33) = .agg #[.int .u8 ((4 : Nat) : Int), .int .i64 (-x.f)] := x3
      exact opC_leg4 e0 e1 e2 e3 hb.size
    exact trivial
  intro fv w1 hf hb1
  obtain ⟨gl, el, hgl, hbk⟩ : (legF W1.heap.size 4 #[.int .u8 ((8 : Nat) : Int), .int .i64 (Z), .int .u8 ((2 : Nat) : Int), .int .i64 (-x.p), .int .u8 ((3 : Nat) : Int), .int .i64 (-x.i), .int .u8 ((4 : Nat) : Int), .int .i64 (-x.f)]).p (fv 30) w1 := hf 30 34 rfl
  have et : fv 0 = .pointer (some ⟨g, 0, none⟩) := hf 0 4 rfl
  have es : fv 2 = .int .u32 (e.s : Int) := hf 2 6 rfl
  simp only [putF, Act.put, List.setIfInBounds_toArray, List.set_cons_zero, List.set_cons_succ]
  simp only [el, et, es]
  have T2 := Lib.hid (T1.out.below hb1)
  have B2 := Lib.hid (B1.out.trans (hb1.mono (Nat.le_trans HB.out B1.out.size)))
  have hr := Rs.blkS (T := legT) (l := [(8, Z), (2, -x.p), (3, -x.i), (4, -x.f)]) hbk (by rfl)
  refine opC_callK (args := #[.pointer (some ⟨g, 0, none⟩), .int .u8 ((7 : Nat) : Int), .int .u32 (e.s : Int), .slice (some ⟨gl, 0, none⟩) 4 4]) (enters_of Tryz.func55 (by kernel_rfl) rfl) (by simp; try exact ⟨rfl, rfl, rfl, rfl⟩) ?_
  refine (post_any _ T2.out (HS.out.below B2.out) (Nat.le_trans HB.out B2.out.size) HL.out 7 e.s _ 4 4 _ _ hr rfl (by omega) (Nat.le_refl _) ?_).mono ?_
  · intro u hu
    simp at hu
    rcases hu with rfl | rfl | rfl | rfl <;> (unfold LegIn; dsimp only; omega)
  rintro e9 w9 ⟨rfl, b9, t9⟩
  refine ⟨_, rfl, ?_⟩
  have T3 := Lib.hid t9
  have B3 := Lib.hid (B2.out.trans b9)
  clear t9 b9 hr hbk hf el et es hb1 T1 B1 T2 B2
  obtain ⟨-, c1, c2, c3, -, -, -, -, -, c9, -, -, fz⟩ := T3.out.cells
  have f1 := fz 1
  have f2 := fz 2
  have f3 := fz 3
  have f9 := fz 9
  have hfin := Lib.hid ((((T3.out.set (k := 1) (v := .int .i64 0) (y := { x.add o.n day 7 e.s [(8, Z), (2, -x.p), (3, -x.i), (4, -x.f)] with f := 0 }) rfl (fun ev en => telC_1 _ _ _ ev en _)).set (k := 2) (v := .int .i64 0) (y := { x.add o.n day 7 e.s [(8, Z), (2, -x.p), (3, -x.i), (4, -x.f)] with f := 0, i := 0 }) rfl (fun ev en => telC_2 _ _ _ ev en _)).set (k := 3) (v := .int .i64 0) (y := { x.add o.n day 7 e.s [(8, Z), (2, -x.p), (3, -x.i), (4, -x.f)] with f := 0, i := 0, p := 0 }) rfl (fun ev en => telC_3 _ _ _ ev en _)).set (k := 9) (v := .int .u8 ((3 : Nat) : Int)) (y := { x.add o.n day 7 e.s [(8, Z), (2, -x.p), (3, -x.i), (4, -x.f)] with f := 0, i := 0, p := 0, t := 3 }) rfl (fun ev en => telC_9 _ _ _ ev en _))
  have hbin := Lib.hid (B3.out.trans ((((Below.refl b0 w9).setCell T3.out.base (p := ⟨g, 1, none⟩) (.int .i64 0)).setCell T3.out.base (p := ⟨g, 2, none⟩) (.int .i64 0)).setCell T3.out.base (p := ⟨g, 3, none⟩) (.int .i64 0) |>.setCell T3.out.base (p := ⟨g, 9, none⟩) (.int .u8 ((3 : Nat) : Int))))
  clear fz T3 B3 HT HQ
  go_wp2_with fail
  go_end0
  exact ⟨rfl, hbin.out, by rw [HZ.out]; exact hfin.out⟩
end Go.Proofs.YtpbfipeinblfgaaGreatDoor
