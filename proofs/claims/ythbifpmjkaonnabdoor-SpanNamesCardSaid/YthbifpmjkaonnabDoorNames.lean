/-
  SpanNames: the walk. Conditions: the byte's kind; the months' lengths and strconv's powers of ten are laid.
-/
import Derived.Test.YthbifpmjkaonnabDoorSpanC
namespace Go.Proofs.YthbifpmjkaonnabDoor
open Go.RowKit

def nameB (b : Int) : ByteArray := if b = 1 then ⟨#[97, 99, 116, 117, 97, 108]⟩ else if b = 2 then ⟨#[116, 104, 105, 114, 116, 121]⟩ else ⟨#[]⟩
def yearB (b : Int) : Int := if b = 1 then 365 else if b = 2 then 360 else 0
def basisB (s : ByteArray) : Int := if s.toList = [97, 99, 116, 117, 97, 108] then 1 else if s.toList = [116, 104, 105, 114, 116, 121] then 2 else 0
theorem ret_int8 {a b : Int} (h : a = b) : Ending.returned (.int .u8 a) = .returned (.int .u8 b) := by rw [h]
set_option maxRecDepth 20000 in
set_option maxHeartbeats 1000000 in
theorem Basis_any (s : ByteArray) (w : World) : Calls Tryd.prog 6 #[.string s] w fun e w' => e = .returned (.int .u8 (basisB s)) ∧ w = w' := by
  go_enter Tryd.func6, Tryd.ntmps6
  go_wp2_with fail
  all_goals
    go_ret
    refine ⟨ret_int8 ?_, rfl⟩
    unfold basisB
    simp_all
set_option maxRecDepth 20000 in
set_option maxHeartbeats 1000000 in
theorem Name_any (b : Int) (w : World) : Calls Tryd.prog 7 #[.int .u8 b] w fun e w' => e = .returned (.string (nameB b)) ∧ w = w' := by
  go_enter Tryd.func7, Tryd.ntmps7
  go_wp2_with fail
  all_goals
    go_ret
    refine ⟨ret_string ?_, rfl⟩
    unfold nameB
    simp_all
set_option maxRecDepth 20000 in
set_option maxHeartbeats 1000000 in
theorem Year_any (b : Int) (w : World) : Calls Tryd.prog 9 #[.int .u8 b] w fun e w' => e = .returned (.int .i64 (yearB b)) ∧ w = w' := by
  go_enter Tryd.func9, Tryd.ntmps9
  go_wp2_with fail
  all_goals
    go_ret
    refine ⟨ret_int ?_, rfl⟩
    unfold yearB
    simp_all
theorem min_four (b : Int) (h0 : 0 ≤ b) : b = 0 ∧ min b 3 = 0 ∨ b = 1 ∧ min b 3 = 1 ∨ b = 2 ∧ min b 3 = 2 ∨ 3 ≤ b ∧ min b 3 = 3 := by omega
theorem names_at (b : Int) (h0 : 0 ≤ b) : ([Value.string { data := #[] }, Value.string { data := #[97, 99, 116, 117, 97, 108] }, Value.string { data := #[116, 104, 105, 114, 116, 121] }, Value.string { data := #[] }] : List Value)[(min b 3).toNat]? = some (.string (nameB b)) := by
  rcases min_four b h0 with ⟨rfl, h⟩ | ⟨rfl, h⟩ | ⟨rfl, h⟩ | ⟨h1, h⟩ <;> rw [h]
  · rfl
  · rfl
  · rfl
  · have : nameB b = { data := #[] } := by unfold nameB; rw [if_neg (by omega), if_neg (by omega)]
    rw [this]
    rfl
theorem years_at (b : Int) (h0 : 0 ≤ b) : ([Value.int .i64 0, Value.int .i64 365, Value.int .i64 360, Value.int .i64 0] : List Value)[(min b 3).toNat]? = some (.int .i64 (yearB b)) := by
  rcases min_four b h0 with ⟨rfl, h⟩ | ⟨rfl, h⟩ | ⟨rfl, h⟩ | ⟨h1, h⟩ <;> rw [h]
  · rfl
  · rfl
  · rfl
  · have : yearB b = 0 := by unfold yearB; rw [if_neg (by omega), if_neg (by omega)]
    rw [this]
    rfl
set_option maxRecDepth 20000 in
set_option maxHeartbeats 1000000 in
theorem RName_any (b : Int) (h0 : 0 ≤ b) (h1 : b ≤ 255) (w : World) : Calls Tryd.prog 8 #[.int .u8 b] w fun e w' => e = .returned (.string (nameB b)) ∧ Below w.heap.size w w' := by
  have hn := names_at b h0
  have hm : 0 ≤ min b 3 ∧ min b 3 ≤ 3 := by omega
  go_enter Tryd.func8, Tryd.ntmps8
  go_wp2_with fail
  go_ret
  exact ⟨rfl, below_alloc _ _⟩
theorem text_eq {s : ByteArray} {l : List UInt8} (h : s.toList = l) : s = ⟨l.toArray⟩ :=
  ByteArray.ext (Array.toList_inj.1 (by rw [← ByteArray.toList_eq]; exact h.trans (by simp)))
theorem basis_cases (s : ByteArray) : (basisB s = 0 ∧ (s.toList == [97, 99, 116, 117, 97, 108]) = false ∧ (s.toList == [116, 104, 105, 114, 116, 121]) = false) ∨ (1 ≤ basisB s ∧ basisB s ≤ 2 ∧ nameB (basisB s) = s) := by
  by_cases e1 : s.toList = [97, 99, 116, 117, 97, 108]
  · have : basisB s = 1 := by unfold basisB; rw [if_pos e1]
    rw [this]
    exact Or.inr ⟨by omega, by omega, (text_eq e1).symm⟩
  · by_cases e2 : s.toList = [116, 104, 105, 114, 116, 121]
    · have : basisB s = 2 := by unfold basisB; rw [if_neg e1, if_pos e2]
      rw [this]
      exact Or.inr ⟨by omega, by omega, (text_eq e2).symm⟩
    · have : basisB s = 0 := by unfold basisB; rw [if_neg e1, if_neg e2]
      exact Or.inl ⟨this, beq_eq_false_iff_ne.2 e1, beq_eq_false_iff_ne.2 e2⟩
set_option maxRecDepth 20000 in
set_option maxHeartbeats 2000000 in
theorem Names_any (b : Int) (h0 : 0 ≤ b) (h1 : b ≤ 255) (s : ByteArray) (w : World) (hw : Lens w) (hp : Pows w) :
    Calls Tryd.prog 3 #[.int .u8 b, .string s] w fun e w' => e = .returned (.bool true) ∧ Below w.heap.size w w' := by
  have hB := fun W => Basis_any s W
  have hN := fun W => Name_any b W
  have hN1 := fun W => Name_any (basisB s) W
  have hY := fun W => Year_any b W
  have hR := fun W => RName_any b h0 h1 W
  have hm : 0 ≤ min b 3 ∧ min b 3 ≤ 3 := by omega
  have hys := years_at b h0
  have hs := basis_cases s
  generalize basisB s = t at *
  generalize nameB b = nb at *
  generalize yearB b = yb at *
  have HW := Lib.hid hw
  have HP := Lib.hid hp
  clear hw hp
  have go : ∀ (W0 : World), True := fun _ => trivial
  clear go
  rcases hs with ⟨rfl, n1, n2⟩ | ⟨t1, t2, n1⟩
  · have n3 : (s.toList != [97, 99, 116, 117, 97, 108]) = true := by unfold bne; rw [n1]; rfl
    have n4 : (s.toList != [116, 104, 105, 114, 116, 121]) = true := by unfold bne; rw [n2]; rfl
    go_enter Tryd.func3, Tryd.ntmps3
    go_wp2_with fail
    refine (awake6 _ HW.out HP.out).mono ?_
    rintro e w1 ⟨rfl, hb1⟩
    go_wp2_with fail
    refine (hB _).mono ?_
    rintro e w2 ⟨rfl, rfl⟩
    go_wp2_with fail
    obtain ⟨W0, hw0⟩ : ∃ W, w1.alloc (.cells #[.int .i64 0, .int .i64 365, .int .i64 360, .int .i64 0] 3) = W := ⟨_, rfl⟩
    have HB0 : Hid (Below w.heap.size w W0) := Lib.hid (by rw [← hw0]; exact hb1.alloc hb1.size _)
    have hk0 : Blk W0 w1.heap.size 3 #[.int .i64 0, .int .i64 365, .int .i64 360, .int .i64 0] := by rw [← hw0]; exact Blk.new w1 _ _
    have hq : ∀ dd os, (Go.Sort.grow (redrawn W0 dd) os).cell? ⟨w1.heap.size, (min b 3).toNat, none⟩ = some (.int .i64 yb) := cell_regrown ((hk0.cell _).trans (by rw [← Array.getElem?_toList]; exact hys))
    have A1 := fun (dd : Nat) (os : Array Obj) => Calls.regrown_of (below_same (hN (Go.Sort.grow (redrawn W0 dd) os)))
    have A2 := fun (dd : Nat) (os : Array Obj) => Calls.regrown_of (hR (Go.Sort.grow (redrawn W0 dd) os))
    have A3 := fun (dd : Nat) (os : Array Obj) => Calls.regrown_of (below_same (hY (Go.Sort.grow (redrawn W0 dd) os)))
    have A4 := fun (dd : Nat) (os : Array Obj) => Calls.regrown_of (below_same (hN1 (Go.Sort.grow (redrawn W0 dd) os)))
    rw [hw0]
    clear hw0 hb1 hk0 hys hN hR hY hB hN1
    refine wp_region_quiet_below (by kernel_rfl) (by kernel_rfl) ?_
    repeat (go_big_quiet_step (fail))
    go_big_quiet_step (exact A1 _ _)
    repeat (go_big_quiet_step (first | (go_at_call 8; exact A2 _ _) | (go_at_call 9; exact A3 _ _)))
    refine wpQuiet_nil ?_
    intro w9 hw'
    have hbx : Below W0.heap.size W0 w9 := by
      obtain ⟨p, rfl⟩ := hw'
      exact below_regrown _ _ _
    clear hw' A1 A2 A3 A4 hq
    go_wp2_with fail
    go_ret
    exact ⟨by first | rfl | simp, HB0.out.trans (hbx.mono HB0.out.size)⟩
  · rw [n1] at hN1
    have t3 : (t == 0) = false := by rw [beq_eq_false_iff_ne]; omega
    have t4 : 0 < t := by omega
    go_enter Tryd.func3, Tryd.ntmps3
    go_wp2_with fail
    refine (awake6 _ HW.out HP.out).mono ?_
    rintro e w1 ⟨rfl, hb1⟩
    go_wp2_with fail
    refine (hB _).mono ?_
    rintro e w2 ⟨rfl, rfl⟩
    go_wp2_with fail
    obtain ⟨W0, hw0⟩ : ∃ W, w1.alloc (.cells #[.int .i64 0, .int .i64 365, .int .i64 360, .int .i64 0] 3) = W := ⟨_, rfl⟩
    have HB0 : Hid (Below w.heap.size w W0) := Lib.hid (by rw [← hw0]; exact hb1.alloc hb1.size _)
    have hk0 : Blk W0 w1.heap.size 3 #[.int .i64 0, .int .i64 365, .int .i64 360, .int .i64 0] := by rw [← hw0]; exact Blk.new w1 _ _
    have hq : ∀ dd os, (Go.Sort.grow (redrawn W0 dd) os).cell? ⟨w1.heap.size, (min b 3).toNat, none⟩ = some (.int .i64 yb) := cell_regrown ((hk0.cell _).trans (by rw [← Array.getElem?_toList]; exact hys))
    have A1 := fun (dd : Nat) (os : Array Obj) => Calls.regrown_of (below_same (hN (Go.Sort.grow (redrawn W0 dd) os)))
    have A2 := fun (dd : Nat) (os : Array Obj) => Calls.regrown_of (hR (Go.Sort.grow (redrawn W0 dd) os))
    have A3 := fun (dd : Nat) (os : Array Obj) => Calls.regrown_of (below_same (hY (Go.Sort.grow (redrawn W0 dd) os)))
    have A4 := fun (dd : Nat) (os : Array Obj) => Calls.regrown_of (below_same (hN1 (Go.Sort.grow (redrawn W0 dd) os)))
    rw [hw0]
    clear hw0 hb1 hk0 hys hN hR hY hB hN1
    refine wp_region_quiet_below (by kernel_rfl) (by kernel_rfl) ?_
    repeat (go_big_quiet_step (fail))
    go_big_quiet_step (exact A1 _ _)
    repeat (go_big_quiet_step (first | (go_at_call 8; exact A2 _ _) | (go_at_call 9; exact A3 _ _)))
    go_big_quiet_step (exact A4 _ _)
    repeat (go_big_quiet_step (fail))
    refine wpQuiet_nil ?_
    intro w9 hw'
    have hbx : Below W0.heap.size W0 w9 := by
      obtain ⟨p, rfl⟩ := hw'
      exact below_regrown _ _ _
    clear hw' A1 A2 A3 A4 hq
    go_wp2_with fail
    go_ret
    exact ⟨by first | rfl | simp, HB0.out.trans (hbx.mono HB0.out.size)⟩
end Go.Proofs.YthbifpmjkaonnabDoor
