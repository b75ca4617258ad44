/-
  yield: Right, Unit, Days. Conditions: the numbers' kinds.
-/
import Derived.Test.YtbikfplipkhhcaaWideB
import Derived.Test.YtbikfplipkhhcaaYldM
import Derived.Deep.RegionHeld3
namespace Go.Proofs.Ytbikfplipkhhcaa
open Go.RowKit

theorem b_alloc (w : World) (o : Obj) : Below w.heap.size w (w.alloc o) := (Below.refl _ w).alloc (Nat.le_refl _) o
theorem one_b {w w' : World} {o : Obj} (h : Below (w.alloc o).heap.size (w.alloc o) w') : Below w.heap.size w w' := (b_alloc w o).trans (h.mono (by simp))
/-- A rate. -/
def rv (p b : Nat) : Value := .agg #[.int .u32 (p : Int), .int .u8 (b : Int)]
def rateB (p b : Nat) : Prop := p ≤ 1000000 ∧ (b = 1 ∨ b = 2)
instance (p b : Nat) : Decidable (rateB p b) := inferInstanceAs (Decidable (_ ∧ _))

set_option maxHeartbeats 1000000 in
theorem Right_any (a : Int) (w : World) :
    Calls Try.prog 27 #[.int .i64 a] w fun e w' => e = .returned (.bool (decide (0 ≤ a ∧ a ≤ 1000000000000))) ∧ w' = w := by
  by_cases h0 : 0 ≤ a
  · by_cases h1 : a ≤ 1000000000000
    · rw [decide_eq_true ⟨h0, h1⟩]
      go_enter Try.func27, Try.ntmps27
      go_wp2
      go_ret
      exact ⟨rfl, rfl⟩
    · rw [decide_eq_false (fun h => h1 h.2)]
      go_enter Try.func27, Try.ntmps27
      go_wp2
      go_ret
      exact ⟨rfl, rfl⟩
  · rw [decide_eq_false (fun h => h0 h.1)]
    go_enter Try.func27, Try.ntmps27
    go_wp2
    go_ret
    exact ⟨rfl, rfl⟩
theorem Coin_yes {a : Int} (h0 : 0 ≤ a) (h1 : a ≤ 1000000000000) (w : World) : Calls Try.prog 27 #[.int .i64 a] w fun e w' => e = .returned (.bool true) ∧ w = w' := by
  refine (Right_any a w).mono ?_
  rintro e w' ⟨rfl, rfl⟩
  exact ⟨by rw [decide_eq_true ⟨h0, h1⟩], rfl⟩
theorem Coin_no {a : Int} (h : ¬ (0 ≤ a ∧ a ≤ 1000000000000)) (w : World) : Calls Try.prog 27 #[.int .i64 a] w fun e w' => e = .returned (.bool false) ∧ w = w' := by
  refine (Right_any a w).mono ?_
  rintro e w' ⟨rfl, rfl⟩
  exact ⟨by rw [decide_eq_false h], rfl⟩

set_option maxHeartbeats 1000000 in
theorem Year_any (b : Nat) (w : World) : Calls Try.prog 31 #[.int .u8 (b : Int)] w fun e w' => e = .returned (.int .i64 (if b = 1 then 365 else if b = 2 then 360 else 0)) ∧ w = w' := by
  by_cases h1 : b = 1
  · subst h1
    go_enter Try.func31, Try.ntmps31
    go_wp2_with fail
    go_ret
    exact ⟨rfl, rfl⟩
  · by_cases h2 : b = 2
    · subst h2
      go_enter Try.func31, Try.ntmps31
      go_wp2_with fail
      go_ret
      exact ⟨rfl, rfl⟩
    · rw [if_neg h1, if_neg h2]
      have i1 : ¬ (b : Int) = 1 := by omega
      have i2 : ¬ (b : Int) = 2 := by omega
      have j1 : ((b : Int) == 1) = false := by rw [beq_eq_false_iff_ne]; omega
      have j2 : ((b : Int) == 2) = false := by rw [beq_eq_false_iff_ne]; omega
      clear h1 h2
      go_enter Try.func31, Try.ntmps31
      go_wp2_with fail
      go_ret
      exact ⟨rfl, rfl⟩
theorem Year_bad {b : Nat} (h : ¬ (b = 1 ∨ b = 2)) (w : World) : Calls Try.prog 31 #[.int .u8 (b : Int)] w fun e w' => e = .returned (.int .i64 0) ∧ w = w' := by
  have := Year_any b w
  rwa [if_neg (fun e => h (Or.inl e)), if_neg (fun e => h (Or.inr e))] at this

set_option maxHeartbeats 2000000 in
theorem YR_yes {p b : Nat} (h : rateB p b) (w : World) : Calls Try.prog 26 #[rv p b] w (Ret (.bool true) w) := by
  obtain ⟨hp, hb⟩ := h
  have hY := fun W => Year_any b W
  unfold rv
  have i1 : (p : Int) ≤ 1000000 := by omega
  rcases hb with rfl | rfl
  · replace hY : ∀ W, Calls Try.prog 31 #[.int .u8 1] W fun e w' => e = .returned (.int .i64 365) ∧ W = w' := hY
    go_enter Try.func26, Try.ntmps26
    go_wp2_with (go_at_call 31; refine (hY _).mono ?_; rintro e w1 ⟨rfl, rfl⟩)
    go_ret
    exact ⟨rfl, b_alloc _ _⟩
  · replace hY : ∀ W, Calls Try.prog 31 #[.int .u8 2] W fun e w' => e = .returned (.int .i64 360) ∧ W = w' := hY
    go_enter Try.func26, Try.ntmps26
    go_wp2_with (go_at_call 31; refine (hY _).mono ?_; rintro e w1 ⟨rfl, rfl⟩)
    go_ret
    exact ⟨rfl, b_alloc _ _⟩
set_option maxHeartbeats 2000000 in
theorem YR_no {p b : Nat} (h : ¬ rateB p b) (w : World) : Calls Try.prog 26 #[rv p b] w (Ret (.bool false) w) := by
  unfold rv
  by_cases hp : p ≤ 1000000
  · have hY := fun W => Year_bad (b := b) (fun hb => h ⟨hp, hb⟩) W
    have i1 : (p : Int) ≤ 1000000 := by omega
    clear h
    go_enter Try.func26, Try.ntmps26
    go_wp2_with (go_at_call 31; refine (hY _).mono ?_; rintro e w1 ⟨rfl, rfl⟩)
    go_ret
    exact ⟨rfl, b_alloc _ _⟩
  · have i1 : ¬ (p : Int) ≤ 1000000 := by omega
    clear h
    go_enter Try.func26, Try.ntmps26
    go_wp2_with fail
    go_ret
    exact ⟨rfl, b_alloc _ _⟩
set_option maxHeartbeats 2000000 in
theorem unitOf_any {b : Nat} (hb : b = 1 ∨ b = 2) (w : World) : Calls Try.prog 24 #[.int .u8 (b : Int)] w (Ret (.int .u64 (unitN b : Nat)) w) := by
  have hY := fun W => Year_any b W
  rcases hb with rfl | rfl
  · replace hY : ∀ W, Calls Try.prog 31 #[.int .u8 1] W fun e w' => e = .returned (.int .i64 365) ∧ W = w' := hY
    rw [show unitN 1 = 365000000 from rfl]
    go_enter Try.func24, Try.ntmps24
    go_wp2_with (go_at_call 31; refine (hY _).mono ?_; rintro e w1 ⟨rfl, rfl⟩)
    go_ret
    exact ⟨rfl, Below.refl _ _⟩
  · replace hY : ∀ W, Calls Try.prog 31 #[.int .u8 2] W fun e w' => e = .returned (.int .i64 360) ∧ W = w' := hY
    rw [show unitN 2 = 360000000 from rfl]
    go_enter Try.func24, Try.ntmps24
    go_wp2_with (go_at_call 31; refine (hY _).mono ?_; rintro e w1 ⟨rfl, rfl⟩)
    go_ret
    exact ⟨rfl, Below.refl _ _⟩
set_option maxHeartbeats 2000000 in
theorem takes_yes {p b : Nat} {P : Int} (h : rateB p b) (h0 : 0 ≤ P) (h1 : P ≤ 1000000000000) (w : World) : Calls Try.prog 21 #[rv p b, .int .i64 P] w (Ret (.bool true) w) := by
  have hR := fun W => YR_yes h W
  have hC := fun W => Coin_yes h0 h1 W
  clear h
  unfold rv at hR ⊢
  go_enter Try.func21, Try.ntmps21
  have HQ0 := Lib.hid (Blk.new w 25 #[.int .u32 (p : Int), .int .u8 (b : Int)])
  have HB0 := Lib.hid (b_alloc w (.cells #[.int .u32 (p : Int), .int .u8 (b : Int)] 25))
  go_wp2_with fail
  refine (hR _).mono ?_
  rintro e w1 ⟨rfl, hb1⟩
  have HQ1_0 := Lib.hid (HQ0.out.below hb1 HQ0.out.lt)
  have HB1 := Lib.hid (HB0.out.trans (hb1.mono HB0.out.size))
  clear hb1
  have c1_0_0 := HQ1_0.out.cell 0
  have c1_0_1 := HQ1_0.out.cell 1
  have z1_0 := HQ1_0.out.lt
  simp at c1_0_0 c1_0_1
  go_wp2_with fail
  refine (hC _).mono ?_
  rintro e w99 ⟨rfl, rfl⟩
  go_wp2_with fail
  go_ret
  exact ⟨rfl, HB1.out⟩
set_option maxHeartbeats 2000000 in
theorem takes_rate {p b : Nat} (P : Int) (h : ¬ rateB p b) (w : World) : Calls Try.prog 21 #[rv p b, .int .i64 P] w (Ret (.bool false) w) := by
  have hR := fun W => YR_no h W
  clear h
  unfold rv at hR ⊢
  go_enter Try.func21, Try.ntmps21
  have HQ0 := Lib.hid (Blk.new w 25 #[.int .u32 (p : Int), .int .u8 (b : Int)])
  have HB0 := Lib.hid (b_alloc w (.cells #[.int .u32 (p : Int), .int .u8 (b : Int)] 25))
  go_wp2_with fail
  refine (hR _).mono ?_
  rintro e w1 ⟨rfl, hb1⟩
  have HQ1_0 := Lib.hid (HQ0.out.below hb1 HQ0.out.lt)
  have HB1 := Lib.hid (HB0.out.trans (hb1.mono HB0.out.size))
  clear hb1
  have c1_0_0 := HQ1_0.out.cell 0
  have c1_0_1 := HQ1_0.out.cell 1
  have z1_0 := HQ1_0.out.lt
  simp at c1_0_0 c1_0_1
  go_wp2_with fail
  go_ret
  exact ⟨rfl, HB1.out⟩
set_option maxHeartbeats 2000000 in
theorem takes_coin {p b : Nat} {P : Int} (h : rateB p b) (h0 : ¬ (0 ≤ P ∧ P ≤ 1000000000000)) (w : World) : Calls Try.prog 21 #[rv p b, .int .i64 P] w (Ret (.bool false) w) := by
  have hR := fun W => YR_yes h W
  have hC := fun W => Coin_no h0 W
  clear h h0
  unfold rv at hR ⊢
  go_enter Try.func21, Try.ntmps21
  have HQ0 := Lib.hid (Blk.new w 25 #[.int .u32 (p : Int), .int .u8 (b : Int)])
  have HB0 := Lib.hid (b_alloc w (.cells #[.int .u32 (p : Int), .int .u8 (b : Int)] 25))
  go_wp2_with fail
  refine (hR _).mono ?_
  rintro e w1 ⟨rfl, hb1⟩
  have HQ1_0 := Lib.hid (HQ0.out.below hb1 HQ0.out.lt)
  have HB1 := Lib.hid (HB0.out.trans (hb1.mono HB0.out.size))
  clear hb1
  have c1_0_0 := HQ1_0.out.cell 0
  have c1_0_1 := HQ1_0.out.cell 1
  have z1_0 := HQ1_0.out.lt
  simp at c1_0_0 c1_0_1
  go_wp2_with fail
  refine (hC _).mono ?_
  rintro e w99 ⟨rfl, rfl⟩
  go_wp2_with fail
  go_ret
  exact ⟨rfl, HB1.out⟩
set_option maxHeartbeats 2000000 in
theorem takes_no {p b : Nat} {P : Int} (h : ¬ (rateB p b ∧ 0 ≤ P ∧ P ≤ 1000000000000)) (w : World) : Calls Try.prog 21 #[rv p b, .int .i64 P] w (Ret (.bool false) w) := by
  by_cases hr : rateB p b
  · exact takes_coin hr (fun hc => h ⟨hr, hc⟩) w
  · exact takes_rate P hr w
set_option maxHeartbeats 2000000 in
theorem daily_any {P p X : Nat} (b : Nat) (hP : P ≤ 1000000000000) (hp : p ≤ 1000000) (hX : P * p = X) (w : World) : Calls Try.prog 23 #[rv p b, .int .i64 (P : Int)] w (Ret (.int .u64 (X : Int)) w) := by
  have hXl := pp_le hP hp
  rw [hX] at hXl
  have i1 : (P : Int) * (p : Int) = (X : Int) := by rw [← hX]; simp
  have i2 : IntKind.u64.wrap (X : Int) = (X : Int) := by rw [IntKind.wrap_u64]; omega
  have i3 : IntKind.u64.wrap (P : Int) = (P : Int) := by rw [IntKind.wrap_u64]; omega
  have i4 : IntKind.u64.wrap (p : Int) = (p : Int) := by rw [IntKind.wrap_u64]; omega
  clear hXl hX
  unfold rv
  go_enter Try.func23, Try.ntmps23
  go_wp2_with fail
  go_ret

  exact ⟨by first | rfl | rw [i1, i2], b_alloc _ _⟩
end Go.Proofs.Ytbikfplipkhhcaa
