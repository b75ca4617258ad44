/-
What may be agreed: terms.Right, the document's, and one as the other has it. No condition but the numbers' kinds.
-/
import Derived.Test.YtpbfipeinblfgaaGreatDoorLvlDQ9
namespace Go.Proofs.YtpbfipeinblfgaaGreatDoor
open Go.RowKit

/-- Terms as they lie. -/
structure Trm where
  K : Nat
  P : Int
  R : Nat
  B : Nat
  M : Int
  S : Int
  F : Int
  G : Int
def Trm.v (t : Trm) : Value := .agg #[.int .u8 (t.K : Int), .int .i64 t.P, .int .u32 (t.R : Int), .int .u8 (t.B : Int), .int .i64 t.M, .int .i32 t.S, .int .i64 t.F, .int .i64 t.G]
/-- As the document has them. -/
def Trm.r (t : Trm) : Value := .agg #[.int .u8 (t.K : Int), .int .i64 t.P, .int .u32 (t.R : Int), .int .u8 (t.B : Int), .int .i64 t.M, .int .i64 t.S, .int .i64 t.F, .int .i64 t.G]
structure Trm.In (t : Trm) : Prop where
  K : t.K < 256
  P : -9223372036854775808 ≤ t.P ∧ t.P ≤ 9223372036854775807
  R : t.R < 4294967296
  B : t.B < 256
  M : -9223372036854775808 ≤ t.M ∧ t.M ≤ 9223372036854775807
  S : -2147483648 ≤ t.S ∧ t.S ≤ 2147483647
  F : -9223372036854775808 ≤ t.F ∧ t.F ≤ 9223372036854775807
  G : -9223372036854775808 ≤ t.G ∧ t.G ≤ 9223372036854775807
structure Trm.Right (t : Trm) : Prop where
  K : t.K = 1 ∨ t.K = 2
  R : rateB t.R t.B
  P : 1 ≤ t.P ∧ t.P ≤ 1000000000000
  M : 1 ≤ t.M ∧ t.M ≤ 480
  S : 0 ≤ t.S ∧ t.S ≤ 3600000
  F : 0 ≤ t.F ∧ t.F ≤ 1000000000
  G : 0 ≤ t.G ∧ t.G ≤ 60
theorem BtwC_any (a n b : Int) (w : World) : Calls Tryz.prog 88 #[.int .i64 a, .int .i64 n, .int .i64 b] w fun e w' => e = .returned (.bool (decide (a ≤ n ∧ n ≤ b))) ∧ w' = w := by
  by_cases h0 : a ≤ n
  · by_cases h1 : n ≤ b
    · rw [decide_eq_true ⟨h0, h1⟩]
      go_enter Tryz.func88, Tryz.ntmps88
      go_wp2
      go_ret
      exact ⟨rfl, rfl⟩
    · rw [decide_eq_false (fun h => h1 h.2)]
      go_enter Tryz.func88, Tryz.ntmps88
      go_wp2
      go_ret
      exact ⟨rfl, rfl⟩
  · rw [decide_eq_false (fun h => h0 h.1)]
    go_enter Tryz.func88, Tryz.ntmps88
    go_wp2
    go_ret
    exact ⟨rfl, rfl⟩
theorem BtwI_any (a n b : Int) (w : World) : Calls Tryz.prog 89 #[.int .i64 a, .int .i64 n, .int .i64 b] w fun e w' => e = .returned (.bool (decide (a ≤ n ∧ n ≤ b))) ∧ w' = w := by
  by_cases h0 : a ≤ n
  · by_cases h1 : n ≤ b
    · rw [decide_eq_true ⟨h0, h1⟩]
      go_enter Tryz.func89, Tryz.ntmps89
      go_wp2
      go_ret
      exact ⟨rfl, rfl⟩
    · rw [decide_eq_false (fun h => h1 h.2)]
      go_enter Tryz.func89, Tryz.ntmps89
      go_wp2
      go_ret
      exact ⟨rfl, rfl⟩
  · rw [decide_eq_false (fun h => h0 h.1)]
    go_enter Tryz.func89, Tryz.ntmps89
    go_wp2
    go_ret
    exact ⟨rfl, rfl⟩
theorem BtwD_any (a n b : Int) (w : World) : Calls Tryz.prog 90 #[.int .i32 a, .int .i32 n, .int .i32 b] w fun e w' => e = .returned (.bool (decide (a ≤ n ∧ n ≤ b))) ∧ w' = w := by
  by_cases h0 : a ≤ n
  · by_cases h1 : n ≤ b
    · rw [decide_eq_true ⟨h0, h1⟩]
      go_enter Tryz.func90, Tryz.ntmps90
      go_wp2
      go_ret
      exact ⟨rfl, rfl⟩
    · rw [decide_eq_false (fun h => h1 h.2)]
      go_enter Tryz.func90, Tryz.ntmps90
      go_wp2
      go_ret
      exact ⟨rfl, rfl⟩
  · rw [decide_eq_false (fun h => h0 h.1)]
    go_enter Tryz.func90, Tryz.ntmps90
    go_wp2
    go_ret
    exact ⟨rfl, rfl⟩
theorem Within_any (a n b : Int) (w : World) : Calls Tryz.prog 21 #[.int .i64 n, .int .i64 a, .int .i64 b] w fun e w' => e = .returned (.bool (decide (a ≤ n ∧ n ≤ b))) ∧ w' = w := by
  by_cases h0 : a ≤ n
  · by_cases h1 : n ≤ b
    · rw [decide_eq_true ⟨h0, h1⟩]
      go_enter Tryz.func21, Tryz.ntmps21
      go_wp2
      go_ret
      exact ⟨rfl, rfl⟩
    · rw [decide_eq_false (fun h => h1 h.2)]
      go_enter Tryz.func21, Tryz.ntmps21
      go_wp2
      go_ret
      exact ⟨rfl, rfl⟩
  · rw [decide_eq_false (fun h => h0 h.1)]
    go_enter Tryz.func21, Tryz.ntmps21
    go_wp2
    go_ret
    exact ⟨rfl, rfl⟩
theorem name_yes {K : Nat} (h : K = 1 ∨ K = 2) : (nameB K).toList.isEmpty = false := by
  rcases h with rfl | rfl <;> kernel_rfl
theorem name_no {K : Nat} (h : ¬ (K = 1 ∨ K = 2)) : (nameB K).toList.isEmpty = true := by
  unfold nameB
  rw [if_neg (fun e => h (.inl e)), if_neg (fun e => h (.inr e))]
  kernel_rfl
set_option maxRecDepth 20000 in
set_option maxHeartbeats 4000000 in
theorem TRight_0 {K R B : Nat} {P M S F G : Int} (h0 : ¬ (K = 1 ∨ K = 2)) (w : World) : Calls Tryz.prog 46 #[.agg #[.int .u8 (K : Int), .int .i64 P, .int .u32 (R : Int), .int .u8 (B : Int), .int .i64 M, .int .i32 S, .int .i64 F, .int .i64 G]] w (Ret (.bool false) w) := by
  have hbx := Blk.new w 28 #[.int .u8 (K : Int), .int .i64 P, .int .u32 (R : Int), .int .u8 (B : Int), .int .i64 M, .int .i32 S, .int .i64 F, .int .i64 G]
  have hbl := (Below.refl _ w).alloc (Nat.le_refl _) (.cells #[.int .u8 (K : Int), .int .i64 P, .int .u32 (R : Int), .int .u8 (B : Int), .int .i64 M, .int .i32 S, .int .i64 F, .int .i64 G] 28)
  go_enter Tryz.func46, Tryz.ntmps46
  go_wp2_with fail
  refine (Name_any K _).mono ?_
  rintro e w1 ⟨rfl, rfl⟩
  have hne : (nameB K).toList.isEmpty = true := name_no h0
  obtain ⟨s0, hs0⟩ : ∃ s, nameB K = s := ⟨_, rfl⟩
  rw [hs0] at hne ⊢
  clear hs0
  go_wp2_with fail
  go_ret
  exact ⟨rfl, hbl⟩
set_option maxRecDepth 20000 in
set_option maxHeartbeats 4000000 in
theorem TRight_1 {K R B : Nat} {P M S F G : Int} (h0 : K = 1 ∨ K = 2) (h1 : ¬ (rateB R B)) (w : World) : Calls Tryz.prog 46 #[.agg #[.int .u8 (K : Int), .int .i64 P, .int .u32 (R : Int), .int .u8 (B : Int), .int .i64 M, .int .i32 S, .int .i64 F, .int .i64 G]] w (Ret (.bool false) w) := by
  have hbx := Blk.new w 28 #[.int .u8 (K : Int), .int .i64 P, .int .u32 (R : Int), .int .u8 (B : Int), .int .i64 M, .int .i32 S, .int .i64 F, .int .i64 G]
  have hbl := (Below.refl _ w).alloc (Nat.le_refl _) (.cells #[.int .u8 (K : Int), .int .i64 P, .int .u32 (R : Int), .int .u8 (B : Int), .int .i64 M, .int .i32 S, .int .i64 F, .int .i64 G] 28)
  go_enter Tryz.func46, Tryz.ntmps46
  go_wp2_with fail
  refine (Name_any K _).mono ?_
  rintro e w1 ⟨rfl, rfl⟩
  have hne : (nameB K).toList.isEmpty = false := name_yes h0
  obtain ⟨s0, hs0⟩ : ∃ s, nameB K = s := ⟨_, rfl⟩
  rw [hs0] at hne ⊢
  clear hs0
  go_wp2_with fail
  refine (YR_no h1 _).mono ?_
  rintro e w2 ⟨rfl, hb2⟩
  have HBX := Lib.hid (hbx.below hb2 hbx.lt)
  have HB := Lib.hid (hbl.trans (hb2.mono hbl.size))
  clear hb2 hbx hbl
  have hbx := HBX.out
  have c1 := hbx.cell 1
  have c4 := hbx.cell 4
  have c5 := hbx.cell 5
  have c6 := hbx.cell 6
  have c7 := hbx.cell 7
  simp at c1 c4 c5 c6 c7
  go_wp2_with fail
  go_ret
  exact ⟨rfl, HB.out⟩
set_option maxRecDepth 20000 in
set_option maxHeartbeats 4000000 in
theorem TRight_2 {K R B : Nat} {P M S F G : Int} (h0 : K = 1 ∨ K = 2) (h1 : rateB R B) (h2 : ¬ (1 ≤ P ∧ P ≤ 1000000000000)) (w : World) : Calls Tryz.prog 46 #[.agg #[.int .u8 (K : Int), .int .i64 P, .int .u32 (R : Int), .int .u8 (B : Int), .int .i64 M, .int .i32 S, .int .i64 F, .int .i64 G]] w (Ret (.bool false) w) := by
  have hbx := Blk.new w 28 #[.int .u8 (K : Int), .int .i64 P, .int .u32 (R : Int), .int .u8 (B : Int), .int .i64 M, .int .i32 S, .int .i64 F, .int .i64 G]
  have hbl := (Below.refl _ w).alloc (Nat.le_refl _) (.cells #[.int .u8 (K : Int), .int .i64 P, .int .u32 (R : Int), .int .u8 (B : Int), .int .i64 M, .int .i32 S, .int .i64 F, .int .i64 G] 28)
  go_enter Tryz.func46, Tryz.ntmps46
  go_wp2_with fail
  refine (Name_any K _).mono ?_
  rintro e w1 ⟨rfl, rfl⟩
  have hne : (nameB K).toList.isEmpty = false := name_yes h0
  obtain ⟨s0, hs0⟩ : ∃ s, nameB K = s := ⟨_, rfl⟩
  rw [hs0] at hne ⊢
  clear hs0
  go_wp2_with fail
  refine (YR_yes h1 _).mono ?_
  rintro e w2 ⟨rfl, hb2⟩
  have HBX := Lib.hid (hbx.below hb2 hbx.lt)
  have HB := Lib.hid (hbl.trans (hb2.mono hbl.size))
  clear hb2 hbx hbl
  have hbx := HBX.out
  have c1 := hbx.cell 1
  have c4 := hbx.cell 4
  have c5 := hbx.cell 5
  have c6 := hbx.cell 6
  have c7 := hbx.cell 7
  simp at c1 c4 c5 c6 c7
  go_wp2_with fail
  refine (BtwC_any 1 P 1000000000000 _).mono ?_
  rintro e w9 ⟨rfl, rfl⟩
  rw [decide_eq_false h2]
  go_wp2_with fail
  go_ret
  exact ⟨rfl, HB.out⟩
set_option maxRecDepth 20000 in
set_option maxHeartbeats 4000000 in
theorem TRight_3 {K R B : Nat} {P M S F G : Int} (h0 : K = 1 ∨ K = 2) (h1 : rateB R B) (h2 : 1 ≤ P ∧ P ≤ 1000000000000) (h3 : ¬ (1 ≤ M ∧ M ≤ 480)) (w : World) : Calls Tryz.prog 46 #[.agg #[.int .u8 (K : Int), .int .i64 P, .int .u32 (R : Int), .int .u8 (B : Int), .int .i64 M, .int .i32 S, .int .i64 F, .int .i64 G]] w (Ret (.bool false) w) := by
  have hbx := Blk.new w 28 #[.int .u8 (K : Int), .int .i64 P, .int .u32 (R : Int), .int .u8 (B : Int), .int .i64 M, .int .i32 S, .int .i64 F, .int .i64 G]
  have hbl := (Below.refl _ w).alloc (Nat.le_refl _) (.cells #[.int .u8 (K : Int), .int .i64 P, .int .u32 (R : Int), .int .u8 (B : Int), .int .i64 M, .int .i32 S, .int .i64 F, .int .i64 G] 28)
  go_enter Tryz.func46, Tryz.ntmps46
  go_wp2_with fail
  refine (Name_any K _).mono ?_
  rintro e w1 ⟨rfl, rfl⟩
  have hne : (nameB K).toList.isEmpty = false := name_yes h0
  obtain ⟨s0, hs0⟩ : ∃ s, nameB K = s := ⟨_, rfl⟩
  rw [hs0] at hne ⊢
  clear hs0
  go_wp2_with fail
  refine (YR_yes h1 _).mono ?_
  rintro e w2 ⟨rfl, hb2⟩
  have HBX := Lib.hid (hbx.below hb2 hbx.lt)
  have HB := Lib.hid (hbl.trans (hb2.mono hbl.size))
  clear hb2 hbx hbl
  have hbx := HBX.out
  have c1 := hbx.cell 1
  have c4 := hbx.cell 4
  have c5 := hbx.cell 5
  have c6 := hbx.cell 6
  have c7 := hbx.cell 7
  simp at c1 c4 c5 c6 c7
  go_wp2_with fail
  refine (BtwC_any 1 P 1000000000000 _).mono ?_
  rintro e w9 ⟨rfl, rfl⟩
  rw [decide_eq_true h2]
  go_wp2_with fail
  refine (BtwI_any 1 M 480 _).mono ?_
  rintro e w9 ⟨rfl, rfl⟩
  rw [decide_eq_false h3]
  go_wp2_with fail
  go_ret
  exact ⟨rfl, HB.out⟩
set_option maxRecDepth 20000 in
set_option maxHeartbeats 4000000 in
theorem TRight_4 {K R B : Nat} {P M S F G : Int} (h0 : K = 1 ∨ K = 2) (h1 : rateB R B) (h2 : 1 ≤ P ∧ P ≤ 1000000000000) (h3 : 1 ≤ M ∧ M ≤ 480) (h4 : ¬ (0 ≤ S ∧ S ≤ 3600000)) (w : World) : Calls Tryz.prog 46 #[.agg #[.int .u8 (K : Int), .int .i64 P, .int .u32 (R : Int), .int .u8 (B : Int), .int .i64 M, .int .i32 S, .int .i64 F, .int .i64 G]] w (Ret (.bool false) w) := by
  have hbx := Blk.new w 28 #[.int .u8 (K : Int), .int .i64 P, .int .u32 (R : Int), .int .u8 (B : Int), .int .i64 M, .int .i32 S, .int .i64 F, .int .i64 G]
  have hbl := (Below.refl _ w).alloc (Nat.le_refl _) (.cells #[.int .u8 (K : Int), .int .i64 P, .int .u32 (R : Int), .int .u8 (B : Int), .int .i64 M, .int .i32 S, .int .i64 F, .int .i64 G] 28)
  go_enter Tryz.func46, Tryz.ntmps46
  go_wp2_with fail
  refine (Name_any K _).mono ?_
  rintro e w1 ⟨rfl, rfl⟩
  have hne : (nameB K).toList.isEmpty = false := name_yes h0
  obtain ⟨s0, hs0⟩ : ∃ s, nameB K = s := ⟨_, rfl⟩
  rw [hs0] at hne ⊢
  clear hs0
  go_wp2_with fail
  refine (YR_yes h1 _).mono ?_
  rintro e w2 ⟨rfl, hb2⟩
  have HBX := Lib.hid (hbx.below hb2 hbx.lt)
  have HB := Lib.hid (hbl.trans (hb2.mono hbl.size))
  clear hb2 hbx hbl
  have hbx := HBX.out
  have c1 := hbx.cell 1
  have c4 := hbx.cell 4
  have c5 := hbx.cell 5
  have c6 := hbx.cell 6
  have c7 := hbx.cell 7
  simp at c1 c4 c5 c6 c7
  go_wp2_with fail
  refine (BtwC_any 1 P 1000000000000 _).mono ?_
  rintro e w9 ⟨rfl, rfl⟩
  rw [decide_eq_true h2]
  go_wp2_with fail
  refine (BtwI_any 1 M 480 _).mono ?_
  rintro e w9 ⟨rfl, rfl⟩
  rw [decide_eq_true h3]
  go_wp2_with fail
  refine (BtwD_any 0 S 3600000 _).mono ?_
  rintro e w9 ⟨rfl, rfl⟩
  rw [decide_eq_false h4]
  go_wp2_with fail
  go_ret
  exact ⟨rfl, HB.out⟩
set_option maxRecDepth 20000 in
set_option maxHeartbeats 4000000 in
theorem TRight_5 {K R B : Nat} {P M S F G : Int} (h0 : K = 1 ∨ K = 2) (h1 : rateB R B) (h2 : 1 ≤ P ∧ P ≤ 1000000000000) (h3 : 1 ≤ M ∧ M ≤ 480) (h4 : 0 ≤ S ∧ S ≤ 3600000) (h5 : ¬ (0 ≤ F ∧ F ≤ 1000000000)) (w : World) : Calls Tryz.prog 46 #[.agg #[.int .u8 (K : Int), .int .i64 P, .int .u32 (R : Int), .int .u8 (B : Int), .int .i64 M, .int .i32 S, .int .i64 F, .int .i64 G]] w (Ret (.bool false) w) := by
  have hbx := Blk.new w 28 #[.int .u8 (K : Int), .int .i64 P, .int .u32 (R : Int), .int .u8 (B : Int), .int .i64 M, .int .i32 S, .int .i64 F, .int .i64 G]
  have hbl := (Below.refl _ w).alloc (Nat.le_refl _) (.cells #[.int .u8 (K : Int), .int .i64 P, .int .u32 (R : Int), .int .u8 (B : Int), .int .i64 M, .int .i32 S, .int .i64 F, .int .i64 G] 28)
  go_enter Tryz.func46, Tryz.ntmps46
  go_wp2_with fail
  refine (Name_any K _).mono ?_
  rintro e w1 ⟨rfl, rfl⟩
  have hne : (nameB K).toList.isEmpty = false := name_yes h0
  obtain ⟨s0, hs0⟩ : ∃ s, nameB K = s := ⟨_, rfl⟩
  rw [hs0] at hne ⊢
  clear hs0
  go_wp2_with fail
  refine (YR_yes h1 _).mono ?_
  rintro e w2 ⟨rfl, hb2⟩
  have HBX := Lib.hid (hbx.below hb2 hbx.lt)
  have HB := Lib.hid (hbl.trans (hb2.mono hbl.size))
  clear hb2 hbx hbl
  have hbx := HBX.out
  have c1 := hbx.cell 1
  have c4 := hbx.cell 4
  have c5 := hbx.cell 5
  have c6 := hbx.cell 6
  have c7 := hbx.cell 7
  simp at c1 c4 c5 c6 c7
  go_wp2_with fail
  refine (BtwC_any 1 P 1000000000000 _).mono ?_
  rintro e w9 ⟨rfl, rfl⟩
  rw [decide_eq_true h2]
  go_wp2_with fail
  refine (BtwI_any 1 M 480 _).mono ?_
  rintro e w9 ⟨rfl, rfl⟩
  rw [decide_eq_true h3]
  go_wp2_with fail
  refine (BtwD_any 0 S 3600000 _).mono ?_
  rintro e w9 ⟨rfl, rfl⟩
  rw [decide_eq_true h4]
  go_wp2_with fail
  refine (BtwC_any 0 F 1000000000 _).mono ?_
  rintro e w9 ⟨rfl, rfl⟩
  rw [decide_eq_false h5]
  go_wp2_with fail
  go_ret
  exact ⟨rfl, HB.out⟩
set_option maxRecDepth 20000 in
set_option maxHeartbeats 4000000 in
theorem TRight_6 {K R B : Nat} {P M S F G : Int} (h0 : K = 1 ∨ K = 2) (h1 : rateB R B) (h2 : 1 ≤ P ∧ P ≤ 1000000000000) (h3 : 1 ≤ M ∧ M ≤ 480) (h4 : 0 ≤ S ∧ S ≤ 3600000) (h5 : 0 ≤ F ∧ F ≤ 1000000000) (h6 : ¬ (0 ≤ G ∧ G ≤ 60)) (w : World) : Calls Tryz.prog 46 #[.agg #[.int .u8 (K : Int), .int .i64 P, .int .u32 (R : Int), .int .u8 (B : Int), .int .i64 M, .int .i32 S, .int .i64 F, .int .i64 G]] w (Ret (.bool false) w) := by
  have hbx := Blk.new w 28 #[.int .u8 (K : Int), .int .i64 P, .int .u32 (R : Int), .int .u8 (B : Int), .int .i64 M, .int .i32 S, .int .i64 F, .int .i64 G]
  have hbl := (Below.refl _ w).alloc (Nat.le_refl _) (.cells #[.int .u8 (K : Int), .int .i64 P, .int .u32 (R : Int), .int .u8 (B : Int), .int .i64 M, .int .i32 S, .int .i64 F, .int .i64 G] 28)
  go_enter Tryz.func46, Tryz.ntmps46
  go_wp2_with fail
  refine (Name_any K _).mono ?_
  rintro e w1 ⟨rfl, rfl⟩
  have hne : (nameB K).toList.isEmpty = false := name_yes h0
  obtain ⟨s0, hs0⟩ : ∃ s, nameB K = s := ⟨_, rfl⟩
  rw [hs0] at hne ⊢
  clear hs0
  go_wp2_with fail
  refine (YR_yes h1 _).mono ?_
  rintro e w2 ⟨rfl, hb2⟩
  have HBX := Lib.hid (hbx.below hb2 hbx.lt)
  have HB := Lib.hid (hbl.trans (hb2.mono hbl.size))
  clear hb2 hbx hbl
  have hbx := HBX.out
  have c1 := hbx.cell 1
  have c4 := hbx.cell 4
  have c5 := hbx.cell 5
  have c6 := hbx.cell 6
  have c7 := hbx.cell 7
  simp at c1 c4 c5 c6 c7
  go_wp2_with fail
  refine (BtwC_any 1 P 1000000000000 _).mono ?_
  rintro e w9 ⟨rfl, rfl⟩
  rw [decide_eq_true h2]
  go_wp2_with fail
  refine (BtwI_any 1 M 480 _).mono ?_
  rintro e w9 ⟨rfl, rfl⟩
  rw [decide_eq_true h3]
  go_wp2_with fail
  refine (BtwD_any 0 S 3600000 _).mono ?_
  rintro e w9 ⟨rfl, rfl⟩
  rw [decide_eq_true h4]
  go_wp2_with fail
  refine (BtwC_any 0 F 1000000000 _).mono ?_
  rintro e w9 ⟨rfl, rfl⟩
  rw [decide_eq_true h5]
  go_wp2_with fail
  refine (BtwI_any 0 G 60 _).mono ?_
  rintro e w9 ⟨rfl, rfl⟩
  rw [decide_eq_false h6]
  go_wp2_with fail
  go_ret
  exact ⟨rfl, HB.out⟩
set_option maxRecDepth 20000 in
set_option maxHeartbeats 4000000 in
theorem TRight_yes {K R B : Nat} {P M S F G : Int} (h0 : K = 1 ∨ K = 2) (h1 : rateB R B) (h2 : 1 ≤ P ∧ P ≤ 1000000000000) (h3 : 1 ≤ M ∧ M ≤ 480) (h4 : 0 ≤ S ∧ S ≤ 3600000) (h5 : 0 ≤ F ∧ F ≤ 1000000000) (h6 : 0 ≤ G ∧ G ≤ 60) (w : World) : Calls Tryz.prog 46 #[.agg #[.int .u8 (K : Int), .int .i64 P, .int .u32 (R : Int), .int .u8 (B : Int), .int .i64 M, .int .i32 S, .int .i64 F, .int .i64 G]] w (Ret (.bool true) w) := by
  have hbx := Blk.new w 28 #[.int .u8 (K : Int), .int .i64 P, .int .u32 (R : Int), .int .u8 (B : Int), .int .i64 M, .int .i32 S, .int .i64 F, .int .i64 G]
  have hbl := (Below.refl _ w).alloc (Nat.le_refl _) (.cells #[.int .u8 (K : Int), .int .i64 P, .int .u32 (R : Int), .int .u8 (B : Int), .int .i64 M, .int .i32 S, .int .i64 F, .int .i64 G] 28)
  go_enter Tryz.func46, Tryz.ntmps46
  go_wp2_with fail
  refine (Name_any K _).mono ?_
  rintro e w1 ⟨rfl, rfl⟩
  have hne : (nameB K).toList.isEmpty = false := name_yes h0
  obtain ⟨s0, hs0⟩ : ∃ s, nameB K = s := ⟨_, rfl⟩
  rw [hs0] at hne ⊢
  clear hs0
  go_wp2_with fail
  refine (YR_yes h1 _).mono ?_
  rintro e w2 ⟨rfl, hb2⟩
  have HBX := Lib.hid (hbx.below hb2 hbx.lt)
  have HB := Lib.hid (hbl.trans (hb2.mono hbl.size))
  clear hb2 hbx hbl
  have hbx := HBX.out
  have c1 := hbx.cell 1
  have c4 := hbx.cell 4
  have c5 := hbx.cell 5
  have c6 := hbx.cell 6
  have c7 := hbx.cell 7
  simp at c1 c4 c5 c6 c7
  go_wp2_with fail
  refine (BtwC_any 1 P 1000000000000 _).mono ?_
  rintro e w9 ⟨rfl, rfl⟩
  rw [decide_eq_true h2]
  go_wp2_with fail
  refine (BtwI_any 1 M 480 _).mono ?_
  rintro e w9 ⟨rfl, rfl⟩
  rw [decide_eq_true h3]
  go_wp2_with fail
  refine (BtwD_any 0 S 3600000 _).mono ?_
  rintro e w9 ⟨rfl, rfl⟩
  rw [decide_eq_true h4]
  go_wp2_with fail
  refine (BtwC_any 0 F 1000000000 _).mono ?_
  rintro e w9 ⟨rfl, rfl⟩
  rw [decide_eq_true h5]
  go_wp2_with fail
  refine (BtwI_any 0 G 60 _).mono ?_
  rintro e w9 ⟨rfl, rfl⟩
  rw [decide_eq_true h6]
  go_wp2_with fail
  go_ret
  exact ⟨rfl, HB.out⟩
set_option maxRecDepth 20000 in
set_option maxHeartbeats 4000000 in
theorem QRight_0 {K R B : Nat} {P M S F G : Int} (hK : K < 256) (_ : B < 256) (h0 : ¬ (1 ≤ (K : Int) ∧ (K : Int) ≤ 2)) (w : World) : Calls Tryz.prog 7 #[.agg #[.int .u8 (K : Int), .int .i64 P, .int .u32 (R : Int), .int .u8 (B : Int), .int .i64 M, .int .i64 S, .int .i64 F, .int .i64 G]] w (Ret (.bool false) w) := by
  have hbl := (Below.refl _ w).alloc (Nat.le_refl _) (.cells #[.int .u8 (K : Int), .int .i64 P, .int .u32 (R : Int), .int .u8 (B : Int), .int .i64 M, .int .i64 S, .int .i64 F, .int .i64 G] 35)
  go_enter Tryz.func7, Tryz.ntmps7
  go_wp2_with fail
  refine (Within_any 1 (K : Int) 2 _).mono ?_
  rintro e w9 ⟨rfl, rfl⟩
  rw [decide_eq_false h0]
  go_wp2_with fail
  go_ret
  exact ⟨rfl, hbl⟩
set_option maxRecDepth 20000 in
set_option maxHeartbeats 4000000 in
theorem QRight_1 {K R B : Nat} {P M S F G : Int} (hK : K < 256) (_ : B < 256) (h0 : 1 ≤ (K : Int) ∧ (K : Int) ≤ 2) (h1 : ¬ (1 ≤ P ∧ P ≤ 1000000000000)) (w : World) : Calls Tryz.prog 7 #[.agg #[.int .u8 (K : Int), .int .i64 P, .int .u32 (R : Int), .int .u8 (B : Int), .int .i64 M, .int .i64 S, .int .i64 F, .int .i64 G]] w (Ret (.bool false) w) := by
  have hbl := (Below.refl _ w).alloc (Nat.le_refl _) (.cells #[.int .u8 (K : Int), .int .i64 P, .int .u32 (R : Int), .int .u8 (B : Int), .int .i64 M, .int .i64 S, .int .i64 F, .int .i64 G] 35)
  go_enter Tryz.func7, Tryz.ntmps7
  go_wp2_with fail
  refine (Within_any 1 (K : Int) 2 _).mono ?_
  rintro e w9 ⟨rfl, rfl⟩
  rw [decide_eq_true h0]
  go_wp2_with fail
  refine (Within_any 1 P 1000000000000 _).mono ?_
  rintro e w9 ⟨rfl, rfl⟩
  rw [decide_eq_false h1]
  go_wp2_with fail
  go_ret
  exact ⟨rfl, hbl⟩
set_option maxRecDepth 20000 in
set_option maxHeartbeats 4000000 in
theorem QRight_2 {K R B : Nat} {P M S F G : Int} (hK : K < 256) (_ : B < 256) (h0 : 1 ≤ (K : Int) ∧ (K : Int) ≤ 2) (h1 : 1 ≤ P ∧ P ≤ 1000000000000) (h2 : ¬ ((R : Int) ≤ 1000000)) (w : World) : Calls Tryz.prog 7 #[.agg #[.int .u8 (K : Int), .int .i64 P, .int .u32 (R : Int), .int .u8 (B : Int), .int .i64 M, .int .i64 S, .int .i64 F, .int .i64 G]] w (Ret (.bool false) w) := by
  have hbl := (Below.refl _ w).alloc (Nat.le_refl _) (.cells #[.int .u8 (K : Int), .int .i64 P, .int .u32 (R : Int), .int .u8 (B : Int), .int .i64 M, .int .i64 S, .int .i64 F, .int .i64 G] 35)
  go_enter Tryz.func7, Tryz.ntmps7
  go_wp2_with fail
  refine (Within_any 1 (K : Int) 2 _).mono ?_
  rintro e w9 ⟨rfl, rfl⟩
  rw [decide_eq_true h0]
  go_wp2_with fail
  refine (Within_any 1 P 1000000000000 _).mono ?_
  rintro e w9 ⟨rfl, rfl⟩
  rw [decide_eq_true h1]
  go_wp2_with fail
  go_ret
  exact ⟨rfl, hbl⟩
set_option maxRecDepth 20000 in
set_option maxHeartbeats 4000000 in
theorem QRight_3 {K R B : Nat} {P M S F G : Int} (hK : K < 256) (hB : B < 256) (h0 : 1 ≤ (K : Int) ∧ (K : Int) ≤ 2) (h1 : 1 ≤ P ∧ P ≤ 1000000000000) (h2 : (R : Int) ≤ 1000000) (h3 : ¬ (1 ≤ (B : Int) ∧ (B : Int) ≤ 2)) (w : World) : Calls Tryz.prog 7 #[.agg #[.int .u8 (K : Int), .int .i64 P, .int .u32 (R : Int), .int .u8 (B : Int), .int .i64 M, .int .i64 S, .int .i64 F, .int .i64 G]] w (Ret (.bool false) w) := by
  have hbl := (Below.refl _ w).alloc (Nat.le_refl _) (.cells #[.int .u8 (K : Int), .int .i64 P, .int .u32 (R : Int), .int .u8 (B : Int), .int .i64 M, .int .i64 S, .int .i64 F, .int .i64 G] 35)
  go_enter Tryz.func7, Tryz.ntmps7
  go_wp2_with fail
  refine (Within_any 1 (K : Int) 2 _).mono ?_
  rintro e w9 ⟨rfl, rfl⟩
  rw [decide_eq_true h0]
  go_wp2_with fail
  refine (Within_any 1 P 1000000000000 _).mono ?_
  rintro e w9 ⟨rfl, rfl⟩
  rw [decide_eq_true h1]
  go_wp2_with fail
  refine (Within_any 1 (B : Int) 2 _).mono ?_
  rintro e w9 ⟨rfl, rfl⟩
  rw [decide_eq_false h3]
  go_wp2_with fail
  go_ret
  exact ⟨rfl, hbl⟩
set_option maxRecDepth 20000 in
set_option maxHeartbeats 4000000 in
theorem QRight_4 {K R B : Nat} {P M S F G : Int} (hK : K < 256) (hB : B < 256) (h0 : 1 ≤ (K : Int) ∧ (K : Int) ≤ 2) (h1 : 1 ≤ P ∧ P ≤ 1000000000000) (h2 : (R : Int) ≤ 1000000) (h3 : 1 ≤ (B : Int) ∧ (B : Int) ≤ 2) (h4 : ¬ (1 ≤ M ∧ M ≤ 480)) (w : World) : Calls Tryz.prog 7 #[.agg #[.int .u8 (K : Int), .int .i64 P, .int .u32 (R : Int), .int .u8 (B : Int), .int .i64 M, .int .i64 S, .int .i64 F, .int .i64 G]] w (Ret (.bool false) w) := by
  have hbl := (Below.refl _ w).alloc (Nat.le_refl _) (.cells #[.int .u8 (K : Int), .int .i64 P, .int .u32 (R : Int), .int .u8 (B : Int), .int .i64 M, .int .i64 S, .int .i64 F, .int .i64 G] 35)
  go_enter Tryz.func7, Tryz.ntmps7
  go_wp2_with fail
  refine (Within_any 1 (K : Int) 2 _).mono ?_
  rintro e w9 ⟨rfl, rfl⟩
  rw [decide_eq_true h0]
  go_wp2_with fail
  refine (Within_any 1 P 1000000000000 _).mono ?_
  rintro e w9 ⟨rfl, rfl⟩
  rw [decide_eq_true h1]
  go_wp2_with fail
  refine (Within_any 1 (B : Int) 2 _).mono ?_
  rintro e w9 ⟨rfl, rfl⟩
  rw [decide_eq_true h3]
  go_wp2_with fail
  refine (Within_any 1 M 480 _).mono ?_
  rintro e w9 ⟨rfl, rfl⟩
  rw [decide_eq_false h4]
  go_wp2_with fail
  go_ret
  exact ⟨rfl, hbl⟩
set_option maxRecDepth 20000 in
set_option maxHeartbeats 4000000 in
theorem QRight_5 {K R B : Nat} {P M S F G : Int} (hK : K < 256) (hB : B < 256) (h0 : 1 ≤ (K : Int) ∧ (K : Int) ≤ 2) (h1 : 1 ≤ P ∧ P ≤ 1000000000000) (h2 : (R : Int) ≤ 1000000) (h3 : 1 ≤ (B : Int) ∧ (B : Int) ≤ 2) (h4 : 1 ≤ M ∧ M ≤ 480) (h5 : ¬ (0 ≤ S ∧ S ≤ 3600000)) (w : World) : Calls Tryz.prog 7 #[.agg #[.int .u8 (K : Int), .int .i64 P, .int .u32 (R : Int), .int .u8 (B : Int), .int .i64 M, .int .i64 S, .int .i64 F, .int .i64 G]] w (Ret (.bool false) w) := by
  have hbl := (Below.refl _ w).alloc (Nat.le_refl _) (.cells #[.int .u8 (K : Int), .int .i64 P, .int .u32 (R : Int), .int .u8 (B : Int), .int .i64 M, .int .i64 S, .int .i64 F, .int .i64 G] 35)
  go_enter Tryz.func7, Tryz.ntmps7
  go_wp2_with fail
  refine (Within_any 1 (K : Int) 2 _).mono ?_
  rintro e w9 ⟨rfl, rfl⟩
  rw [decide_eq_true h0]
  go_wp2_with fail
  refine (Within_any 1 P 1000000000000 _).mono ?_
  rintro e w9 ⟨rfl, rfl⟩
  rw [decide_eq_true h1]
  go_wp2_with fail
  refine (Within_any 1 (B : Int) 2 _).mono ?_
  rintro e w9 ⟨rfl, rfl⟩
  rw [decide_eq_true h3]
  go_wp2_with fail
  refine (Within_any 1 M 480 _).mono ?_
  rintro e w9 ⟨rfl, rfl⟩
  rw [decide_eq_true h4]
  go_wp2_with fail
  refine (Within_any 0 S 3600000 _).mono ?_
  rintro e w9 ⟨rfl, rfl⟩
  rw [decide_eq_false h5]
  go_wp2_with fail
  go_ret
  exact ⟨rfl, hbl⟩
set_option maxRecDepth 20000 in
set_option maxHeartbeats 4000000 in
theorem QRight_6 {K R B : Nat} {P M S F G : Int} (hK : K < 256) (hB : B < 256) (h0 : 1 ≤ (K : Int) ∧ (K : Int) ≤ 2) (h1 : 1 ≤ P ∧ P ≤ 1000000000000) (h2 : (R : Int) ≤ 1000000) (h3 : 1 ≤ (B : Int) ∧ (B : Int) ≤ 2) (h4 : 1 ≤ M ∧ M ≤ 480) (h5 : 0 ≤ S ∧ S ≤ 3600000) (h6 : ¬ (0 ≤ F ∧ F ≤ 1000000000)) (w : World) : Calls Tryz.prog 7 #[.agg #[.int .u8 (K : Int), .int .i64 P, .int .u32 (R : Int), .int .u8 (B : Int), .int .i64 M, .int .i64 S, .int .i64 F, .int .i64 G]] w (Ret (.bool false) w) := by
  have hbl := (Below.refl _ w).alloc (Nat.le_refl _) (.cells #[.int .u8 (K : Int), .int .i64 P, .int .u32 (R : Int), .int .u8 (B : Int), .int .i64 M, .int .i64 S, .int .i64 F, .int .i64 G] 35)
  go_enter Tryz.func7, Tryz.ntmps7
  go_wp2_with fail
  refine (Within_any 1 (K : Int) 2 _).mono ?_
  rintro e w9 ⟨rfl, rfl⟩
  rw [decide_eq_true h0]
  go_wp2_with fail
  refine (Within_any 1 P 1000000000000 _).mono ?_
  rintro e w9 ⟨rfl, rfl⟩
  rw [decide_eq_true h1]
  go_wp2_with fail
  refine (Within_any 1 (B : Int) 2 _).mono ?_
  rintro e w9 ⟨rfl, rfl⟩
  rw [decide_eq_true h3]
  go_wp2_with fail
  refine (Within_any 1 M 480 _).mono ?_
  rintro e w9 ⟨rfl, rfl⟩
  rw [decide_eq_true h4]
  go_wp2_with fail
  refine (Within_any 0 S 3600000 _).mono ?_
  rintro e w9 ⟨rfl, rfl⟩
  rw [decide_eq_true h5]
  go_wp2_with fail
  refine (Within_any 0 F 1000000000 _).mono ?_
  rintro e w9 ⟨rfl, rfl⟩
  rw [decide_eq_false h6]
  go_wp2_with fail
  go_ret
  exact ⟨rfl, hbl⟩
set_option maxRecDepth 20000 in
set_option maxHeartbeats 4000000 in
theorem QRight_7 {K R B : Nat} {P M S F G : Int} (hK : K < 256) (hB : B < 256) (h0 : 1 ≤ (K : Int) ∧ (K : Int) ≤ 2) (h1 : 1 ≤ P ∧ P ≤ 1000000000000) (h2 : (R : Int) ≤ 1000000) (h3 : 1 ≤ (B : Int) ∧ (B : Int) ≤ 2) (h4 : 1 ≤ M ∧ M ≤ 480) (h5 : 0 ≤ S ∧ S ≤ 3600000) (h6 : 0 ≤ F ∧ F ≤ 1000000000) (h7 : ¬ (0 ≤ G ∧ G ≤ 60)) (w : World) : Calls Tryz.prog 7 #[.agg #[.int .u8 (K : Int), .int .i64 P, .int .u32 (R : Int), .int .u8 (B : Int), .int .i64 M, .int .i64 S, .int .i64 F, .int .i64 G]] w (Ret (.bool false) w) := by
  have hbl := (Below.refl _ w).alloc (Nat.le_refl _) (.cells #[.int .u8 (K : Int), .int .i64 P, .int .u32 (R : Int), .int .u8 (B : Int), .int .i64 M, .int .i64 S, .int .i64 F, .int .i64 G] 35)
  go_enter Tryz.func7, Tryz.ntmps7
  go_wp2_with fail
  refine (Within_any 1 (K : Int) 2 _).mono ?_
  rintro e w9 ⟨rfl, rfl⟩
  rw [decide_eq_true h0]
  go_wp2_with fail
  refine (Within_any 1 P 1000000000000 _).mono ?_
  rintro e w9 ⟨rfl, rfl⟩
  rw [decide_eq_true h1]
  go_wp2_with fail
  refine (Within_any 1 (B : Int) 2 _).mono ?_
  rintro e w9 ⟨rfl, rfl⟩
  rw [decide_eq_true h3]
  go_wp2_with fail
  refine (Within_any 1 M 480 _).mono ?_
  rintro e w9 ⟨rfl, rfl⟩
  rw [decide_eq_true h4]
  go_wp2_with fail
  refine (Within_any 0 S 3600000 _).mono ?_
  rintro e w9 ⟨rfl, rfl⟩
  rw [decide_eq_true h5]
  go_wp2_with fail
  refine (Within_any 0 F 1000000000 _).mono ?_
  rintro e w9 ⟨rfl, rfl⟩
  rw [decide_eq_true h6]
  go_wp2_with fail
  refine (Within_any 0 G 60 _).mono ?_
  rintro e w9 ⟨rfl, rfl⟩
  rw [decide_eq_false h7]
  go_wp2_with fail
  go_ret
  exact ⟨rfl, hbl⟩
set_option maxRecDepth 20000 in
set_option maxHeartbeats 4000000 in
theorem QRight_yes {K R B : Nat} {P M S F G : Int} (hK : K < 256) (hB : B < 256) (h0 : 1 ≤ (K : Int) ∧ (K : Int) ≤ 2) (h1 : 1 ≤ P ∧ P ≤ 1000000000000) (h2 : (R : Int) ≤ 1000000) (h3 : 1 ≤ (B : Int) ∧ (B : Int) ≤ 2) (h4 : 1 ≤ M ∧ M ≤ 480) (h5 : 0 ≤ S ∧ S ≤ 3600000) (h6 : 0 ≤ F ∧ F ≤ 1000000000) (h7 : 0 ≤ G ∧ G ≤ 60) (w : World) : Calls Tryz.prog 7 #[.agg #[.int .u8 (K : Int), .int .i64 P, .int .u32 (R : Int), .int .u8 (B : Int), .int .i64 M, .int .i64 S, .int .i64 F, .int .i64 G]] w (Ret (.bool true) w) := by
  have hbl := (Below.refl _ w).alloc (Nat.le_refl _) (.cells #[.int .u8 (K : Int), .int .i64 P, .int .u32 (R : Int), .int .u8 (B : Int), .int .i64 M, .int .i64 S, .int .i64 F, .int .i64 G] 35)
  go_enter Tryz.func7, Tryz.ntmps7
  go_wp2_with fail
  refine (Within_any 1 (K : Int) 2 _).mono ?_
  rintro e w9 ⟨rfl, rfl⟩
  rw [decide_eq_true h0]
  go_wp2_with fail
  refine (Within_any 1 P 1000000000000 _).mono ?_
  rintro e w9 ⟨rfl, rfl⟩
  rw [decide_eq_true h1]
  go_wp2_with fail
  refine (Within_any 1 (B : Int) 2 _).mono ?_
  rintro e w9 ⟨rfl, rfl⟩
  rw [decide_eq_true h3]
  go_wp2_with fail
  refine (Within_any 1 M 480 _).mono ?_
  rintro e w9 ⟨rfl, rfl⟩
  rw [decide_eq_true h4]
  go_wp2_with fail
  refine (Within_any 0 S 3600000 _).mono ?_
  rintro e w9 ⟨rfl, rfl⟩
  rw [decide_eq_true h5]
  go_wp2_with fail
  refine (Within_any 0 F 1000000000 _).mono ?_
  rintro e w9 ⟨rfl, rfl⟩
  rw [decide_eq_true h6]
  go_wp2_with fail
  refine (Within_any 0 G 60 _).mono ?_
  rintro e w9 ⟨rfl, rfl⟩
  rw [decide_eq_true h7]
  go_wp2_with fail
  go_ret
  exact ⟨rfl, hbl⟩
theorem TRight_true {t : Trm} (h : t.Right) (w : World) : Calls Tryz.prog 46 #[t.v] w (Ret (.bool true) w) := TRight_yes h.K h.R h.P h.M h.S h.F h.G w
theorem TRight_false {t : Trm} (h : ¬ t.Right) (w : World) : Calls Tryz.prog 46 #[t.v] w (Ret (.bool false) w) := by
  by_cases h0 : t.K = 1 ∨ t.K = 2
  · by_cases h1 : rateB t.R t.B
    · by_cases h2 : 1 ≤ t.P ∧ t.P ≤ 1000000000000
      · by_cases h3 : 1 ≤ t.M ∧ t.M ≤ 480
        · by_cases h4 : 0 ≤ t.S ∧ t.S ≤ 3600000
          · by_cases h5 : 0 ≤ t.F ∧ t.F ≤ 1000000000
            · exact TRight_6 h0 h1 h2 h3 h4 h5 (fun h6 => h ⟨h0, h1, h2, h3, h4, h5, h6⟩) w
            · exact TRight_5 h0 h1 h2 h3 h4 h5 w
          · exact TRight_4 h0 h1 h2 h3 h4 w
        · exact TRight_3 h0 h1 h2 h3 w
      · exact TRight_2 h0 h1 h2 w
    · exact TRight_1 h0 h1 w
  · exact TRight_0 h0 w
theorem QRight_true {t : Trm} (hi : t.In) (h : t.Right) (w : World) : Calls Tryz.prog 7 #[t.r] w (Ret (.bool true) w) := by
  obtain ⟨hK, ⟨hR, hB⟩, hP, hM, hS, hF, hG⟩ := h
  exact QRight_yes hi.K hi.B (by omega) hP (by omega) (by omega) hM hS hF hG w
theorem QRight_false {t : Trm} (hi : t.In) (h : ¬ t.Right) (w : World) : Calls Tryz.prog 7 #[t.r] w (Ret (.bool false) w) := by
  by_cases h0 : 1 ≤ (t.K : Int) ∧ (t.K : Int) ≤ 2
  · by_cases h1 : 1 ≤ t.P ∧ t.P ≤ 1000000000000
    · by_cases h2 : (t.R : Int) ≤ 1000000
      · by_cases h3 : 1 ≤ (t.B : Int) ∧ (t.B : Int) ≤ 2
        · by_cases h4 : 1 ≤ t.M ∧ t.M ≤ 480
          · by_cases h5 : 0 ≤ t.S ∧ t.S ≤ 3600000
            · by_cases h6 : 0 ≤ t.F ∧ t.F ≤ 1000000000
              · exact QRight_7 hi.K hi.B h0 h1 h2 h3 h4 h5 h6 (fun h7 => h ⟨by omega, ⟨by omega, by omega⟩, h1, h4, h5, h6, h7⟩) w
              · exact QRight_6 hi.K hi.B h0 h1 h2 h3 h4 h5 h6 w
            · exact QRight_5 hi.K hi.B h0 h1 h2 h3 h4 h5 w
          · exact QRight_4 hi.K hi.B h0 h1 h2 h3 h4 w
        · exact QRight_3 hi.K hi.B h0 h1 h2 h3 w
      · exact QRight_2 hi.K hi.B h0 h1 h2 w
    · exact QRight_1 hi.K hi.B h0 h1 w
  · exact QRight_0 hi.K hi.B h0 w
end Go.Proofs.YtpbfipeinblfgaaGreatDoor
