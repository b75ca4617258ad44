/-
  Keys in their order; the document's. No condition.
-/
import Derived.Test.YtpphcifabmmimaaChK
import Derived.StillTailTactics
namespace Go.Proofs.Ytpphcifabmmimaa
open Go.ChangeShapes Go.WideShapes Go.ChangeAt Go.RowKit

def cmpI (a b : Int) : Int := if a < b then -1 else if b < a then 1 else 0
theorem flip_same {f : FuncId} {args : Array Value} {w : World} {v : Value} (h : Calls Try.prog f args w fun e w' => e = .returned v ∧ w = w') : Calls Try.prog f args w fun e w' => e = .returned v ∧ w' = w :=
  h.mono fun _ _ h => ⟨h.1, h.2.symm⟩
set_option maxRecDepth 20000 in
theorem NaN32_any (a : Int) (w : World) : Calls Try.prog 46 #[.int .u32 a] w fun e w' => e = .returned (.bool false) ∧ w = w' := by
  go_enter Try.func46, Try.ntmps46
  go_wp2_with fail
  go_ret
  exact ⟨by first | rfl | simp, rfl⟩
set_option maxRecDepth 20000 in
theorem Cmp32_any (a b : Int) (w : World) : Calls Try.prog 33 #[.int .u32 a, .int .u32 b] w fun e w' => e = .returned (.int .i64 (cmpI a b)) ∧ w = w' := by
  have hN := fun x W => NaN32_any x W
  unfold cmpI
  by_cases h1 : a < b
  · rw [if_pos h1]
    go_enter Try.func33, Try.ntmps33
    go_wp2_with (go_at_call 46; refine (hN _ _).mono ?_; rintro e w' ⟨rfl, rfl⟩)
    go_ret
    exact ⟨rfl, rfl⟩
  · rw [if_neg h1]
    by_cases h3 : b < a
    · rw [if_pos h3]
      go_enter Try.func33, Try.ntmps33
      go_wp2_with (go_at_call 46; refine (hN _ _).mono ?_; rintro e w' ⟨rfl, rfl⟩)
      go_ret
      exact ⟨rfl, rfl⟩
    · rw [if_neg h3]
      go_enter Try.func33, Try.ntmps33
      go_wp2_with (go_at_call 46; refine (hN _ _).mono ?_; rintro e w' ⟨rfl, rfl⟩)
      go_ret
      exact ⟨rfl, rfl⟩
set_option maxRecDepth 20000 in
theorem NaNDay_any (a : Int) (w : World) : Calls Try.prog 47 #[.int .i32 a] w fun e w' => e = .returned (.bool false) ∧ w = w' := by
  go_enter Try.func47, Try.ntmps47
  go_wp2_with fail
  go_ret
  exact ⟨by first | rfl | simp, rfl⟩
set_option maxRecDepth 20000 in
theorem CmpDay_any (a b : Int) (w : World) : Calls Try.prog 34 #[.int .i32 a, .int .i32 b] w fun e w' => e = .returned (.int .i64 (cmpI a b)) ∧ w = w' := by
  have hN := fun x W => NaNDay_any x W
  unfold cmpI
  by_cases h1 : a < b
  · rw [if_pos h1]
    go_enter Try.func34, Try.ntmps34
    go_wp2_with (go_at_call 47; refine (hN _ _).mono ?_; rintro e w' ⟨rfl, rfl⟩)
    go_ret
    exact ⟨rfl, rfl⟩
  · rw [if_neg h1]
    by_cases h3 : b < a
    · rw [if_pos h3]
      go_enter Try.func34, Try.ntmps34
      go_wp2_with (go_at_call 47; refine (hN _ _).mono ?_; rintro e w' ⟨rfl, rfl⟩)
      go_ret
      exact ⟨rfl, rfl⟩
    · rw [if_neg h3]
      go_enter Try.func34, Try.ntmps34
      go_wp2_with (go_at_call 47; refine (hN _ _).mono ?_; rintro e w' ⟨rfl, rfl⟩)
      go_ret
      exact ⟨rfl, rfl⟩
theorem cmpN_I (a b : Nat) : cmpN a b = cmpI (a : Int) (b : Int) := by
  unfold cmpN cmpI
  have e1 : ((a : Int) < (b : Int)) = (a < b) := propext (by omega)
  have e2 : ((b : Int) < (a : Int)) = (b < a) := propext (by omega)
  simp only [e1, e2]
/-- The first that isn't nothing. -/
def orI (a b c d : Int) : Int := if a ≠ 0 then a else if b ≠ 0 then b else if c ≠ 0 then c else d
set_option maxRecDepth 100000 in
set_option maxHeartbeats 4000000 in
theorem Or_any (a b c d : Int) (g : Nat) (ty : TypeId) (w : World) (hg : Blk w g ty #[.int .i64 a, .int .i64 b, .int .i64 c, .int .i64 d]) :
    Calls Try.prog 32 #[.slice (some ⟨g, 0, none⟩) 4 4] w fun e w' => e = .returned (.int .i64 (orI a b c d)) ∧ w = w' := by
  have x0 := hg.cell 0
  have x1 := hg.cell 1
  have x2 := hg.cell 2
  have x3 := hg.cell 3
  simp at x0 x1 x2 x3
  unfold orI
  clear hg
  by_cases ha : a = 0
  · subst ha
    rw [if_neg (by simp)]
    by_cases hb : b = 0
    · subst hb
      rw [if_neg (by simp)]
      by_cases hc : c = 0
      · subst hc
        rw [if_neg (by simp)]
        by_cases hd : d = 0
        · subst hd
          go_enter Try.func32, Try.ntmps32
          go_wp2_with fail
          go_rounds 5
          go_wp2_with fail
          go_ret
          exact ⟨rfl, rfl⟩
        · have b4 : (d == 0) = false := by rw [beq_eq_false_iff_ne]; exact hd
          go_enter Try.func32, Try.ntmps32
          go_wp2_with fail
          go_rounds 5
          go_wp2_with fail
          go_ret
          exact ⟨rfl, rfl⟩
      · rw [if_pos hc]
        have b3 : (c == 0) = false := by rw [beq_eq_false_iff_ne]; exact hc
        go_enter Try.func32, Try.ntmps32
        go_wp2_with fail
        go_rounds 5
        go_wp2_with fail
        go_ret
        exact ⟨rfl, rfl⟩
    · rw [if_pos hb]
      have b2 : (b == 0) = false := by rw [beq_eq_false_iff_ne]; exact hb
      go_enter Try.func32, Try.ntmps32
      go_wp2_with fail
      go_rounds 5
      go_wp2_with fail
      go_ret
      exact ⟨rfl, rfl⟩
  · rw [if_pos ha]
    have b1 : (a == 0) = false := by rw [beq_eq_false_iff_ne]; exact ha
    go_enter Try.func32, Try.ntmps32
    go_wp2_with fail
    go_rounds 5
    go_wp2_with fail
    go_ret
    exact ⟨rfl, rfl⟩
def lessB (y z : Ky) : Bool := decide (y.a < z.a) || (decide (y.a = z.a) && (decide (y.d < z.d) || (decide (y.d = z.d) && (decide (y.k < z.k) || (decide (y.k = z.k) && decide (y.s < z.s))))))
theorem cmpI_cases (a b : Int) : (a < b ∧ cmpI a b = -1) ∨ (a = b ∧ cmpI a b = 0) ∨ (b < a ∧ cmpI a b = 1) := by
  unfold cmpI
  rcases Int.lt_trichotomy a b with h | h | h
  · exact .inl ⟨h, if_pos h⟩
  · exact .inr (.inl ⟨h, by rw [if_neg (by omega), if_neg (by omega)]⟩)
  · exact .inr (.inr ⟨h, by rw [if_neg (by omega), if_pos h]⟩)
theorem or_less (y z : Ky) : decide (orI (cmpI (y.a : Int) (z.a : Int)) (cmpI y.d z.d) (cmpI (y.k : Int) (z.k : Int)) (cmpI (y.s : Int) (z.s : Int)) < 0) = lessB y z := by
  unfold lessB orI
  rcases cmpI_cases (y.a : Int) (z.a : Int) with ⟨h, e⟩ | ⟨h, e⟩ | ⟨h, e⟩
  · rw [e]; simp; omega
  · rw [e]
    have h' : y.a = z.a := by omega
    rcases cmpI_cases y.d z.d with ⟨g, e⟩ | ⟨g, e⟩ | ⟨g, e⟩
    · rw [e]; simp [h', g]
    · rw [e]
      rcases cmpI_cases (y.k : Int) (z.k : Int) with ⟨f, e⟩ | ⟨f, e⟩ | ⟨f, e⟩
      · rw [e]
        have f' : y.k < z.k := by omega
        simp [h', g, f']
      · rw [e]
        have f' : y.k = z.k := by omega
        rcases cmpI_cases (y.s : Int) (z.s : Int) with ⟨u, e⟩ | ⟨u, e⟩ | ⟨u, e⟩
        · rw [e]
          have u' : y.s < z.s := by omega
          simp [h', g, f', u']
        · rw [e]
          have u' : ¬ y.s < z.s := by omega
          simp [h', g, f', u']
        · rw [e]
          have u' : ¬ y.s < z.s := by omega
          simp [h', g, f', u']
      · rw [e]
        have f1 : ¬ y.k < z.k := by omega
        have f2 : ¬ y.k = z.k := by omega
        simp [h', g, f1, f2]
    · rw [e]
      have g1 : ¬ y.d < z.d := by omega
      have g2 : ¬ y.d = z.d := by omega
      simp [h', g1, g2]
  · rw [e]
    have h1 : ¬ y.a < z.a := by omega
    have h2 : ¬ y.a = z.a := by omega
    simp [h1, h2]
set_option maxRecDepth 100000 in
set_option maxHeartbeats 4000000 in
theorem Less_any13 (y z : Ky) (w : World) : Calls Try.prog 16 #[y.v, z.v] w (Ret (.bool (lessB y z)) w) := by
  rw [← or_less]
  obtain ⟨a1, d1, k1, s1⟩ := y
  obtain ⟨a2, d2, k2, s2⟩ := z
  change Calls _ _ _ _ (Ret (.bool (decide (orI (cmpI (a1 : Int) (a2 : Int)) (cmpI d1 d2) (cmpI (k1 : Int) (k2 : Int)) (cmpI (s1 : Int) (s2 : Int)) < 0))) w)
  unfold Ky.v
  have HQ0 := Lib.hid ((Blk.new w 25 #[.int .u32 (a1 : Int), .int .i32 d1, .int .u8 (k1 : Int), .int .u32 (s1 : Int)]).alloc (.cells #[.int .u32 (a2 : Int), .int .i32 d2, .int .u8 (k2 : Int), .int .u32 (s2 : Int)] 25))
  have HP0 : Hid (Blk ((w.alloc (.cells #[.int .u32 (a1 : Int), .int .i32 d1, .int .u8 (k1 : Int), .int .u32 (s1 : Int)] 25)).alloc (.cells #[.int .u32 (a2 : Int), .int .i32 d2, .int .u8 (k2 : Int), .int .u32 (s2 : Int)] 25)) (w.heap.size + 1) 25 #[.int .u32 (a2 : Int), .int .i32 d2, .int .u8 (k2 : Int), .int .u32 (s2 : Int)]) := Lib.hid (by
    have h := Blk.new (w.alloc (.cells #[.int .u32 (a1 : Int), .int .i32 d1, .int .u8 (k1 : Int), .int .u32 (s1 : Int)] 25)) 25 #[.int .u32 (a2 : Int), .int .i32 d2, .int .u8 (k2 : Int), .int .u32 (s2 : Int)]
    rw [show (w.alloc (.cells #[.int .u32 (a1 : Int), .int .i32 d1, .int .u8 (k1 : Int), .int .u32 (s1 : Int)] 25)).heap.size = w.heap.size + 1 by simp] at h
    exact h)
  have HB0 := Lib.hid ((b_alloc w (.cells #[.int .u32 (a1 : Int), .int .i32 d1, .int .u8 (k1 : Int), .int .u32 (s1 : Int)] 25)).alloc (by simp) (.cells #[.int .u32 (a2 : Int), .int .i32 d2, .int .u8 (k2 : Int), .int .u32 (s2 : Int)] 25))
  go_enter Try.func16, Try.ntmps16
  go_wp2_with fail
  obtain ⟨W2, hW2⟩ : ∃ W, ((w.alloc (.cells #[.int .u32 (a1 : Int), .int .i32 d1, .int .u8 (k1 : Int), .int .u32 (s1 : Int)] 25)).alloc (.cells #[.int .u32 (a2 : Int), .int .i32 d2, .int .u8 (k2 : Int), .int .u32 (s2 : Int)] 25)).drew = W := ⟨_, rfl⟩
  have HB2 : Hid (Below w.heap.size w W2) := Lib.hid (by rw [← hW2]; exact HB0.out.drew)
  have HQ2 : Hid (Blk W2 w.heap.size 25 #[.int .u32 (a1 : Int), .int .i32 d1, .int .u8 (k1 : Int), .int .u32 (s1 : Int)]) := Lib.hid (by rw [← hW2]; exact HQ0.out)
  have HP2 : Hid (Blk W2 (w.heap.size + 1) 25 #[.int .u32 (a2 : Int), .int .i32 d2, .int .u8 (k2 : Int), .int .u32 (s2 : Int)]) := Lib.hid (by rw [← hW2]; exact HP0.out)
  have x0 := HQ2.out.cell 0
  have x1 := HQ2.out.cell 1
  have x2 := HQ2.out.cell 2
  have x3 := HQ2.out.cell 3
  have z0 := HP2.out.cell 0
  have z1 := HP2.out.cell 1
  have z2 := HP2.out.cell 2
  have z3 := HP2.out.cell 3
  simp at x0 x1 x2 x3 z0 z1 z2 z3
  have c1 := Lib.hid (flip_same (Cmp32_any (a1 : Int) (a2 : Int) W2))
  have c2 := Lib.hid (flip_same (CmpDay_any d1 d2 W2))
  have c3 := flip_same (Cmp8_any k1 k2 W2)
  rw [cmpN_I] at c3
  have c3 := Lib.hid c3
  have c4 := Lib.hid (flip_same (Cmp32_any (s1 : Int) (s2 : Int) W2))
  obtain ⟨r1, hr1⟩ : ∃ r, cmpI (a1 : Int) (a2 : Int) = r := ⟨_, rfl⟩
  rw [hr1] at c1
  have R1 := Lib.hid hr1
  clear hr1
  obtain ⟨r2, hr2⟩ : ∃ r, cmpI d1 d2 = r := ⟨_, rfl⟩
  rw [hr2] at c2
  have R2 := Lib.hid hr2
  clear hr2
  obtain ⟨r3, hr3⟩ : ∃ r, cmpI (k1 : Int) (k2 : Int) = r := ⟨_, rfl⟩
  rw [hr3] at c3
  have R3 := Lib.hid hr3
  clear hr3
  obtain ⟨r4, hr4⟩ : ∃ r, cmpI (s1 : Int) (s2 : Int) = r := ⟨_, rfl⟩
  rw [hr4] at c4
  have R4 := Lib.hid hr4
  clear hr4
  refine wp_region_still_tail 20 (by kernel_rfl) (by kernel_rfl) ?_
  simp only [List.take_succ_cons, List.take_zero, List.drop_succ_cons, List.drop_zero]
  change wpStill _ _ ((w.alloc (.cells #[.int .u32 (a1 : Int), .int .i32 d1, .int .u8 (k1 : Int), .int .u32 (s1 : Int)] 25)).alloc (.cells #[.int .u32 (a2 : Int), .int .i32 d2, .int .u8 (k2 : Int), .int .u32 (s2 : Int)] 25)).drew _ _ _
  rw [hW2]
  change wpStill _ _ W2 (fun a' => wpList _ _ _ _ a' ((w.alloc (.cells #[.int .u32 (a1 : Int), .int .i32 d1, .int .u8 (k1 : Int), .int .u32 (s1 : Int)] 25)).alloc (.cells #[.int .u32 (a2 : Int), .int .i32 d2, .int .u8 (k2 : Int), .int .u32 (s2 : Int)] 25)).drew) _ _
  rw [hW2]
  clear hW2
  iterate 4 still_step
  still_call c1.out
  iterate 4 still_step
  still_call c2.out
  iterate 4 still_step
  still_call c3.out
  iterate 4 still_step
  still_call c4.out
  refine wpStill_nil ?_
  clear x0 x1 x2 x3 z0 z1 z2 z3 c1 c2 c3 c4
  have hO := flip_same (Or_any r1 r2 r3 r4 W2.heap.size 3 (W2.alloc (.cells #[.int .i64 r1, .int .i64 r2, .int .i64 r3, .int .i64 r4] 3)) (Blk.new W2 _ _))
  have HB3 := Lib.hid (HB2.out.alloc HB2.out.size (.cells #[.int .i64 r1, .int .i64 r2, .int .i64 r3, .int .i64 r4] 3))
  go_wp2_with fail
  refine hO.mono ?_
  rintro e w9 ⟨rfl, rfl⟩
  go_wp2_with fail
  go_ret
  exact ⟨by rw [R1.out, R2.out, R3.out, R4.out]; rfl, HB3.out⟩
end Go.Proofs.Ytpphcifabmmimaa
