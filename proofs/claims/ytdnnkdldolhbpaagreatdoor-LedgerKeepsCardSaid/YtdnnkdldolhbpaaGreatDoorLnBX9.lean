/-
Keys in their order; the document's. No condition.
Ledger.Loan: how entries are sorted. Conditions: the rows are there.
Ledger.Loan walked. Conditions: the ledger is there, its lines are few.
-/
import Derived.Test.YtdnnkdldolhbpaaGreatDoorChIX9
import Derived.Test.YtdnnkdldolhbpaaGreatDoorChCX9
import Derived.StillTailTactics
import Derived.Test.YtdnnkdldolhbpaaGreatDoorCpAX9
import Derived.Test.YtdnnkdldolhbpaaGreatDoorLedOX9
import Derived.Test.YtdnnkdldolhbpaaGreatDoorLedSX9
namespace Go.Proofs.YtdnnkdldolhbpaaGreatDoor
open Go.ChangeShapes Go.WideShapes Go.ChangeAt Go.RowKit

def cmpI (a b : Int) : Int := if a < b then -1 else if b < a then 1 else 0
theorem flip_same {f : FuncId} {args : Array Value} {w : World} {v : Value} (h : Calls Tryz.prog f args w fun e w' => e = .returned v ∧ w = w') : Calls Tryz.prog f args w fun e w' => e = .returned v ∧ w' = w :=
  h.mono fun _ _ h => ⟨h.1, h.2.symm⟩
set_option maxRecDepth 20000 in
theorem NaN32_any (a : Int) (w : World) : Calls Tryz.prog 99 #[.int .u32 a] w fun e w' => e = .returned (.bool false) ∧ w = w' := by
  go_enter Tryz.func99, Tryz.ntmps99
  go_wp2_with fail
  go_ret
  exact ⟨by first | rfl | simp, rfl⟩
set_option maxRecDepth 20000 in
theorem Cmp32_any (a b : Int) (w : World) : Calls Tryz.prog 67 #[.int .u32 a, .int .u32 b] w fun e w' => e = .returned (.int .i64 (cmpI a b)) ∧ w = w' := by
  have hN := fun x W => NaN32_any x W
  unfold cmpI
  by_cases h1 : a < b
  · rw [if_pos h1]
    go_enter Tryz.func67, Tryz.ntmps67
    go_wp2_with (go_at_call 99; refine (hN _ _).mono ?_; rintro e w' ⟨rfl, rfl⟩)
    go_ret
    exact ⟨rfl, rfl⟩
  · rw [if_neg h1]
    by_cases h3 : b < a
    · rw [if_pos h3]
      go_enter Tryz.func67, Tryz.ntmps67
      go_wp2_with (go_at_call 99; refine (hN _ _).mono ?_; rintro e w' ⟨rfl, rfl⟩)
      go_ret
      exact ⟨rfl, rfl⟩
    · rw [if_neg h3]
      go_enter Tryz.func67, Tryz.ntmps67
      go_wp2_with (go_at_call 99; refine (hN _ _).mono ?_; rintro e w' ⟨rfl, rfl⟩)
      go_ret
      exact ⟨rfl, rfl⟩
set_option maxRecDepth 20000 in
theorem NaNDay_any (a : Int) (w : World) : Calls Tryz.prog 100 #[.int .i32 a] w fun e w' => e = .returned (.bool false) ∧ w = w' := by
  go_enter Tryz.func100, Tryz.ntmps100
  go_wp2_with fail
  go_ret
  exact ⟨by first | rfl | simp, rfl⟩
set_option maxRecDepth 20000 in
theorem CmpDay_any (a b : Int) (w : World) : Calls Tryz.prog 68 #[.int .i32 a, .int .i32 b] w fun e w' => e = .returned (.int .i64 (cmpI a b)) ∧ w = w' := by
  have hN := fun x W => NaNDay_any x W
  unfold cmpI
  by_cases h1 : a < b
  · rw [if_pos h1]
    go_enter Tryz.func68, Tryz.ntmps68
    go_wp2_with (go_at_call 100; refine (hN _ _).mono ?_; rintro e w' ⟨rfl, rfl⟩)
    go_ret
    exact ⟨rfl, rfl⟩
  · rw [if_neg h1]
    by_cases h3 : b < a
    · rw [if_pos h3]
      go_enter Tryz.func68, Tryz.ntmps68
      go_wp2_with (go_at_call 100; refine (hN _ _).mono ?_; rintro e w' ⟨rfl, rfl⟩)
      go_ret
      exact ⟨rfl, rfl⟩
    · rw [if_neg h3]
      go_enter Tryz.func68, Tryz.ntmps68
      go_wp2_with (go_at_call 100; refine (hN _ _).mono ?_; rintro e w' ⟨rfl, rfl⟩)
      go_ret
      exact ⟨rfl, rfl⟩
theorem cmpN_I (a b : Nat) : cmpN a b = cmpI (a : Int) (b : Int) := by
  unfold cmpN cmpI
  have e1 : ((a : Int) < (b : Int)) = (a < b) := propext (by omega)
  have e2 : ((b : Int) < (a : Int)) = (b < a) := propext (by omega)
  simp only [e1, e2]
/-- The first that isn't nothing. -/
def orI (a b c d : Int) : Int := if a ≠ 0 then a else if b ≠ 0 then b else if c ≠ 0 then c else d
set_option maxRecDepth 100000 in
set_option maxHeartbeats 4000000 in
theorem Or_any (a b c d : Int) (g : Nat) (ty : TypeId) (w : World) (hg : Blk w g ty #[.int .i64 a, .int .i64 b, .int .i64 c, .int .i64 d]) :
    Calls Tryz.prog 66 #[.slice (some ⟨g, 0, none⟩) 4 4] w fun e w' => e = .returned (.int .i64 (orI a b c d)) ∧ w = w' := by
  have x0 := hg.cell 0
  have x1 := hg.cell 1
  have x2 := hg.cell 2
  have x3 := hg.cell 3
  simp at x0 x1 x2 x3
  unfold orI
  clear hg
  by_cases ha : a = 0
  · subst ha
    rw [if_neg (by simp)]
    by_cases hb : b = 0
    · subst hb
      rw [if_neg (by simp)]
      by_cases hc : c = 0
      · subst hc
        rw [if_neg (by simp)]
        by_cases hd : d = 0
        · subst hd
          go_enter Tryz.func66, Tryz.ntmps66
          go_wp2_with fail
          go_rounds 5
          go_wp2_with fail
          go_ret
          exact ⟨rfl, rfl⟩
        · have b4 : (d == 0) = false := by rw [beq_eq_false_iff_ne]; exact hd
          go_enter Tryz.func66, Tryz.ntmps66
          go_wp2_with fail
          go_rounds 5
          go_wp2_with fail
          go_ret
          exact ⟨rfl, rfl⟩
      · rw [if_pos hc]
        have b3 : (c == 0) = false := by rw [beq_eq_false_iff_ne]; exact hc
        go_enter Tryz.func66, Tryz.ntmps66
        go_wp2_with fail
        go_rounds 5
        go_wp2_with fail
        go_ret
        exact ⟨rfl, rfl⟩
    · rw [if_pos hb]
      have b2 : (b == 0) = false := by rw [beq_eq_false_iff_ne]; exact hb
      go_enter Tryz.func66, Tryz.ntmps66
      go_wp2_with fail
      go_rounds 5
      go_wp2_with fail
      go_ret
      exact ⟨rfl, rfl⟩
  · rw [if_pos ha]
    have b1 : (a == 0) = false := by rw [beq_eq_false_iff_ne]; exact ha
    go_enter Tryz.func66, Tryz.ntmps66
    go_wp2_with fail
    go_rounds 5
    go_wp2_with fail
    go_ret
    exact ⟨rfl, rfl⟩
def lessB (y z : Ky) : Bool := decide (y.a < z.a) || (decide (y.a = z.a) && (decide (y.d < z.d) || (decide (y.d = z.d) && (decide (y.k < z.k) || (decide (y.k = z.k) && decide (y.s < z.s))))))
theorem cmpI_cases (a b : Int) : (a < b ∧ cmpI a b = -1) ∨ (a = b ∧ cmpI a b = 0) ∨ (b < a ∧ cmpI a b = 1) := by
  unfold cmpI
  rcases Int.lt_trichotomy a b with h | h | h
  · exact .inl ⟨h, if_pos h⟩
  · exact .inr (.inl ⟨h, by rw [if_neg (by omega), if_neg (by omega)]⟩)
  · exact .inr (.inr ⟨h, by rw [if_neg (by omega), if_pos h]⟩)
theorem or_less (y z : Ky) : decide (orI (cmpI (y.a : Int) (z.a : Int)) (cmpI y.d z.d) (cmpI (y.k : Int) (z.k : Int)) (cmpI (y.s : Int) (z.s : Int)) < 0) = lessB y z := by
  unfold lessB orI
  rcases cmpI_cases (y.a : Int) (z.a : Int) with ⟨h, e⟩ | ⟨h, e⟩ | ⟨h, e⟩
  · rw [e]; simp; omega
  · rw [e]
    have h' : y.a = z.a := by omega
    rcases cmpI_cases y.d z.d with ⟨g, e⟩ | ⟨g, e⟩ | ⟨g, e⟩
    · rw [e]; simp [h', g]
    · rw [e]
      rcases cmpI_cases (y.k : Int) (z.k : Int) with ⟨f, e⟩ | ⟨f, e⟩ | ⟨f, e⟩
      · rw [e]
        have f' : y.k < z.k := by omega
        simp [h', g, f']
      · rw [e]
        have f' : y.k = z.k := by omega
        rcases cmpI_cases (y.s : Int) (z.s : Int) with ⟨u, e⟩ | ⟨u, e⟩ | ⟨u, e⟩
        · rw [e]
          have u' : y.s < z.s := by omega
          simp [h', g, f', u']
        · rw [e]
          have u' : ¬ y.s < z.s := by omega
          simp [h', g, f', u']
        · rw [e]
          have u' : ¬ y.s < z.s := by omega
          simp [h', g, f', u']
      · rw [e]
        have f1 : ¬ y.k < z.k := by omega
        have f2 : ¬ y.k = z.k := by omega
        simp [h', g, f1, f2]
    · rw [e]
      have g1 : ¬ y.d < z.d := by omega
      have g2 : ¬ y.d = z.d := by omega
      simp [h', g1, g2]
  · rw [e]
    have h1 : ¬ y.a < z.a := by omega
    have h2 : ¬ y.a = z.a := by omega
    simp [h1, h2]
set_option maxRecDepth 100000 in
set_option maxHeartbeats 4000000 in
theorem Less_any13 (y z : Ky) (w : World) : Calls Tryz.prog 38 #[y.v, z.v] w (Ret (.bool (lessB y z)) w) := by
  rw [← or_less]
  obtain ⟨a1, d1, k1, s1⟩ := y
  obtain ⟨a2, d2, k2, s2⟩ := z
  change Calls _ _ _ _ (Ret (.bool (decide (orI (cmpI (a1 : Int) (a2 : Int)) (cmpI d1 d2) (cmpI (k1 : Int) (k2 : Int)) (cmpI (s1 : Int) (s2 : Int)) < 0))) w)
  unfold Ky.v
  have HQ0 := Lib.hid ((Blk.new w 33 #[.int .u32 (a1 : Int), .int .i32 d1, .int .u8 (k1 : Int), .int .u32 (s1 : Int)]).alloc (.cells #[.int .u32 (a2 : Int), .int .i32 d2, .int .u8 (k2 : Int), .int .u32 (s2 : Int)] 33))
  have HP0 : Hid (Blk ((w.alloc (.cells #[.int .u32 (a1 : Int), .int .i32 d1, .int .u8 (k1 : Int), .int .u32 (s1 : Int)] 33)).alloc (.cells #[.int .u32 (a2 : Int), .int .i32 d2, .int .u8 (k2 : Int), .int .u32 (s2 : Int)] 33)) (w.heap.size + 1) 33 #[.int .u32 (a2 : Int), .int .i32 d2, .int .u8 (k2 : Int), .int .u32 (s2 : Int)]) := Lib.hid (by
    have h := Blk.new (w.alloc (.cells #[.int .u32 (a1 : Int), .int .i32 d1, .int .u8 (k1 : Int), .int .u32 (s1 : Int)] 33)) 33 #[.int .u32 (a2 : Int), .int .i32 d2, .int .u8 (k2 : Int), .int .u32 (s2 : Int)]
    rw [show (w.alloc (.cells #[.int .u32 (a1 : Int), .int .i32 d1, .int .u8 (k1 : Int), .int .u32 (s1 : Int)] 33)).heap.size = w.heap.size + 1 by simp] at h
    exact h)
  have HB0 := Lib.hid ((b_alloc w (.cells #[.int .u32 (a1 : Int), .int .i32 d1, .int .u8 (k1 : Int), .int .u32 (s1 : Int)] 33)).alloc (by simp) (.cells #[.int .u32 (a2 : Int), .int .i32 d2, .int .u8 (k2 : Int), .int .u32 (s2 : Int)] 33))
  go_enter Tryz.func38, Tryz.ntmps38
  go_wp2_with fail
  obtain ⟨W2, hW2⟩ : ∃ W, ((w.alloc (.cells #[.int .u32 (a1 : Int), .int .i32 d1, .int .u8 (k1 : Int), .int .u32 (s1 : Int)] 33)).alloc (.cells #[.int .u32 (a2 : Int), .int .i32 d2, .int .u8 (k2 : Int), .int .u32 (s2 : Int)] 33)).drew = W := ⟨_, rfl⟩
  have HB2 : Hid (Below w.heap.size w W2) := Lib.hid (by rw [← hW2]; exact HB0.out.drew)
  have HQ2 : Hid (Blk W2 w.heap.size 33 #[.int .u32 (a1 : Int), .int .i32 d1, .int .u8 (k1 : Int), .int .u32 (s1 : Int)]) := Lib.hid (by rw [← hW2]; exact HQ0.out)
  have HP2 : Hid (Blk W2 (w.heap.size + 1) 33 #[.int .u32 (a2 : Int), .int .i32 d2, .int .u8 (k2 : Int), .int .u32 (s2 : Int)]) := Lib.hid (by rw [← hW2]; exact HP0.out)
  have x0 := HQ2.out.cell 0
  have x1 := HQ2.out.cell 1
  have x2 := HQ2.out.cell 2
  have x3 := HQ2.out.cell 3
  have z0 := HP2.out.cell 0
  have z1 := HP2.out.cell 1
  have z2 := HP2.out.cell 2
  have z3 := HP2.out.cell 3
  simp at x0 x1 x2 x3 z0 z1 z2 z3
  have c1 := Lib.hid (flip_same (Cmp32_any (a1 : Int) (a2 : Int) W2))
  have c2 := Lib.hid (flip_same (CmpDay_any d1 d2 W2))
  have c3 := flip_same (Cmp8_any k1 k2 W2)
  rw [cmpN_I] at c3
  have c3 := Lib.hid c3
  have c4 := Lib.hid (flip_same (Cmp32_any (s1 : Int) (s2 : Int) W2))
  obtain ⟨r1, hr1⟩ : ∃ r, cmpI (a1 : Int) (a2 : Int) = r := ⟨_, rfl⟩
  rw [hr1] at c1
  have R1 := Lib.hid hr1
  clear hr1
  obtain ⟨r2, hr2⟩ : ∃ r, cmpI d1 d2 = r := ⟨_, rfl⟩
  rw [hr2] at c2
  have R2 := Lib.hid hr2
  clear hr2
  obtain ⟨r3, hr3⟩ : ∃ r, cmpI (k1 : Int) (k2 : Int) = r := ⟨_, rfl⟩
  rw [hr3] at c3
  have R3 := Lib.hid hr3
  clear hr3
  obtain ⟨r4, hr4⟩ : ∃ r, cmpI (s1 : Int) (s2 : Int) = r := ⟨_, rfl⟩
  rw [hr4] at c4
  have R4 := Lib.hid hr4
  clear hr4
  refine wp_region_still_tail 20 (by kernel_rfl) (by kernel_rfl) ?_
  simp only [List.take_succ_cons, List.take_zero, List.drop_succ_cons, List.drop_zero]
  change wpStill _ _ ((w.alloc (.cells #[.int .u32 (a1 : Int), .int .i32 d1, .int .u8 (k1 : Int), .int .u32 (s1 : Int)] 33)).alloc (.cells #[.int .u32 (a2 : Int), .int .i32 d2, .int .u8 (k2 : Int), .int .u32 (s2 : Int)] 33)).drew _ _ _
  rw [hW2]
  change wpStill _ _ W2 (fun a' => wpList _ _ _ _ a' ((w.alloc (.cells #[.int .u32 (a1 : Int), .int .i32 d1, .int .u8 (k1 : Int), .int .u32 (s1 : Int)] 33)).alloc (.cells #[.int .u32 (a2 : Int), .int .i32 d2, .int .u8 (k2 : Int), .int .u32 (s2 : Int)] 33)).drew) _ _
  rw [hW2]
  clear hW2
  iterate 4 still_step
  still_call c1.out
  iterate 4 still_step
  still_call c2.out
  iterate 4 still_step
  still_call c3.out
  iterate 4 still_step
  still_call c4.out
  refine wpStill_nil ?_
  clear x0 x1 x2 x3 z0 z1 z2 z3 c1 c2 c3 c4
  have hO := flip_same (Or_any r1 r2 r3 r4 W2.heap.size 3 (W2.alloc (.cells #[.int .i64 r1, .int .i64 r2, .int .i64 r3, .int .i64 r4] 3)) (Blk.new W2 _ _))
  have HB3 := Lib.hid (HB2.out.alloc HB2.out.size (.cells #[.int .i64 r1, .int .i64 r2, .int .i64 r3, .int .i64 r4] 3))
  go_wp2_with fail
  refine hO.mono ?_
  rintro e w9 ⟨rfl, rfl⟩
  go_wp2_with fail
  go_ret
  exact ⟨by rw [R1.out, R2.out, R3.out, R4.out]; rfl, HB3.out⟩
end Go.Proofs.YtdnnkdldolhbpaaGreatDoor
namespace Go.Proofs.YtdnnkdldolhbpaaGreatDoor
open Go.ChangeShapes Go.WideShapes Go.ChangeAt Go.RowKit Go.Shelf Go.Sort Go.Lib

theorem lessB_tri {y z : Ky} (h1 : lessB y z = false) (h2 : lessB z y = false) : y = z := by
  obtain ⟨a1, d1, k1, s1⟩ := y
  obtain ⟨a2, d2, k2, s2⟩ := z
  simp only [lessB, Bool.or_eq_false_iff, Bool.and_eq_false_iff, decide_eq_false_iff_not] at h1 h2
  rw [Ky.mk.injEq]
  refine ⟨by omega, by omega, by omega, by omega⟩
/-- Where an entry's legs lie. -/
structure EntV where
  A : Option Addr
  n : Nat
  c : Nat
/-- Entries of these keys. -/
def entL (F : Ky → EntV) : Lies Ky := ⟨fun y => [.int .u32 (y.a : Int), .int .i32 y.d, .int .u8 (y.k : Int), .int .u32 (y.s : Int), .slice (F y).A (F y).n (F y).c], 5, fun _ => rfl, fun y u hu => by
  simp at hu
  rcases hu with rfl | rfl | rfl | rfl | rfl <;> rfl⟩
theorem rowEnt (F : Ky → EntV) : RowOf (entL F) Tryz.prog 48 40 40 := RowOf.of (z := .agg #[.int .u32 0, .int .i32 0, .int .u8 0, .int .u32 0, .slice none 0 0]) Tryz.underlying48 (by kernel_rfl) rfl (show 0 < 5 by decide)
theorem flat_entL {F G : Ky → EntV} {R : List Ky} (h : ∀ y ∈ R, F y = G y) : flatS (entL F) R = flatS (entL G) R := by
  induction R with
  | nil => rfl
  | cons y R ih =>
    have h1 := h y (by simp)
    have h2 := ih (fun z hz => h z (by simp [hz]))
    simp only [flatS, List.flatMap_cons] at h2 ⊢
    rw [h2]
    simp [entL, h1]
def cmpY (y z : Ky) : Int := if lessB y z then -1 else if lessB z y then 1 else 0
theorem grow3 (w : World) (a b c : Obj) : (((w.alloc a).alloc b).drew.alloc c) = grow (w.drewN 1) #[a, b, c] := by
  rw [alloc_eq_grow, alloc_eq_grow, alloc_eq_grow, grow_grow, show (grow w (#[a] ++ #[b])).drew = grow (w.drewN 1) (#[a] ++ #[b]) from rfl, grow_grow]
  rfl
theorem grow2 (w : World) (a b : Obj) {W : World} {q : Nat} {os : Array Obj} (h : W = grow (((w.alloc a).alloc b).drewN q) os) : W = grow (w.drewN q) (#[a, b] ++ os) := by
  rw [h, alloc_eq_grow, alloc_eq_grow, grow_grow, show (grow w (#[a] ++ #[b])).drewN q = grow (w.drewN q) (#[a] ++ #[b]) from rfl, grow_grow]
  rfl
theorem grow_more {w W V : World} {q q' : Nat} {os os' : Array Obj} (h : W = grow (w.drewN q) os) (h' : V = grow (W.drewN q') os') : V = grow (w.drewN (q + q')) (os ++ os') := by
  rw [h', h, show (grow (w.drewN q) os).drewN q' = grow ((w.drewN q).drewN q') os from rfl, grow_grow]
  congr 1
  simp [World.drewN, Nat.add_assoc]
theorem grow_below {w W : World} {q : Nat} {os : Array Obj} (h : W = grow (w.drewN q) os) : Below w.heap.size w W := by
  subst h
  refine ⟨rfl, rfl, rfl, by simp [grow, World.drewN], fun i hi => ?_⟩
  simp [grow, World.drewN, Array.getElem?_append_left hi]
def GrowPost (v : Value) (w : World) (e : Ending) (w' : World) : Prop := e = .returned v ∧ ∃ q os', w' = grow (w.drewN q) os'
set_option maxRecDepth 100000 in
set_option maxHeartbeats 4000000 in
theorem Less_grow13 (y z : Ky) (w : World) : Calls Tryz.prog 38 #[y.v, z.v] w (GrowPost (.bool (lessB y z)) w) := by
  rw [← or_less]
  obtain ⟨a1, d1, k1, s1⟩ := y
  obtain ⟨a2, d2, k2, s2⟩ := z
  change Calls _ _ _ _ (GrowPost (.bool (decide (orI (cmpI (a1 : Int) (a2 : Int)) (cmpI d1 d2) (cmpI (k1 : Int) (k2 : Int)) (cmpI (s1 : Int) (s2 : Int)) < 0))) w)
  unfold Ky.v
  have HQ0 := Lib.hid ((Blk.new w 33 #[.int .u32 (a1 : Int), .int .i32 d1, .int .u8 (k1 : Int), .int .u32 (s1 : Int)]).alloc (.cells #[.int .u32 (a2 : Int), .int .i32 d2, .int .u8 (k2 : Int), .int .u32 (s2 : Int)] 33))
  have HP0 : Hid (Blk ((w.alloc (.cells #[.int .u32 (a1 : Int), .int .i32 d1, .int .u8 (k1 : Int), .int .u32 (s1 : Int)] 33)).alloc (.cells #[.int .u32 (a2 : Int), .int .i32 d2, .int .u8 (k2 : Int), .int .u32 (s2 : Int)] 33)) (w.heap.size + 1) 33 #[.int .u32 (a2 : Int), .int .i32 d2, .int .u8 (k2 : Int), .int .u32 (s2 : Int)]) := Lib.hid (by
    have h := Blk.new (w.alloc (.cells #[.int .u32 (a1 : Int), .int .i32 d1, .int .u8 (k1 : Int), .int .u32 (s1 : Int)] 33)) 33 #[.int .u32 (a2 : Int), .int .i32 d2, .int .u8 (k2 : Int), .int .u32 (s2 : Int)]
    rw [show (w.alloc (.cells #[.int .u32 (a1 : Int), .int .i32 d1, .int .u8 (k1 : Int), .int .u32 (s1 : Int)] 33)).heap.size = w.heap.size + 1 by simp] at h
    exact h)
  have HB0 := Lib.hid ((b_alloc w (.cells #[.int .u32 (a1 : Int), .int .i32 d1, .int .u8 (k1 : Int), .int .u32 (s1 : Int)] 33)).alloc (by simp) (.cells #[.int .u32 (a2 : Int), .int .i32 d2, .int .u8 (k2 : Int), .int .u32 (s2 : Int)] 33))
  go_enter Tryz.func38, Tryz.ntmps38
  go_wp2_with fail
  obtain ⟨W2, hW2⟩ : ∃ W, ((w.alloc (.cells #[.int .u32 (a1 : Int), .int .i32 d1, .int .u8 (k1 : Int), .int .u32 (s1 : Int)] 33)).alloc (.cells #[.int .u32 (a2 : Int), .int .i32 d2, .int .u8 (k2 : Int), .int .u32 (s2 : Int)] 33)).drew = W := ⟨_, rfl⟩
  have HW2 := Lib.hid hW2
  have HB2 : Hid (Below w.heap.size w W2) := Lib.hid (by rw [← hW2]; exact HB0.out.drew)
  have HQ2 : Hid (Blk W2 w.heap.size 33 #[.int .u32 (a1 : Int), .int .i32 d1, .int .u8 (k1 : Int), .int .u32 (s1 : Int)]) := Lib.hid (by rw [← hW2]; exact HQ0.out)
  have HP2 : Hid (Blk W2 (w.heap.size + 1) 33 #[.int .u32 (a2 : Int), .int .i32 d2, .int .u8 (k2 : Int), .int .u32 (s2 : Int)]) := Lib.hid (by rw [← hW2]; exact HP0.out)
  have x0 := HQ2.out.cell 0
  have x1 := HQ2.out.cell 1
  have x2 := HQ2.out.cell 2
  have x3 := HQ2.out.cell 3
  have z0 := HP2.out.cell 0
  have z1 := HP2.out.cell 1
  have z2 := HP2.out.cell 2
  have z3 := HP2.out.cell 3
  simp at x0 x1 x2 x3 z0 z1 z2 z3
  have c1 := Lib.hid (flip_same (Cmp32_any (a1 : Int) (a2 : Int) W2))
  have c2 := Lib.hid (flip_same (CmpDay_any d1 d2 W2))
  have c3 := flip_same (Cmp8_any k1 k2 W2)
  rw [cmpN_I] at c3
  have c3 := Lib.hid c3
  have c4 := Lib.hid (flip_same (Cmp32_any (s1 : Int) (s2 : Int) W2))
  obtain ⟨r1, hr1⟩ : ∃ r, cmpI (a1 : Int) (a2 : Int) = r := ⟨_, rfl⟩
  rw [hr1] at c1
  have R1 := Lib.hid hr1
  clear hr1
  obtain ⟨r2, hr2⟩ : ∃ r, cmpI d1 d2 = r := ⟨_, rfl⟩
  rw [hr2] at c2
  have R2 := Lib.hid hr2
  clear hr2
  obtain ⟨r3, hr3⟩ : ∃ r, cmpI (k1 : Int) (k2 : Int) = r := ⟨_, rfl⟩
  rw [hr3] at c3
  have R3 := Lib.hid hr3
  clear hr3
  obtain ⟨r4, hr4⟩ : ∃ r, cmpI (s1 : Int) (s2 : Int) = r := ⟨_, rfl⟩
  rw [hr4] at c4
  have R4 := Lib.hid hr4
  clear hr4
  refine wp_region_still_tail 20 (by kernel_rfl) (by kernel_rfl) ?_
  simp only [List.take_succ_cons, List.take_zero, List.drop_succ_cons, List.drop_zero]
  change wpStill _ _ ((w.alloc (.cells #[.int .u32 (a1 : Int), .int .i32 d1, .int .u8 (k1 : Int), .int .u32 (s1 : Int)] 33)).alloc (.cells #[.int .u32 (a2 : Int), .int .i32 d2, .int .u8 (k2 : Int), .int .u32 (s2 : Int)] 33)).drew _ _ _
  rw [hW2]
  change wpStill _ _ W2 (fun a' => wpList _ _ _ _ a' ((w.alloc (.cells #[.int .u32 (a1 : Int), .int .i32 d1, .int .u8 (k1 : Int), .int .u32 (s1 : Int)] 33)).alloc (.cells #[.int .u32 (a2 : Int), .int .i32 d2, .int .u8 (k2 : Int), .int .u32 (s2 : Int)] 33)).drew) _ _
  rw [hW2]
  clear hW2
  iterate 4 still_step
  still_call c1.out
  iterate 4 still_step
  still_call c2.out
  iterate 4 still_step
  still_call c3.out
  iterate 4 still_step
  still_call c4.out
  refine wpStill_nil ?_
  clear x0 x1 x2 x3 z0 z1 z2 z3 c1 c2 c3 c4
  have hO := flip_same (Or_any r1 r2 r3 r4 W2.heap.size 3 (W2.alloc (.cells #[.int .i64 r1, .int .i64 r2, .int .i64 r3, .int .i64 r4] 3)) (Blk.new W2 _ _))
  have HB3 := Lib.hid (HB2.out.alloc HB2.out.size (.cells #[.int .i64 r1, .int .i64 r2, .int .i64 r3, .int .i64 r4] 3))
  go_wp2_with fail
  refine hO.mono ?_
  rintro e w9 ⟨rfl, rfl⟩
  go_wp2_with fail
  go_ret
  exact ⟨by rw [R1.out, R2.out, R3.out, R4.out]; rfl, 1, #[.cells #[.int .u32 (a1 : Int), .int .i32 d1, .int .u8 (k1 : Int), .int .u32 (s1 : Int)] 33, .cells #[.int .u32 (a2 : Int), .int .i32 d2, .int .u8 (k2 : Int), .int .u32 (s2 : Int)] 33, .cells #[.int .i64 r1, .int .i64 r2, .int .i64 r3, .int .i64 r4] 3], by rw [← HW2.out]; exact grow3 _ _ _ _⟩
set_option maxRecDepth 100000 in
set_option maxHeartbeats 2000000 in
theorem Loan1_any (y z : Ky) (u v : Value) (W : World) : Calls Tryz.prog 37 #[.agg #[.int .u32 (y.a : Int), .int .i32 y.d, .int .u8 (y.k : Int), .int .u32 (y.s : Int), u], .agg #[.int .u32 (z.a : Int), .int .i32 z.d, .int .u8 (z.k : Int), .int .u32 (z.s : Int), v]] W (GrowPost (.int .i64 (cmpY y z)) W) := by
  have h1 := fun W => Less_grow13 y z W
  have h2 := fun W => Less_grow13 z y W
  unfold Ky.v at h1 h2
  obtain ⟨Y, hY⟩ : ∃ Y : Array Value, Y = #[.int .u32 (y.a : Int), .int .i32 y.d, .int .u8 (y.k : Int), .int .u32 (y.s : Int), u] := ⟨_, rfl⟩
  obtain ⟨Z, hZ⟩ : ∃ Z : Array Value, Z = #[.int .u32 (z.a : Int), .int .i32 z.d, .int .u8 (z.k : Int), .int .u32 (z.s : Int), v] := ⟨_, rfl⟩
  have HQ1 := Lib.hid ((Blk.new W 40 Y).alloc (.cells Z 40))
  have HQ2 : Hid (Blk ((W.alloc (.cells Y 40)).alloc (.cells Z 40)) (W.heap.size + 1) 40 Z) := Lib.hid (by
    have h := Blk.new (W.alloc (.cells Y 40)) 40 Z
    rw [show (W.alloc (.cells Y 40)).heap.size = W.heap.size + 1 by simp] at h
    exact h)
  have HG := Lib.hid (fun (V : World) (q : Nat) (os : Array Obj) (h : V = grow (((W.alloc (.cells Y 40)).alloc (.cells Z 40)).drewN q) os) => grow2 W _ _ h)
  obtain ⟨W2, hW2⟩ : ∃ V, ((W.alloc (.cells Y 40)).alloc (.cells Z 40)) = V := ⟨_, rfl⟩
  rw [hW2] at HQ1 HQ2 HG
  subst hY hZ
  have HW := Lib.hid hW2
  clear hW2
  have n0 := HQ1.out.cell 0
  have n1 := HQ1.out.cell 1
  have n2 := HQ1.out.cell 2
  have n3 := HQ1.out.cell 3
  have k0 := HQ2.out.cell 0
  have k1 := HQ2.out.cell 1
  have k2 := HQ2.out.cell 2
  have k3 := HQ2.out.cell 3
  simp at n0 n1 n2 n3 k0 k1 k2 k3
  have HL1 := Lib.hid (h1 W2)
  have HL2 := Lib.hid h2
  clear h1 h2
  obtain ⟨r, hr⟩ : ∃ r, cmpY y z = r := ⟨_, rfl⟩
  rw [hr]
  have HRR := Lib.hid hr
  clear hr
  go_enter Tryz.func37, Tryz.ntmps37
  go_upto_region 1 with (fail)
  rw [HW.out]
  clear HW
  cases e1 : lessB y z with
  | true =>
    rw [e1] at HL1
    obtain rfl : r = -1 := by rw [← HRR.out]; simp [cmpY, e1]
    clear HRR e1
    go_wp2_with fail
    refine HL1.out.mono ?_
    rintro e w3 ⟨rfl, q3, os3, hg3⟩
    have HG3 := Lib.hid hg3
    clear hg3
    go_wp2_with fail
    go_ret
    exact ⟨rfl, q3, _, HG.out _ _ _ HG3.out⟩
  | false =>
    rw [e1] at HL1
    go_wp2_with fail
    refine HL1.out.mono ?_
    rintro e w3 ⟨rfl, q3, os3, hg3⟩
    have hb3 := grow_below hg3
    have HQ13 := Lib.hid (HQ1.out.below hb3 HQ1.out.lt)
    have HQ23 := Lib.hid (HQ2.out.below hb3 HQ2.out.lt)
    have HG3 := Lib.hid hg3
    have HL3 := Lib.hid (HL2.out w3)
    clear n0 n1 n2 n3 k0 k1 k2 k3 hb3 hg3 HL2 HQ1 HQ2
    have n0 := HQ13.out.cell 0
    have n1 := HQ13.out.cell 1
    have n2 := HQ13.out.cell 2
    have n3 := HQ13.out.cell 3
    have k0 := HQ23.out.cell 0
    have k1 := HQ23.out.cell 1
    have k2 := HQ23.out.cell 2
    have k3 := HQ23.out.cell 3
    simp at n0 n1 n2 n3 k0 k1 k2 k3
    cases e2 : lessB z y with
    | true =>
      rw [e2] at HL3
      obtain rfl : r = 1 := by rw [← HRR.out]; simp [cmpY, e1, e2]
      clear HRR e2
      go_wp2_with fail
      refine HL3.out.mono ?_
      rintro e w4 ⟨rfl, q4, os4, hg4⟩
      have HG4 := Lib.hid hg4
      clear hg4
      go_wp2_with fail
      go_ret
      exact ⟨rfl, q3 + q4, _, HG.out _ _ _ (grow_more HG3.out HG4.out)⟩
    | false =>
      rw [e2] at HL3
      obtain rfl : r = 0 := by rw [← HRR.out]; simp [cmpY, e1, e2]
      clear HRR e2
      go_wp2_with fail
      refine HL3.out.mono ?_
      rintro e w4 ⟨rfl, q4, os4, hg4⟩
      have HG4 := Lib.hid hg4
      clear hg4
      go_wp2_with fail
      go_ret
      exact ⟨rfl, q3 + q4, _, HG.out _ _ _ (grow_more HG3.out HG4.out)⟩
theorem ltY (a b : Ky) : ltOf cmpY a b = lessB a b := by
  unfold ltOf cmpY
  cases h1 : lessB a b with
  | true => simp
  | false => cases h2 : lessB b a <;> simp
theorem lessB_iff (a b : Ky) : lessB a b = true ↔ (a.a < b.a ∨ (a.a = b.a ∧ (a.d < b.d ∨ (a.d = b.d ∧ (a.k < b.k ∨ (a.k = b.k ∧ a.s < b.s)))))) := by
  simp only [lessB, Bool.or_eq_true, Bool.and_eq_true, decide_eq_true_eq]
theorem swoY : SWO (ltOf cmpY) := by
  refine ⟨fun x => by rw [ltY]; simp [lessB], fun x y z h1 h2 => ?_, fun x y z h1 h2 => ?_⟩
  · rw [ltY, lessB_iff] at *; omega
  · rw [ltY] at *
    rw [Bool.eq_false_iff] at *
    rw [Ne, lessB_iff] at *
    omega
theorem isAggEnt (w : World) : (isAgg 40).run Tryz.prog w = .ok true w := by kernel_rfl
theorem sizeEnt (w : World) : (Go.sizeOf 40).run Tryz.prog w = .ok 5 w := by kernel_rfl
def SortEPost (F : Ky → EntV) (R : List Ky) (w : World) (base g n cap : Nat) (e : Ending) (w' : World) : Prop :=
  e = .returned (.tuple #[]) ∧ (∃ R', R'.Perm R ∧ OwnS (entL F) 40 w' base (.slice (some ⟨g, 0, none⟩) n cap) n R') ∧ w.grownBy w' (some g)
instance : Inhabited Ky := ⟨⟨0, 0, 0, 0⟩⟩
theorem SortE_any (F : Ky → EntV) (R : List Ky) (w : World) (base g n cap : Nat) (h : OwnS (entL F) 40 w base (.slice (some ⟨g, 0, none⟩) n cap) n R) (hsz : n < 1000000) :
    Calls Tryz.prog 36 #[.slice (some ⟨g, 0, none⟩) n cap, .func (.func 37) #[] #[]] w (SortEPost F R w base g n cap) := by
  have hk : 0 < (entL F).k := by show 0 < 5; omega
  obtain ⟨hH, hb, hlt⟩ := own_holds hk h
  have hl := h.length hk
  have eg : ∀ args w, (callFunc 37 args).run Tryz.prog w = .ok (.enter 37 args) w := enters_of Tryz.func37 (by kernel_rfl) rfl
  have hcon := AnyQ.slices_SortFunc_total Tryz.sortEnt 5 isAggEnt sizeEnt (entL F).cells (fun _ => rfl) (entL F).one cmpY swoY 37 #[] g 0 cap R.toArray w eg
    (fun m os dk _ x y => Loan1_any x y _ _ _) hH hlt (by simp; omega) (fun x y h1 h2 => by rw [ltY] at h1 h2; exact lessB_tri h1 h2)
  change Calls Tryz.prog 36 _ _ _ at hcon
  rw [show R.toArray.size = n by simpa using hl] at hcon
  refine hcon.mono ?_
  rintro e w' ⟨rfl, m, os, rfl⟩
  obtain ⟨g1, g2⟩ := own_sorted (m := m) (os := os) (l' := R.mergeSort (fun x y => !(ltOf cmpY) y x)) hk h (by simp)
  exact ⟨rfl, ⟨_, List.mergeSort_perm _ _, g1⟩, g2⟩
end Go.Proofs.YtdnnkdldolhbpaaGreatDoor
namespace Go.Proofs.YtdnnkdldolhbpaaGreatDoor
open Go.ChangeShapes Go.WideShapes Go.ChangeAt Go.RowKit Go.Maps

/-- The map of a loan's live lines. -/
theorem LedL.inner {w : World} {q : Nat} {D : Nat → Prop} {M : List Li} (h : Led w q D M) {a : Nat} (ha : a < 4294967296) : ∃ (lm r : Option Nat), w.cell? ⟨q, 1, none⟩ = some (.map lm) ∧
    (∀ w', Below w.heap.size w w' → (Instr.lookup 82 (.map lm) (.int .u32 (a : Int)) false).run Tryz.prog w' = .ok (.map r) w') ∧ MapO w Ky.In Ky.v r (fun y => if y.a = a then (liveL M y).map natV else none) := by
  obtain ⟨lv, V, lm, bm, inn, h1, h2, h3, h4, h5, h6, h7, h8, h9, h10, h11⟩ := h
  have c1 := h1.cell 1
  unfold ledC at c1
  simp at c1
  cases lm with
  | none =>
    refine ⟨none, none, c1, fun w' _ => look_none (w := w') keyU32 Tryz.underlying82 (zeroM w') (x := a) ha false, fun y => ?_⟩
    show (if y.a = a then (liveL M y).map natV else none) = none
    split
    · rw [h4.nil rfl y]
      rfl
    · rfl
  | some b =>
    obtain ⟨hb1, hb2, hb3⟩ := h4.out b rfl
    cases hr : inn a with
    | none =>
      refine ⟨some b, none, c1, fun w' hb => ?_, fun y => ?_⟩
      · have := (hb2.below hb (h9 b hb1)).look keyU32 Tryz.underlying82 (zeroM w') (x := a) ha false
        rw [hr] at this
        exact this
      · show (if y.a = a then (liveL M y).map natV else none) = none
        split
        · rename_i e
          subst e
          rw [h4.no y hr]
          rfl
        · rfl
    | some r =>
      refine ⟨some b, some r, c1, fun w' hb => ?_, (h4.at_ a r hr).2⟩
      have := (hb2.below hb (h9 b hb1)).look keyU32 Tryz.underlying82 (zeroM w') (x := a) ha false
      rw [hr] at this
      exact this
theorem MapR.no_blk2 {κ α : Type} {w : World} {In : κ → Prop} {enc : κ → Value} {m : Option Nat} {r : Nat} {f : κ → Option Value} {left : κ → Prop} {cnt : Nat} (h : MapR w In enc m r f left cnt) {T : Lies α} {e : TypeId} {b n : Nat} {v : Value} {l : List α} (ho : OwnS T e w b v n l) (hv : v.ownBlock = some r) : False := by
  obtain ⟨cs, hb⟩ := own_blk14 ho hv
  cases m with
  | none =>
    have h1 := h.1
    rw [show w.heap[r]? = _ from hb] at h1
    cases h1
  | some b =>
    obtain ⟨es, clock, since, seen, c0, _, _, hr, _⟩ := h
    rw [show w.heap[r]? = _ from hb] at hr
    cases hr
/-- A loan's live keys. -/
def LoanPost (M : List Li) (a : Nat) (w : World) (e : Ending) (w' : World) : Prop := ∃ (R : List Ky) (A : Option Addr) (c : Nat), e = .returned (.slice A R.length c) ∧ R.Nodup ∧ (∀ y, y ∈ R ↔ y.a = a ∧ ∃ i, liveL M y = some i) ∧ Below w.heap.size w w'
/-- Which keys have come. -/
structure Seen (M : List Li) (a : Nat) (R : List Ky) (left : Ky → Prop) : Prop where
  nodup : R.Nodup
  iff : ∀ y, y ∈ R ↔ (y.a = a ∧ ∃ i, liveL M y = some i) ∧ ¬ left y
theorem Seen.step {M : List Li} {a : Nat} {R : List Ky} {left : Ky → Prop} (h : Seen M a R left) {y : Ky} {i : Nat} (hl : left y) (hy : y.a = a) (hi : liveL M y = some i) : Seen M a (R ++ [y]) (fun z => left z ∧ z ≠ y) := by
  have hn : y ∉ R := fun hm => ((h.iff y).1 hm).2 hl
  refine ⟨List.nodup_append.2 ⟨h.nodup, by simp, fun x hx z hz => ?_⟩, fun z => ?_⟩
  · rw [List.mem_singleton.1 hz]
    rintro rfl
    exact hn hx
  · rw [List.mem_append, List.mem_singleton, h.iff z]
    by_cases e : z = y
    · subst e
      simp [hy, hi]
    · simp [e]
theorem Seen.few {M : List Li} {a : Nat} {R : List Ky} {left : Ky → Prop} (h : Seen M a R left) : R.length ≤ M.length := by
  have hs : R ⊆ M.map (fun x => x.y) := fun y hy => by
    obtain ⟨⟨_, i, hi⟩, _⟩ := (h.iff y).1 hy
    obtain ⟨z, k1, k2, _⟩ := liveL_some hi
    exact List.mem_map.2 ⟨z, List.mem_of_getElem? k1, k2⟩
  have := h.nodup.length_le_of_subset hs
  simpa using this
set_option maxRecDepth 100000 in
set_option maxHeartbeats 4000000 in
theorem Loan_any (q : Nat) (D : Nat → Prop) (M : List Li) (a : Nat) (ha : a < 4294967296) (w : World) (h : Led w q D M) (hM : M.length ≤ 100000) : Calls Tryz.prog 15 #[.pointer (some ⟨q, 0, none⟩), .int .u32 (a : Int)] w (LoanPost M a w) := by
  have HL := Lib.hid h
  obtain ⟨lm, r, c1, hlk, hmo⟩ := h.inner ha
  have hq := h.lt q h.self
  have hlk0 := hlk w (Below.refl _ _)
  have HMO := Lib.hid hmo
  clear h hlk hmo
  go_enter Tryz.func15, Tryz.ntmps15
  go_wp2_with (at_range; refine wpList_rangeF (f := (fun y => if y.a = a then (liveL M y).map natV else none)) rfl _ rfl keyKy Tryz.underlying93 rfl HMO.out ?_; intro w0 cnt0 hr0 hg0 hs0)
  go_frame
  have hb0 := below_of_grown hg0
  have HR0 := Lib.hid hr0
  have HB0 := Lib.hid hb0
  have HLT := Lib.hid (fun b hb => HMO.out.lt (b := b) hb)
  clear hr0 hg0 hb0 hlk0 c1
  go_loopw [5, 7] (fun v _ wr => ∃ (left : Ky → Prop) (cnt : Nat) (R : List Ky) (F : Ky → EntV), Hid (MapR wr Ky.In Ky.v r w.heap.size (fun y => if y.a = a then (liveL M y).map natV else none) left cnt) ∧ Hid (Seen M a R left) ∧ Hid (OwnS (entL F) 40 wr w.heap.size v R.length R) ∧ Hid (Below w.heap.size w wr) ∧ w.heap.size < wr.heap.size) (fun _ _ wr => mapLeft wr r w.heap.size)
  case atStart =>
    refine ⟨_, cnt0, [], fun _ => ⟨none, 0, 0⟩, HR0, Lib.hid ⟨List.nodup_nil, fun y => ?_⟩, Lib.hid (OwnS.nil_ _ _ _), HB0, by omega⟩
    constructor
    · intro h
      cases h
    · rintro ⟨⟨h1, i, hi⟩, h2⟩
      exact absurd ⟨natV i, by rw [if_pos h1, hi]; rfl⟩ h2
  case round =>
    obtain ⟨left, cnt, R, F, HR, HS, HO, HBL, hsz⟩ := hrel
    have hfew := HS.out.few
    go_wp2_with (at_next; refine wpList_nextF (m := r) (f := (fun y => if y.a = a then (liveL M y).map natV else none)) rfl _ rfl keyKy rfl HR.out ?_ ?_)
    · intro _ hl0
      have HL0 := Lib.hid hl0
      clear hl0
      have hiff : ∀ y, y ∈ R ↔ y.a = a ∧ ∃ i, liveL M y = some i := fun y => (HS.out.iff y).trans ⟨fun h => h.1, fun h => ⟨h, HL0.out y⟩⟩
      have HIF := Lib.hid hiff
      clear hiff
      rcases HO.out.2 with ⟨hv, hr0⟩ | ⟨g, cap, cur, hv, hbg, _, hncap, _, _, _⟩
      · obtain rfl : R = [] := List.eq_nil_of_length_eq_zero hr0
        subst hv
        clear hr0
        have hSn := fun W => AnyF.slices_SortFunc_none Tryz.sortEnt Option.none 0 (.func (.func 37) #[] #[]) W
        replace hSn : ∀ W, Calls Tryz.prog 36 #[.slice Option.none 0 0, .func (.func 37) #[] #[]] W fun e w' => e = .returned (.tuple #[]) ∧ w' = W := hSn
        go_wp2_with fail
        refine (hSn _).mono ?_
        rintro e w5 ⟨rfl, rfl⟩
        clear hSn
        go_wp2_with fail
        refine fin_tmp rfl (by rfl) ?_
        exact ⟨[], none, 0, rfl, List.nodup_nil, HIF.out, HBL.out⟩
      · subst hv
        have hSo := SortE_any F R wr w.heap.size g R.length cap HO.out (by omega)
        clear hncap
        go_wp2_with fail
        refine hSo.mono ?_
        rintro e w5 ⟨rfl, ⟨R', hp, ho5⟩, hg5⟩
        have HB5 := Lib.hid (HBL.out.grown hg5 HBL.out.size (fun j hj => by cases hj; exact hbg))
        have HP := Lib.hid hp
        clear hSo ho5 hg5 hp
        go_wp2_with fail
        refine fin_tmp rfl (by rfl) ?_
        exact ⟨R, some ⟨g, 0, none⟩, cap, rfl, HS.out.nodup, HIF.out, HB5.out⟩
    · intro x v w1 cnt1 hx hlx hxa i hi hv hr1 hlt1 hg1 hs1 hen
      subst hv
      obtain ⟨z, hz, hzy, hzo⟩ := liveL_some hi
      have hiM := (List.getElem?_eq_some_iff.1 hz).1
      have hb1 : Below w.heap.size w w1 := HBL.out.grown hg1 HBL.out.size (fun k hk => by cases hk; exact Nat.le_refl _)
      have HL1 := Lib.hid (HL.out.below hb1)
      have hin := HL1.out.fine.inn z (List.mem_of_getElem? hz)
      obtain ⟨g, o, c, A, n, kk, c0, hc, hn, hR, r0, r1, r2, r3, r4, r5⟩ := HL1.out.line hz
      have hO := own_any14 z.y A n kk z.o w1.heap.size z.l w1 hR hn.symm (by have := hin.2.2.2.1; omega) (by have := hin.2.2.2.1; omega) (Nat.le_refl _)
      have HON := Lib.hid hO
      have hlt' : (i : Int) < (M.length : Int) := by omega
      have HS1 := Lib.hid (HS.out.step hlx hxa hi)
      have hrO := fun h => HR.out.no_blk2 (HO.out) h
      have HO1 := Lib.hid (HO.out.same (w' := w1) (fun g hg => hg1.block g (HO.out.lt g hg).2 (fun e => by
        cases e
        exact hrO hg)))
      have HB1 := Lib.hid hb1
      have HR1 := Lib.hid hr1
      have hle := HR.out.left_eq
      have HLE := Lib.hid hle
      have HZ := Lib.hid hz
      have HXY := Lib.hid hzy
      have HLT1 := Lib.hid hlt1
      have hs1' : w1.heap.size = wr.heap.size := hs1
      have hnot : x ∉ R := fun hm => ((HS.out.iff x).1 hm).2 hlx
      have HNT := Lib.hid hnot
      unfold natV at hen
      unfold linW at HON
      clear hO hR hn hin hz hzo hlx hxa hi hg1 hs1 hb1 hr1 HR HO HS hrO hle hzy hnot hlt1 hx
      unfold natV
      go_wp2_with fail
      refine HON.out.mono ?_
      rintro e w4 ⟨A4, c4, rfl, ho4, hb4⟩
      have hf := lineField (.int .u32 (z.y.a : Int)) (.int .i32 z.y.d) (.int .u8 (z.y.k : Int)) (.int .u32 (z.y.s : Int)) (.slice A4 z.l.length c4) (.int .i64 (z.o : Int)) w4
      obtain ⟨G, hG⟩ : ∃ G : Ky → EntV, G = fun y => if y = x then ⟨A4, z.l.length, c4⟩ else F y := ⟨_, rfl⟩
      have hgx : G x = ⟨A4, z.l.length, c4⟩ := by rw [hG]; exact if_pos rfl
      have hgR : ∀ y ∈ R, F y = G y := fun y hy => by
        rw [hG]
        show F y = if y = x then _ else F y
        rw [if_neg (fun e => HNT.out (by rw [← e]; exact hy))]
      have hO4 := HO1.out.below hb4
      have hOG : OwnS (entL G) 40 w4 w.heap.size u5 R.length R := by
        unfold OwnS at hO4 ⊢
        rw [← flat_entL hgR]
        exact hO4
      have HOG := Lib.hid (hOG.alloc (.cells #[.int .u32 (z.y.a : Int), .int .i32 z.y.d, .int .u8 (z.y.k : Int), .int .u32 (z.y.s : Int), .slice A4 z.l.length c4] 40))
      have hent : (#[.int .u32 (z.y.a : Int), .int .i32 z.y.d, .int .u8 (z.y.k : Int), .int .u32 (z.y.s : Int), .slice A4 z.l.length c4] : Array Value) = ((entL G).cells x).toArray := by
        show _ = (#[.int .u32 (x.a : Int), .int .i32 x.d, .int .u8 (x.k : Int), .int .u32 (x.s : Int), .slice (G x).A (G x).n (G x).c] : Array Value)
        rw [hgx, ← HXY.out]
      have HNB := Lib.hid (Rs.block (T := entL G) (u := x) (by
        have h := Blk.new w4 40 #[.int .u32 (z.y.a : Int), .int .i32 z.y.d, .int .u8 (z.y.k : Int), .int .u32 (z.y.s : Int), .slice A4 z.l.length c4]
        exact h.trans (by rw [hent])))
      have HB4 := Lib.hid ((HB1.out.trans (hb4.mono HB1.out.size)).alloc (by have := HB1.out.size; have := hb4.size; omega) (.cells #[.int .u32 (z.y.a : Int), .int .i32 z.y.d, .int .u8 (z.y.k : Int), .int .u32 (z.y.s : Int), .slice A4 z.l.length c4] 40))
      have hw41 : w.heap.size < w4.heap.size := by have := hb4.size; omega
      have HR4 := Lib.hid ((HR1.out.keep (w' := w4) (fun b hb => hb4.block b (by have := HLT.out b hb; omega)) (hb4.block _ (by omega))).keep (w' := w4.alloc (.cells #[.int .u32 (z.y.a : Int), .int .i32 z.y.d, .int .u8 (z.y.k : Int), .int .u32 (z.y.s : Int), .slice A4 z.l.length c4] 40)) (fun b hb => Below.heap_alloc _ _ _ (by have := HLT.out b hb; omega)) (Below.heap_alloc _ _ _ hw41))
      have HFX := Lib.hid hf
      clear hG hgx hgR hO4 hOG hent ho4 hb4 HON HL1 HO1 HR1 c0 r0 r1 r2 r3 r4 r5 hf
      have hf := HFX.out
      unfold linW
      go_wp2_with (with_reducible refine wpList_appendS (o := ⟨some 32, _, _, _, _, _⟩) rfl (rowEnt G) (.tmp 21) (.tmp 31) rfl w.heap.size _ R.length R ?h1 HOG.out _ (some ⟨w4.heap.size, 0, none⟩) 1 1 [x] ?h2 HNB.out rfl ?h3 ?h4 ?h5 ?_)
      try (case h1 => rfl)
      try (case h2 => rfl)
      try (case h3 => unfold maxLen; omega)
      try (case h4 => omega)
      try (case h5 => first | omega | (simp; omega))
      intro v5 w5 ho5 hg5 _ _
      have hno := fun h => HR4.out.no_blk2 HOG.out h
      have HR5 := Lib.hid (HR4.out.keep (w' := w5) (fun b hb => hg5.block b (by have := HLT.out b hb; simp; omega) (fun e => by
        have h1 := (HOG.out.lt b e.symm).1
        have h2 := HLT.out b hb
        omega)) (hg5.block _ (by simp; omega) (fun e => hno e.symm)))
      have HB5 := Lib.hid (HB4.out.grown hg5 HB4.out.size (fun j hj => (HOG.out.lt j hj).1))
      have HO5 := Lib.hid ho5
      have HRL := Lib.hid (show (R ++ [x]).length = R.length + 1 by simp)
      have hs5 : w.heap.size < w5.heap.size := by have := hg5.size; simp at this; omega
      clear ho5 hg5 hno HR4 HOG HB4 HNB hf
      go_wp2_with fail
      go_roundw
      case rel => exact ⟨fun y => left y ∧ y ≠ x, cnt1, R ++ [x], G, HR5, HS1, Lib.hid (by rw [HRL.out]; exact HO5.out), HB5, hs5⟩
      case measure => rw [HLE.out, HR5.out.left_eq]; exact HLT1.out
end Go.Proofs.YtdnnkdldolhbpaaGreatDoor
