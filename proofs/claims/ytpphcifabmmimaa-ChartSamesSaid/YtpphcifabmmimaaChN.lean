/-
  ChartOrders: the walk. No condition.
-/
import Derived.Test.YtpphcifabmmimaaChL
import Derived.Test.YtpphcifabmmimaaFlow
namespace Go.Proofs.Ytpphcifabmmimaa
open Go.ChangeShapes Go.WideShapes Go.ChangeAt Go.RowKit

theorem ibeqO {a b : Nat} (h : ¬ a = b) : ((a : Int) == (b : Int)) = false := by rw [beq_eq_false_iff_ne]; omega
theorem nbeqO {a b : Nat} (h : ¬ a = b) : (a == b) = false := by rw [beq_eq_false_iff_ne]; exact h
theorem zbeqO {a b : Int} (h : ¬ a = b) : (a == b) = false := by rw [beq_eq_false_iff_ne]; exact h
theorem lessB_tri {y z : Ky} (h1 : lessB y z = false) (h2 : lessB z y = false) : y = z := by
  obtain ⟨a1, d1, k1, s1⟩ := y
  obtain ⟨a2, d2, k2, s2⟩ := z
  simp only [lessB, Bool.or_eq_false_iff, Bool.and_eq_false_iff, decide_eq_false_iff_not] at h1 h2
  rw [Ky.mk.injEq]
  refine ⟨by omega, by omega, by omega, by omega⟩
theorem lessB_refl (y : Ky) : lessB y y = false := by
  simp [lessB]
def acctA : Array Value := #[.string ⟨#[]⟩, .string ⟨#[99, 97, 115, 104]⟩, .string ⟨#[112, 114, 105, 110, 99, 105, 112, 97, 108]⟩, .string ⟨#[105, 110, 116, 101, 114, 101, 115, 116]⟩, .string ⟨#[102, 101, 101, 115]⟩, .string ⟨#[115, 117, 115, 112, 101, 110, 115, 101]⟩, .string ⟨#[105, 110, 99, 111, 109, 101]⟩, .string ⟨#[99, 104, 97, 114, 103, 101, 115]⟩, .string ⟨#[108, 111, 115, 115]⟩, .string ⟨#[114, 101, 99, 111, 118, 101, 114, 101, 100]⟩, .string ⟨#[]⟩]
def kindA : Array Value := #[.string ⟨#[]⟩, .string ⟨#[98, 111, 97, 114, 100]⟩, .string ⟨#[97, 99, 99, 114, 117, 101]⟩, .string ⟨#[108, 97, 116, 101]⟩, .string ⟨#[112, 97, 121]⟩, .string ⟨#[102, 101, 101]⟩, .string ⟨#[119, 97, 105, 118, 101]⟩, .string ⟨#[111, 102, 102]⟩, .string ⟨#[]⟩]
theorem acctA_at (k : Nat) (h : k ≤ 10) : acctA[k]? = some (.string (acctS k)) := by
  rcases (show k = 0 ∨ k = 1 ∨ k = 2 ∨ k = 3 ∨ k = 4 ∨ k = 5 ∨ k = 6 ∨ k = 7 ∨ k = 8 ∨ k = 9 ∨ k = 10 by omega) with rfl | rfl | rfl | rfl | rfl | rfl | rfl | rfl | rfl | rfl | rfl
  all_goals rfl
theorem kindA_at (k : Nat) (h : k ≤ 8) : kindA[k]? = some (.string (kindS k)) := by
  rcases (show k = 0 ∨ k = 1 ∨ k = 2 ∨ k = 3 ∨ k = 4 ∨ k = 5 ∨ k = 6 ∨ k = 7 ∨ k = 8 by omega) with rfl | rfl | rfl | rfl | rfl | rfl | rfl | rfl | rfl
  all_goals rfl
theorem acctS_high {k : Nat} (h : 10 ≤ k) : acctS k = acctS 10 := by
  unfold acctS
  rw [if_neg (by omega), if_neg (by omega), if_neg (by omega), if_neg (by omega), if_neg (by omega), if_neg (by omega), if_neg (by omega), if_neg (by omega), if_neg (by omega)]
  rfl
theorem kindS_high {k : Nat} (h : 8 ≤ k) : kindS k = kindS 8 := by
  unfold kindS
  rw [if_neg (by omega), if_neg (by omega), if_neg (by omega), if_neg (by omega), if_neg (by omega), if_neg (by omega), if_neg (by omega)]
  rfl
theorem acct_ix (n : Nat) : ∃ j : Nat, j ≤ 10 ∧ (if (10 : Int) < (n : Int) then (10 : Int) else (n : Int)) = (j : Int) ∧ acctS n = acctS j := by
  by_cases h : 10 < n
  · exact ⟨10, Nat.le_refl _, by rw [if_pos (by omega)]; rfl, acctS_high (by omega)⟩
  · exact ⟨n, by omega, if_neg (by omega), rfl⟩
theorem kind_ix (n : Nat) : ∃ j : Nat, j ≤ 8 ∧ (if (8 : Int) < (n : Int) then (8 : Int) else (n : Int)) = (j : Int) ∧ kindS n = kindS j := by
  by_cases h : 8 < n
  · exact ⟨8, Nat.le_refl _, by rw [if_pos (by omega)]; rfl, kindS_high (by omega)⟩
  · exact ⟨n, by omega, if_neg (by omega), rfl⟩
set_option maxRecDepth 100000 in
set_option maxHeartbeats 4000000 in
theorem RLess_any (y z : Ky) (w : World) : Calls Try.prog 17 #[y.v, z.v] w (Ret (.bool (lessB y z)) w) := by
  obtain ⟨a1, d1, k1, s1⟩ := y
  obtain ⟨a2, d2, k2, s2⟩ := z
  unfold Ky.v
  by_cases ea : a1 = a2
  · subst ea
    by_cases ed : d1 = d2
    · subst ed
      by_cases ek : k1 = k2
      · subst ek
        have HQ0 := Lib.hid ((Blk.new w 33 #[.int .u32 (a1 : Int), .int .i32 d1, .int .u8 (k1 : Int), .int .u32 (s1 : Int)]).alloc (.cells #[.int .u32 (a1 : Int), .int .i32 d1, .int .u8 (k1 : Int), .int .u32 (s2 : Int)] 33))
        have HP0 : Hid (Blk ((w.alloc (.cells #[.int .u32 (a1 : Int), .int .i32 d1, .int .u8 (k1 : Int), .int .u32 (s1 : Int)] 33)).alloc (.cells #[.int .u32 (a1 : Int), .int .i32 d1, .int .u8 (k1 : Int), .int .u32 (s2 : Int)] 33)) (w.heap.size + 1) 33 #[.int .u32 (a1 : Int), .int .i32 d1, .int .u8 (k1 : Int), .int .u32 (s2 : Int)]) := Lib.hid (by
          have h := Blk.new (w.alloc (.cells #[.int .u32 (a1 : Int), .int .i32 d1, .int .u8 (k1 : Int), .int .u32 (s1 : Int)] 33)) 33 #[.int .u32 (a1 : Int), .int .i32 d1, .int .u8 (k1 : Int), .int .u32 (s2 : Int)]
          rw [show (w.alloc (.cells #[.int .u32 (a1 : Int), .int .i32 d1, .int .u8 (k1 : Int), .int .u32 (s1 : Int)] 33)).heap.size = w.heap.size + 1 by simp] at h
          exact h)
        have HB0 := Lib.hid ((b_alloc w (.cells #[.int .u32 (a1 : Int), .int .i32 d1, .int .u8 (k1 : Int), .int .u32 (s1 : Int)] 33)).alloc (by simp) (.cells #[.int .u32 (a1 : Int), .int .i32 d1, .int .u8 (k1 : Int), .int .u32 (s2 : Int)] 33))
        obtain ⟨q, hq⟩ : ∃ q, lessB ⟨a1, d1, k1, s1⟩ ⟨ a1, d1, k1, s2⟩ = q := ⟨_, rfl⟩
        rw [hq]
        have HQQ := Lib.hid hq
        clear hq
        go_enter Try.func17, Try.ntmps17
        go_wp2_with fail
        go_ret
        refine ⟨?_, HB0.out⟩
        rw [← HQQ.out]
        simp [lessB]
      · have HQ0 := Lib.hid ((Blk.new w 33 #[.int .u32 (a1 : Int), .int .i32 d1, .int .u8 (k1 : Int), .int .u32 (s1 : Int)]).alloc (.cells #[.int .u32 (a1 : Int), .int .i32 d1, .int .u8 (k2 : Int), .int .u32 (s2 : Int)] 33))
        have HP0 : Hid (Blk ((w.alloc (.cells #[.int .u32 (a1 : Int), .int .i32 d1, .int .u8 (k1 : Int), .int .u32 (s1 : Int)] 33)).alloc (.cells #[.int .u32 (a1 : Int), .int .i32 d1, .int .u8 (k2 : Int), .int .u32 (s2 : Int)] 33)) (w.heap.size + 1) 33 #[.int .u32 (a1 : Int), .int .i32 d1, .int .u8 (k2 : Int), .int .u32 (s2 : Int)]) := Lib.hid (by
          have h := Blk.new (w.alloc (.cells #[.int .u32 (a1 : Int), .int .i32 d1, .int .u8 (k1 : Int), .int .u32 (s1 : Int)] 33)) 33 #[.int .u32 (a1 : Int), .int .i32 d1, .int .u8 (k2 : Int), .int .u32 (s2 : Int)]
          rw [show (w.alloc (.cells #[.int .u32 (a1 : Int), .int .i32 d1, .int .u8 (k1 : Int), .int .u32 (s1 : Int)] 33)).heap.size = w.heap.size + 1 by simp] at h
          exact h)
        have HB0 := Lib.hid ((b_alloc w (.cells #[.int .u32 (a1 : Int), .int .i32 d1, .int .u8 (k1 : Int), .int .u32 (s1 : Int)] 33)).alloc (by simp) (.cells #[.int .u32 (a1 : Int), .int .i32 d1, .int .u8 (k2 : Int), .int .u32 (s2 : Int)] 33))
        have b1 := ibeqO ek
        have b2 := nbeqO ek
        obtain ⟨q, hq⟩ : ∃ q, lessB ⟨a1, d1, k1, s1⟩ ⟨ a1, d1, k2, s2⟩ = q := ⟨_, rfl⟩
        rw [hq]
        have HQQ := Lib.hid hq
        clear hq
        go_enter Try.func17, Try.ntmps17
        go_wp2_with fail
        go_ret
        refine ⟨?_, HB0.out⟩
        rw [← HQQ.out]
        simp [lessB, ek]
    · have HQ0 := Lib.hid ((Blk.new w 33 #[.int .u32 (a1 : Int), .int .i32 d1, .int .u8 (k1 : Int), .int .u32 (s1 : Int)]).alloc (.cells #[.int .u32 (a1 : Int), .int .i32 d2, .int .u8 (k2 : Int), .int .u32 (s2 : Int)] 33))
      have HP0 : Hid (Blk ((w.alloc (.cells #[.int .u32 (a1 : Int), .int .i32 d1, .int .u8 (k1 : Int), .int .u32 (s1 : Int)] 33)).alloc (.cells #[.int .u32 (a1 : Int), .int .i32 d2, .int .u8 (k2 : Int), .int .u32 (s2 : Int)] 33)) (w.heap.size + 1) 33 #[.int .u32 (a1 : Int), .int .i32 d2, .int .u8 (k2 : Int), .int .u32 (s2 : Int)]) := Lib.hid (by
        have h := Blk.new (w.alloc (.cells #[.int .u32 (a1 : Int), .int .i32 d1, .int .u8 (k1 : Int), .int .u32 (s1 : Int)] 33)) 33 #[.int .u32 (a1 : Int), .int .i32 d2, .int .u8 (k2 : Int), .int .u32 (s2 : Int)]
        rw [show (w.alloc (.cells #[.int .u32 (a1 : Int), .int .i32 d1, .int .u8 (k1 : Int), .int .u32 (s1 : Int)] 33)).heap.size = w.heap.size + 1 by simp] at h
        exact h)
      have HB0 := Lib.hid ((b_alloc w (.cells #[.int .u32 (a1 : Int), .int .i32 d1, .int .u8 (k1 : Int), .int .u32 (s1 : Int)] 33)).alloc (by simp) (.cells #[.int .u32 (a1 : Int), .int .i32 d2, .int .u8 (k2 : Int), .int .u32 (s2 : Int)] 33))
      have b1 := zbeqO ed
      obtain ⟨q, hq⟩ : ∃ q, lessB ⟨a1, d1, k1, s1⟩ ⟨ a1, d2, k2, s2⟩ = q := ⟨_, rfl⟩
      rw [hq]
      have HQQ := Lib.hid hq
      clear hq
      go_enter Try.func17, Try.ntmps17
      go_wp2_with fail
      go_ret
      refine ⟨?_, HB0.out⟩
      rw [← HQQ.out]
      simp [lessB, ed]
  · have HQ0 := Lib.hid ((Blk.new w 33 #[.int .u32 (a1 : Int), .int .i32 d1, .int .u8 (k1 : Int), .int .u32 (s1 : Int)]).alloc (.cells #[.int .u32 (a2 : Int), .int .i32 d2, .int .u8 (k2 : Int), .int .u32 (s2 : Int)] 33))
    have HP0 : Hid (Blk ((w.alloc (.cells #[.int .u32 (a1 : Int), .int .i32 d1, .int .u8 (k1 : Int), .int .u32 (s1 : Int)] 33)).alloc (.cells #[.int .u32 (a2 : Int), .int .i32 d2, .int .u8 (k2 : Int), .int .u32 (s2 : Int)] 33)) (w.heap.size + 1) 33 #[.int .u32 (a2 : Int), .int .i32 d2, .int .u8 (k2 : Int), .int .u32 (s2 : Int)]) := Lib.hid (by
      have h := Blk.new (w.alloc (.cells #[.int .u32 (a1 : Int), .int .i32 d1, .int .u8 (k1 : Int), .int .u32 (s1 : Int)] 33)) 33 #[.int .u32 (a2 : Int), .int .i32 d2, .int .u8 (k2 : Int), .int .u32 (s2 : Int)]
      rw [show (w.alloc (.cells #[.int .u32 (a1 : Int), .int .i32 d1, .int .u8 (k1 : Int), .int .u32 (s1 : Int)] 33)).heap.size = w.heap.size + 1 by simp] at h
      exact h)
    have HB0 := Lib.hid ((b_alloc w (.cells #[.int .u32 (a1 : Int), .int .i32 d1, .int .u8 (k1 : Int), .int .u32 (s1 : Int)] 33)).alloc (by simp) (.cells #[.int .u32 (a2 : Int), .int .i32 d2, .int .u8 (k2 : Int), .int .u32 (s2 : Int)] 33))
    have b1 := ibeqO ea
    have b2 := nbeqO ea
    obtain ⟨q, hq⟩ : ∃ q, lessB ⟨a1, d1, k1, s1⟩ ⟨ a2, d2, k2, s2⟩ = q := ⟨_, rfl⟩
    rw [hq]
    have HQQ := Lib.hid hq
    clear hq
    go_enter Try.func17, Try.ntmps17
    go_wp2_with fail
    go_ret
    refine ⟨?_, HB0.out⟩
    rw [← HQQ.out]
    simp [lessB, ea]
theorem same_retO {f : Nat} {args : Array Value} {v : Value} {w : World} (h : Calls Try.prog f args w fun e w' => e = .returned v ∧ w = w') : Calls Try.prog f args w (Ret v w) :=
  h.mono fun e w' ⟨he, hw⟩ => ⟨he, hw ▸ Below.refl _ _⟩
theorem key_load {w : World} {g : Nat} {y : Ky} (h : Blk w g 25 #[.int .u32 (y.a : Int), .int .i32 y.d, .int .u8 (y.k : Int), .int .u32 (y.s : Int)]) : (Instr.loadAt 25 (.pointer (some ⟨g, 0, none⟩))).run Try.prog w = .ok y.v w := by
  have x0 := h.cell 0
  have x1 := h.cell 1
  have x2 := h.cell 2
  have x3 := h.cell 3
  simp at x0 x1 x2 x3
  unfold Ky.v
  go_simp
theorem cell_load {w : World} {g j : Nat} {s : ByteArray} (h : w.cell? ⟨g, j, none⟩ = some (.string s)) : (Instr.loadAt 9 (.pointer (some ⟨g, j, none⟩))).run Try.prog w = .ok (.string s) w := by
  go_simp
theorem key_eqo (y z : Ky) (w : World) (a : Act) (i j : Nat) (e0 : a.eval (.tmp i) = y.v) (e1 : a.eval (.tmp j) = z.v) (dst : Option Tmp) (ty : TypeId) (pos : String) (af : Array Edge) (g : Option (Nat × Bool)) : (execOp a.eval ⟨dst, .binOp .eql 25 (.tmp i) (.tmp j) 25, ty, pos, af, g⟩).run Try.prog w = .ok (.value (.bool (decide (y = z)))) w := by
  obtain ⟨a1, d1, k1, s1⟩ := y
  obtain ⟨a2, d2, k2, s2⟩ := z
  unfold Ky.v at e0 e1
  have t0 := ev_of e0
  have t1 := ev_of e1
  simp [execOp, go_sem, t0, t1]
  by_cases h1 : a1 = a2 <;> by_cases h2 : d1 = d2 <;> by_cases h3 : k1 = k2 <;> by_cases h4 : s1 = s2 <;> simp [h1, h2, h3, h4, Int.ofNat_inj]
set_option maxRecDepth 100000 in
set_option maxHeartbeats 4000000 in
theorem Orders_true (y z : Ky) (r : Bool) (n : Nat) (hn : n < 256) (hp : lessB y z = true) (hr : lessB z y = r) (w : World) :
    Calls Try.prog 4 #[y.v, z.v, .int .u8 (n : Int)] w (Ret (.bool true) w) := by
  obtain ⟨j1, hj1, i1, v1⟩ := acct_ix n
  obtain ⟨j2, hj2, i2, v2⟩ := kind_ix n
  obtain ⟨S1, hS1⟩ : ∃ S, acctS j1 = S := ⟨_, rfl⟩
  obtain ⟨S2, hS2⟩ : ∃ S, kindS j2 = S := ⟨_, rfl⟩
  have hA : ∀ W, Calls Try.prog 18 #[.int .u8 (n : Int)] W (Ret (.string S1) W) := fun W => by
    rw [← hS1, ← v1]
    exact same_retO (Account_any n W)
  have hN : ∀ W, Calls Try.prog 19 #[.int .u8 (n : Int)] W (Ret (.string S2) W) := fun W => by
    rw [← hS2, ← v2]
    exact same_retO (Kind_any n W)
  have hL1 : ∀ W, Calls Try.prog 16 #[y.v, z.v] W (Ret (.bool true) W) := fun W => hp ▸ Less_any13 y z W
  have hL2 : ∀ W, Calls Try.prog 16 #[z.v, y.v] W (Ret (.bool r) W) := fun W => hr ▸ Less_any13 z y W
  have hX : ∀ W, Calls Try.prog 11 #[y.v] W (Ret y.v W) := fun W => Key_any y W
  have hY : ∀ W, Calls Try.prog 11 #[z.v] W (Ret z.v W) := fun W => Key_any z W
  have hR : ∀ W, Calls Try.prog 17 #[y.v, z.v] W (Ret (.bool true) W) := fun W => hp ▸ RLess_any y z W
  have hq : decide (y = z) = false := by
    rw [decide_eq_false_iff_not]; rintro rfl; rw [lessB_refl] at hp; cases hp
  have hE := fun W a i j e0 e1 => key_eqo y z W a i j e0 e1
  rw [hq] at hE
  obtain ⟨V1, hV1⟩ : ∃ V, acctA = V := ⟨_, rfl⟩
  obtain ⟨V2, hV2⟩ : ∃ V, kindA = V := ⟨_, rfl⟩
  have e1 := acctA_at j1 hj1
  have e2 := kindA_at j2 hj2
  rw [hS1] at e1
  rw [hS2] at e2
  clear v1 v2 hp hr hq hS1 hS2
  have HQ0 := Lib.hid ((Blk.new w 25 #[.int .u32 (y.a : Int), .int .i32 y.d, .int .u8 (y.k : Int), .int .u32 (y.s : Int)]).alloc (.cells #[.int .u32 (z.a : Int), .int .i32 z.d, .int .u8 (z.k : Int), .int .u32 (z.s : Int)] 25))
  have HP0 : Hid (Blk ((w.alloc (.cells #[.int .u32 (y.a : Int), .int .i32 y.d, .int .u8 (y.k : Int), .int .u32 (y.s : Int)] 25)).alloc (.cells #[.int .u32 (z.a : Int), .int .i32 z.d, .int .u8 (z.k : Int), .int .u32 (z.s : Int)] 25)) (w.heap.size + 1) 25 #[.int .u32 (z.a : Int), .int .i32 z.d, .int .u8 (z.k : Int), .int .u32 (z.s : Int)]) := Lib.hid (by
    have h := Blk.new (w.alloc (.cells #[.int .u32 (y.a : Int), .int .i32 y.d, .int .u8 (y.k : Int), .int .u32 (y.s : Int)] 25)) 25 #[.int .u32 (z.a : Int), .int .i32 z.d, .int .u8 (z.k : Int), .int .u32 (z.s : Int)]
    rw [show (w.alloc (.cells #[.int .u32 (y.a : Int), .int .i32 y.d, .int .u8 (y.k : Int), .int .u32 (y.s : Int)] 25)).heap.size = w.heap.size + 1 by simp] at h
    exact h)
  have HB0 := Lib.hid ((b_alloc w (.cells #[.int .u32 (y.a : Int), .int .i32 y.d, .int .u8 (y.k : Int), .int .u32 (y.s : Int)] 25)).alloc (by simp) (.cells #[.int .u32 (z.a : Int), .int .i32 z.d, .int .u8 (z.k : Int), .int .u32 (z.s : Int)] 25))
  have HLA := Lib.hid hL1
  have HLM := Lib.hid hL2
  have HXX := Lib.hid hX
  have HYY := Lib.hid hY
  have HRR := Lib.hid hR
  have HAA := Lib.hid hA
  have HNN := Lib.hid hN
  have HEE := Lib.hid hE
  have HE1 := Lib.hid e1
  have HE2 := Lib.hid e2
  have HV1 := Lib.hid hV1
  have HV2 := Lib.hid hV2
  have HI1 := Lib.hid i1
  have HI2 := Lib.hid i2
  clear hL1 hL2 hX hY hR hA hN hE e1 e2 hV1 hV2 i1 i2
  show Calls Try.prog 4 #[.agg #[.int .u32 (y.a : Int), .int .i32 y.d, .int .u8 (y.k : Int), .int .u32 (y.s : Int)], .agg #[.int .u32 (z.a : Int), .int .i32 z.d, .int .u8 (z.k : Int), .int .u32 (z.s : Int)], .int .u8 (n : Int)] w (Ret (.bool true) w)
  go_enter Try.func4, Try.ntmps4
  go_wp2_with fail
  refine (awake13 _).mono ?_
  rintro e w1 ⟨rfl, hb1⟩
  have HB1 := Lib.hid (HB0.out.trans (hb1.mono HB0.out.size))
  have HQ1 := Lib.hid (HQ0.out.below hb1 HQ0.out.lt)
  have HP1 := Lib.hid (HP0.out.below hb1 HP0.out.lt)
  clear hb1 HB0 HQ0 HP0
  go_wp2_with fail
  have HK0 := Lib.hid ((Blk.new w1 9 acctA).alloc (.cells kindA 9))
  have HL0 : Hid (Blk ((w1.alloc (.cells acctA 9)).alloc (.cells kindA 9)) (w1.heap.size + 1) 9 kindA) := Lib.hid (by
    have h := Blk.new (w1.alloc (.cells acctA 9)) 9 kindA
    rw [show (w1.alloc (.cells acctA 9)).heap.size = w1.heap.size + 1 by simp] at h
    exact h)
  have HB2 := Lib.hid ((HB1.out.alloc HB1.out.size (.cells acctA 9)).alloc (HB1.out.alloc HB1.out.size (.cells acctA 9)).size (.cells kindA 9))
  have HQ2 := Lib.hid ((HQ1.out.alloc (.cells acctA 9)).alloc (.cells kindA 9))
  have HP2 := Lib.hid ((HP1.out.alloc (.cells acctA 9)).alloc (.cells kindA 9))
  obtain ⟨W, hW⟩ : ∃ W, (w1.alloc (.cells acctA 9)).alloc (.cells kindA 9) = W := ⟨_, rfl⟩
  rw [hW] at HK0 HL0 HB2 HQ2 HP2
  have hW2 := hW
  unfold acctA kindA at hW2
  rw [hW2]
  clear hW hW2 HB1 HQ1 HP1
  rw [HV1.out] at HK0
  rw [HV2.out] at HL0
  rw [HV1.out] at HE1
  rw [HV2.out] at HE2
  refine wp_region_flow [some 13, some 14, some 15, some 16, some 17, some 18, some 19, some 20, some 21, some 22, some 23, some 24, some 25, some 26, some 27, some 28, some 29, some 30, some 31, some 32, some 33, some 34, some 35, some 36, some 37, some 38, some 39, some 40, some 41, some 42, some 43, some 44, some 45, some 46, some 47, some 48, some 49, some 50, some 51, some 52, some 53, some 54, some 55, some 56, some 57, some 6] (fun i => ([.is (y.v), .is (z.v), .is (.bool true), .is (y.v), .is (y.v), .is (z.v), .is (z.v), .is (.bool true), .is (.bool true), .is (.bool true), .is (y.v), .is (z.v), .is (.bool false), .is (y.v), .is (z.v), .is (.bool true), .is (.bool false), .is (.bool false), .is undef, .is undef, .is undef, .is undef, .is (.bool false), .is (.bool true), .is (.bool true), .is (.bool true), .is (.int .u8 (n : Int)), .is (.string S1), .is (.slice (some ⟨w1.heap.size, 0, none⟩) 11 11), .is (.int .u8 (n : Int)), .is (.int .u8 (j1 : Int)), .is (.pointer (some ⟨w1.heap.size, j1, none⟩)), .is (.string S1), .is (.bool true), .is (.bool true), .is (.bool true), .is (.int .u8 (n : Int)), .is (.string S2), .is (.slice (some ⟨w1.heap.size + 1, 0, none⟩) 9 9), .is (.int .u8 (n : Int)), .is (.int .u8 (j2 : Int)), .is (.pointer (some ⟨w1.heap.size + 1, j2, none⟩)), .is (.string S2), .is (.bool true), .is (.bool true), .is (.bool true)] : List Flw).getD i .any) (by kernel_rfl) (by kernel_rfl) rfl ?_ ?_
  · have hL1 := HLA.out
    have hL2 := HLM.out
    have hX := HXX.out
    have hY := HYY.out
    have hR := HRR.out
    have hA := HAA.out
    have hN := HNN.out
    have hE := HEE.out
    have hM1 : min (n : Int) 10 = (j1 : Int) := by rw [← HI1.out]; split <;> omega
    have hM2 : min (n : Int) 8 = (j2 : Int) := by rw [← HI2.out]; split <;> omega
    have LA : ∀ W', Below W.heap.size W W' → (Instr.loadAt 25 (.pointer (some ⟨w.heap.size, 0, none⟩))).run Try.prog W' = .ok y.v W' := fun W' hb => key_load (HQ2.out.below hb HQ2.out.lt)
    have LB : ∀ W', Below W.heap.size W W' → (Instr.loadAt 25 (.pointer (some ⟨w.heap.size + 1, 0, none⟩))).run Try.prog W' = .ok z.v W' := fun W' hb => key_load (HP2.out.below hb HP2.out.lt)
    have LC : ∀ W', Below W.heap.size W W' → (Instr.loadAt 9 (.pointer (some ⟨w1.heap.size, j1, none⟩))).run Try.prog W' = .ok (.string S1) W' := fun W' hb => cell_load (((HK0.out.below hb HK0.out.lt).cell j1).trans HE1.out)
    have LD : ∀ W', Below W.heap.size W W' → (Instr.loadAt 9 (.pointer (some ⟨w1.heap.size + 1, j2, none⟩))).run Try.prog W' = .ok (.string S2) W' := fun W' hb => cell_load (((HL0.out.below hb HL0.out.lt).cell j2).trans HE2.out)
    clear HLA HLM HXX HYY HRR HAA HNN HEE HE1 HE2 HV1 HV2 HI1 HI2 HB2 HQ2 HP2 HK0 HL0
    refine ⟨step_free rfl (fun aF wF hs hb => ?_), ?_⟩
    · obtain ⟨x0, -⟩ := hs
      have e0 : aF.eval (.tmp 3) = .pointer (some ⟨w.heap.size, 0, none⟩) := x0
      exact opC_load e0 (LA wF hb) ⟨rfl, below_same wF⟩
    refine ⟨step_free rfl (fun aF wF hs hb => ?_), ?_⟩
    · obtain ⟨x0, -⟩ := hs
      have e0 : aF.eval (.tmp 4) = .pointer (some ⟨w.heap.size + 1, 0, none⟩) := x0
      exact opC_load e0 (LB wF hb) ⟨rfl, below_same wF⟩
    refine ⟨step_free rfl (fun aF wF hs hb => ?_), ?_⟩
    · obtain ⟨x0, x1, -⟩ := hs
      have e0 : aF.eval (.tmp 13) = y.v := x0
      have e1 : aF.eval (.tmp 14) = z.v := x1
      exact opC_call (args := #[y.v, z.v]) (enters_of Try.func16 (by kernel_rfl) rfl) (by simp [e0, e1]) (hL1 wF) (fun _ h => ⟨rfl, h⟩)
    refine ⟨step_free rfl (fun aF wF hs hb => ?_), ?_⟩
    · obtain ⟨x0, -⟩ := hs
      have e0 : aF.eval (.tmp 3) = .pointer (some ⟨w.heap.size, 0, none⟩) := x0
      exact opC_load e0 (LA wF hb) ⟨rfl, below_same wF⟩
    refine ⟨step_free rfl (fun aF wF hs hb => ?_), ?_⟩
    · obtain ⟨x0, -⟩ := hs
      have e0 : aF.eval (.tmp 16) = y.v := x0
      exact opC_call (args := #[y.v]) (enters_of Try.func11 (by kernel_rfl) rfl) (by simp [e0]) (hX wF) (fun _ h => ⟨rfl, h⟩)
    refine ⟨step_free rfl (fun aF wF hs hb => ?_), ?_⟩
    · obtain ⟨x0, -⟩ := hs
      have e0 : aF.eval (.tmp 4) = .pointer (some ⟨w.heap.size + 1, 0, none⟩) := x0
      exact opC_load e0 (LB wF hb) ⟨rfl, below_same wF⟩
    refine ⟨step_free rfl (fun aF wF hs hb => ?_), ?_⟩
    · obtain ⟨x0, -⟩ := hs
      have e0 : aF.eval (.tmp 18) = z.v := x0
      exact opC_call (args := #[z.v]) (enters_of Try.func11 (by kernel_rfl) rfl) (by simp [e0]) (hY wF) (fun _ h => ⟨rfl, h⟩)
    refine ⟨step_free rfl (fun aF wF hs hb => ?_), ?_⟩
    · obtain ⟨x0, x1, -⟩ := hs
      have e0 : aF.eval (.tmp 17) = y.v := x0
      have e1 : aF.eval (.tmp 19) = z.v := x1
      exact opC_call (args := #[y.v, z.v]) (enters_of Try.func17 (by kernel_rfl) rfl) (by simp [e0, e1]) (hR wF) (fun _ h => ⟨rfl, h⟩)
    refine ⟨step_free rfl (fun aF wF hs hb => ?_), ?_⟩
    · obtain ⟨x0, x1, -⟩ := hs
      have e0 : aF.eval (.tmp 15) = .bool true := x0
      have e1 : aF.eval (.tmp 20) = .bool true := x1
      refine opC_value (v := .bool true) ?_ ⟨rfl, below_same wF⟩
      have t0 := ev_of e0
      have t1 := ev_of e1
      simp [execOp, go_sem, t0, t1]
    refine ⟨step_free rfl (fun aF wF hs hb => ?_), ?_⟩
    · obtain ⟨x0, -⟩ := hs
      have e0 : aF.eval (.tmp 21) = .bool true := x0
      exact opC_move e0 ⟨rfl, below_same wF⟩
    refine ⟨step_yes 9 22 rfl rfl (fun _ _ h => h) (fun aF wF hs hb => ?_), ?_⟩
    · obtain ⟨x0, -⟩ := hs
      have e0 : aF.eval (.tmp 3) = .pointer (some ⟨w.heap.size, 0, none⟩) := x0
      exact opC_load e0 (LA wF hb) ⟨rfl, below_same wF⟩
    refine ⟨step_yes 9 22 rfl rfl (fun _ _ h => h) (fun aF wF hs hb => ?_), ?_⟩
    · obtain ⟨x0, -⟩ := hs
      have e0 : aF.eval (.tmp 4) = .pointer (some ⟨w.heap.size + 1, 0, none⟩) := x0
      exact opC_load e0 (LB wF hb) ⟨rfl, below_same wF⟩
    refine ⟨step_yes 9 22 rfl rfl (fun _ _ h => h) (fun aF wF hs hb => ?_), ?_⟩
    · obtain ⟨x0, x1, -⟩ := hs
      have e0 : aF.eval (.tmp 23) = y.v := x0
      have e1 : aF.eval (.tmp 24) = z.v := x1
      refine opC_value (v := .bool false) ?_ ⟨rfl, below_same wF⟩
      exact hE wF aF _ _ e0 e1 _ _ _ _ _
    refine ⟨step_yes 9 22 rfl rfl (fun _ _ h => h) (fun aF wF hs hb => ?_), ?_⟩
    · obtain ⟨x0, -⟩ := hs
      have e0 : aF.eval (.tmp 3) = .pointer (some ⟨w.heap.size, 0, none⟩) := x0
      exact opC_load e0 (LA wF hb) ⟨rfl, below_same wF⟩
    refine ⟨step_yes 9 22 rfl rfl (fun _ _ h => h) (fun aF wF hs hb => ?_), ?_⟩
    · obtain ⟨x0, -⟩ := hs
      have e0 : aF.eval (.tmp 4) = .pointer (some ⟨w.heap.size + 1, 0, none⟩) := x0
      exact opC_load e0 (LB wF hb) ⟨rfl, below_same wF⟩
    refine ⟨step_yes 9 22 rfl rfl (fun _ _ h => h) (fun aF wF hs hb => ?_), ?_⟩
    · obtain ⟨x0, x1, -⟩ := hs
      have e0 : aF.eval (.tmp 26) = y.v := x0
      have e1 : aF.eval (.tmp 27) = z.v := x1
      exact opC_call (args := #[y.v, z.v]) (enters_of Try.func16 (by kernel_rfl) rfl) (by simp [e0, e1]) (hL1 wF) (fun _ h => ⟨rfl, h⟩)
    refine ⟨step_yes 9 22 rfl rfl (fun _ _ h => h) (fun aF wF hs hb => ?_), ?_⟩
    · obtain ⟨x0, -⟩ := hs
      have e0 : aF.eval (.tmp 28) = .bool true := x0
      refine opC_value (v := .bool false) ?_ ⟨rfl, below_same wF⟩
      have t0 := ev_of e0
      simp [execOp, go_sem, t0]
    refine ⟨step_yes 9 22 rfl rfl (fun _ _ h => h) (fun aF wF hs hb => ?_), ?_⟩
    · obtain ⟨x0, -⟩ := hs
      have e0 : aF.eval (.tmp 29) = .bool false := x0
      exact opC_move e0 ⟨rfl, below_same wF⟩
    refine ⟨step_no 17 30 rfl rfl (fun _ _ h => h) (fun _ => rfl), ?_⟩
    refine ⟨step_no 17 30 rfl rfl (fun _ _ h => h) (fun _ => rfl), ?_⟩
    refine ⟨step_no 17 30 rfl rfl (fun _ _ h => h) (fun _ => rfl), ?_⟩
    refine ⟨step_no 17 30 rfl rfl (fun _ _ h => h) (fun _ => rfl), ?_⟩
    refine ⟨step_yes 9 22 rfl rfl (fun _ _ h => h) (fun aF wF hs hb => ?_), ?_⟩
    · obtain ⟨x0, x1, -⟩ := hs
      have e0 : aF.eval (.tmp 30) = .bool false := x0
      have e1 : aF.eval (.tmp 34) = undef := x1
      refine opC_value (v := .bool false) ?_ ⟨rfl, below_same wF⟩
      have t0 := ev_of e0
      have t1 := ev_of e1
      simp [execOp, go_sem, t0, t1]
    refine ⟨step_yes 9 22 rfl rfl (fun _ _ h => h) (fun aF wF hs hb => ?_), ?_⟩
    · obtain ⟨x0, x1, -⟩ := hs
      have e0 : aF.eval (.tmp 25) = .bool false := x0
      have e1 : aF.eval (.tmp 35) = .bool false := x1
      refine opC_value (v := .bool true) ?_ ⟨rfl, below_same wF⟩
      have t0 := ev_of e0
      have t1 := ev_of e1
      simp [execOp, go_sem, t0, t1]
    refine ⟨step_free rfl (fun aF wF hs hb => ?_), ?_⟩
    · obtain ⟨x0, x1, -⟩ := hs
      have e0 : aF.eval (.tmp 22) = .bool true := x0
      have e1 : aF.eval (.tmp 36) = .bool true := x1
      refine opC_value (v := .bool true) ?_ ⟨rfl, below_same wF⟩
      have t0 := ev_of e0
      have t1 := ev_of e1
      simp [execOp, go_sem, t0, t1]
    refine ⟨step_free rfl (fun aF wF hs hb => ?_), ?_⟩
    · obtain ⟨x0, -⟩ := hs
      have e0 : aF.eval (.tmp 37) = .bool true := x0
      exact opC_move e0 ⟨rfl, below_same wF⟩
    refine ⟨step_yes 25 38 rfl rfl (fun _ _ h => h) (fun aF wF hs hb => ?_), ?_⟩
    · obtain ⟨x0, -⟩ := hs
      have e0 : aF.eval (.tmp 2) = .int .u8 (n : Int) := x0
      exact opC_move e0 ⟨rfl, below_same wF⟩
    refine ⟨step_yes 25 38 rfl rfl (fun _ _ h => h) (fun aF wF hs hb => ?_), ?_⟩
    · obtain ⟨x0, -⟩ := hs
      have e0 : aF.eval (.tmp 39) = .int .u8 (n : Int) := x0
      exact opC_call (args := #[.int .u8 (n : Int)]) (enters_of Try.func18 (by kernel_rfl) rfl) (by simp [e0]) (hA wF) (fun _ h => ⟨rfl, h⟩)
    refine ⟨step_yes 25 38 rfl rfl (fun _ _ h => h) (fun aF wF hs hb => ?_), ?_⟩
    · obtain ⟨x0, -⟩ := hs
      have e0 : aF.eval (.tmp 7) = .slice (some ⟨w1.heap.size, 0, none⟩) 11 11 := x0
      exact opC_move e0 ⟨rfl, below_same wF⟩
    refine ⟨step_yes 25 38 rfl rfl (fun _ _ h => h) (fun aF wF hs hb => ?_), ?_⟩
    · obtain ⟨x0, -⟩ := hs
      have e0 : aF.eval (.tmp 2) = .int .u8 (n : Int) := x0
      exact opC_move e0 ⟨rfl, below_same wF⟩
    refine ⟨step_yes 25 38 rfl rfl (fun _ _ h => h) (fun aF wF hs hb => ?_), ?_⟩
    · obtain ⟨x0, -⟩ := hs
      have e0 : aF.eval (.tmp 42) = .int .u8 (n : Int) := x0
      refine opC_value (v := .int .u8 (j1 : Int)) ?_ ⟨rfl, below_same wF⟩
      have t0 := ev_of e0
      simp [execOp, go_sem, t0]
      exact hM1
    refine ⟨step_yes 25 38 rfl rfl (fun _ _ h => h) (fun aF wF hs hb => ?_), ?_⟩
    · obtain ⟨x0, x1, -⟩ := hs
      have e0 : aF.eval (.tmp 41) = .slice (some ⟨w1.heap.size, 0, none⟩) 11 11 := x0
      have e1 : aF.eval (.tmp 43) = .int .u8 (j1 : Int) := x1
      refine opC_value (v := .pointer (some ⟨w1.heap.size, j1, none⟩)) ?_ ⟨rfl, below_same wF⟩
      have t0 := ev_of e0
      have t1 := ev_of e1
      simp [execOp, go_sem, t0, t1]
      intro hF
      omega
    refine ⟨step_yes 25 38 rfl rfl (fun _ _ h => h) (fun aF wF hs hb => ?_), ?_⟩
    · obtain ⟨x0, -⟩ := hs
      have e0 : aF.eval (.tmp 44) = .pointer (some ⟨w1.heap.size, j1, none⟩) := x0
      exact opC_load e0 (LC wF hb) ⟨rfl, below_same wF⟩
    refine ⟨step_yes 25 38 rfl rfl (fun _ _ h => h) (fun aF wF hs hb => ?_), ?_⟩
    · obtain ⟨x0, x1, -⟩ := hs
      have e0 : aF.eval (.tmp 40) = .string S1 := x0
      have e1 : aF.eval (.tmp 45) = .string S1 := x1
      refine opC_value (v := .bool true) ?_ ⟨rfl, below_same wF⟩
      have t0 := ev_of e0
      have t1 := ev_of e1
      simp [execOp, go_sem, t0, t1]
    refine ⟨step_free rfl (fun aF wF hs hb => ?_), ?_⟩
    · obtain ⟨x0, x1, -⟩ := hs
      have e0 : aF.eval (.tmp 38) = .bool true := x0
      have e1 : aF.eval (.tmp 46) = .bool true := x1
      refine opC_value (v := .bool true) ?_ ⟨rfl, below_same wF⟩
      have t0 := ev_of e0
      have t1 := ev_of e1
      simp [execOp, go_sem, t0, t1]
    refine ⟨step_free rfl (fun aF wF hs hb => ?_), ?_⟩
    · obtain ⟨x0, -⟩ := hs
      have e0 : aF.eval (.tmp 47) = .bool true := x0
      exact opC_move e0 ⟨rfl, below_same wF⟩
    refine ⟨step_yes 35 48 rfl rfl (fun _ _ h => h) (fun aF wF hs hb => ?_), ?_⟩
    · obtain ⟨x0, -⟩ := hs
      have e0 : aF.eval (.tmp 2) = .int .u8 (n : Int) := x0
      exact opC_move e0 ⟨rfl, below_same wF⟩
    refine ⟨step_yes 35 48 rfl rfl (fun _ _ h => h) (fun aF wF hs hb => ?_), ?_⟩
    · obtain ⟨x0, -⟩ := hs
      have e0 : aF.eval (.tmp 49) = .int .u8 (n : Int) := x0
      exact opC_call (args := #[.int .u8 (n : Int)]) (enters_of Try.func19 (by kernel_rfl) rfl) (by simp [e0]) (hN wF) (fun _ h => ⟨rfl, h⟩)
    refine ⟨step_yes 35 48 rfl rfl (fun _ _ h => h) (fun aF wF hs hb => ?_), ?_⟩
    · obtain ⟨x0, -⟩ := hs
      have e0 : aF.eval (.tmp 8) = .slice (some ⟨w1.heap.size + 1, 0, none⟩) 9 9 := x0
      exact opC_move e0 ⟨rfl, below_same wF⟩
    refine ⟨step_yes 35 48 rfl rfl (fun _ _ h => h) (fun aF wF hs hb => ?_), ?_⟩
    · obtain ⟨x0, -⟩ := hs
      have e0 : aF.eval (.tmp 2) = .int .u8 (n : Int) := x0
      exact opC_move e0 ⟨rfl, below_same wF⟩
    refine ⟨step_yes 35 48 rfl rfl (fun _ _ h => h) (fun aF wF hs hb => ?_), ?_⟩
    · obtain ⟨x0, -⟩ := hs
      have e0 : aF.eval (.tmp 52) = .int .u8 (n : Int) := x0
      refine opC_value (v := .int .u8 (j2 : Int)) ?_ ⟨rfl, below_same wF⟩
      have t0 := ev_of e0
      simp [execOp, go_sem, t0]
      exact hM2
    refine ⟨step_yes 35 48 rfl rfl (fun _ _ h => h) (fun aF wF hs hb => ?_), ?_⟩
    · obtain ⟨x0, x1, -⟩ := hs
      have e0 : aF.eval (.tmp 51) = .slice (some ⟨w1.heap.size + 1, 0, none⟩) 9 9 := x0
      have e1 : aF.eval (.tmp 53) = .int .u8 (j2 : Int) := x1
      refine opC_value (v := .pointer (some ⟨w1.heap.size + 1, j2, none⟩)) ?_ ⟨rfl, below_same wF⟩
      have t0 := ev_of e0
      have t1 := ev_of e1
      simp [execOp, go_sem, t0, t1]
      intro hF
      omega
    refine ⟨step_yes 35 48 rfl rfl (fun _ _ h => h) (fun aF wF hs hb => ?_), ?_⟩
    · obtain ⟨x0, -⟩ := hs
      have e0 : aF.eval (.tmp 54) = .pointer (some ⟨w1.heap.size + 1, j2, none⟩) := x0
      exact opC_load e0 (LD wF hb) ⟨rfl, below_same wF⟩
    refine ⟨step_yes 35 48 rfl rfl (fun _ _ h => h) (fun aF wF hs hb => ?_), ?_⟩
    · obtain ⟨x0, x1, -⟩ := hs
      have e0 : aF.eval (.tmp 50) = .string S2 := x0
      have e1 : aF.eval (.tmp 55) = .string S2 := x1
      refine opC_value (v := .bool true) ?_ ⟨rfl, below_same wF⟩
      have t0 := ev_of e0
      have t1 := ev_of e1
      simp [execOp, go_sem, t0, t1]
    refine ⟨step_free rfl (fun aF wF hs hb => ?_), ?_⟩
    · obtain ⟨x0, x1, -⟩ := hs
      have e0 : aF.eval (.tmp 48) = .bool true := x0
      have e1 : aF.eval (.tmp 56) = .bool true := x1
      refine opC_value (v := .bool true) ?_ ⟨rfl, below_same wF⟩
      have t0 := ev_of e0
      have t1 := ev_of e1
      simp [execOp, go_sem, t0, t1]
    refine ⟨step_free rfl (fun aF wF hs hb => ?_), ?_⟩
    · obtain ⟨x0, -⟩ := hs
      have e0 : aF.eval (.tmp 57) = .bool true := x0
      exact opC_assign e0 ⟨rfl, below_same wF⟩
    exact trivial
  · intro f w5 hf hb5
    have h6 := hf 45 6 rfl
    change f 45 = .bool true at h6
    have HB5 := Lib.hid (HB2.out.trans (hb5.mono HB2.out.size))
    simp only [putF, Act.put, List.setIfInBounds_toArray, List.set_cons_zero, List.set_cons_succ]
    rw [h6]
    clear h6 hf hb5
    go_wp2_with fail
    go_ret
    exact ⟨by first | rfl | simp, HB5.out⟩
set_option maxRecDepth 100000 in
set_option maxHeartbeats 4000000 in
theorem Orders_false (y z : Ky) (r : Bool) (n : Nat) (hn : n < 256) (hp : lessB y z = false) (hr : lessB z y = r) (w : World) :
    Calls Try.prog 4 #[y.v, z.v, .int .u8 (n : Int)] w (Ret (.bool true) w) := by
  obtain ⟨j1, hj1, i1, v1⟩ := acct_ix n
  obtain ⟨j2, hj2, i2, v2⟩ := kind_ix n
  obtain ⟨S1, hS1⟩ : ∃ S, acctS j1 = S := ⟨_, rfl⟩
  obtain ⟨S2, hS2⟩ : ∃ S, kindS j2 = S := ⟨_, rfl⟩
  have hA : ∀ W, Calls Try.prog 18 #[.int .u8 (n : Int)] W (Ret (.string S1) W) := fun W => by
    rw [← hS1, ← v1]
    exact same_retO (Account_any n W)
  have hN : ∀ W, Calls Try.prog 19 #[.int .u8 (n : Int)] W (Ret (.string S2) W) := fun W => by
    rw [← hS2, ← v2]
    exact same_retO (Kind_any n W)
  have hL1 : ∀ W, Calls Try.prog 16 #[y.v, z.v] W (Ret (.bool false) W) := fun W => hp ▸ Less_any13 y z W
  have hL2 : ∀ W, Calls Try.prog 16 #[z.v, y.v] W (Ret (.bool r) W) := fun W => hr ▸ Less_any13 z y W
  have hX : ∀ W, Calls Try.prog 11 #[y.v] W (Ret y.v W) := fun W => Key_any y W
  have hY : ∀ W, Calls Try.prog 11 #[z.v] W (Ret z.v W) := fun W => Key_any z W
  have hR : ∀ W, Calls Try.prog 17 #[y.v, z.v] W (Ret (.bool false) W) := fun W => hp ▸ RLess_any y z W
  have hq : decide (y = z) = !r := by
    cases r
    · exact decide_eq_true (lessB_tri hp hr)
    · rw [Bool.not_true, decide_eq_false_iff_not]; rintro rfl; rw [hp] at hr; cases hr
  have hE := fun W a i j e0 e1 => key_eqo y z W a i j e0 e1
  rw [hq] at hE
  obtain ⟨V1, hV1⟩ : ∃ V, acctA = V := ⟨_, rfl⟩
  obtain ⟨V2, hV2⟩ : ∃ V, kindA = V := ⟨_, rfl⟩
  have e1 := acctA_at j1 hj1
  have e2 := kindA_at j2 hj2
  rw [hS1] at e1
  rw [hS2] at e2
  clear v1 v2 hp hr hq hS1 hS2
  have HQ0 := Lib.hid ((Blk.new w 25 #[.int .u32 (y.a : Int), .int .i32 y.d, .int .u8 (y.k : Int), .int .u32 (y.s : Int)]).alloc (.cells #[.int .u32 (z.a : Int), .int .i32 z.d, .int .u8 (z.k : Int), .int .u32 (z.s : Int)] 25))
  have HP0 : Hid (Blk ((w.alloc (.cells #[.int .u32 (y.a : Int), .int .i32 y.d, .int .u8 (y.k : Int), .int .u32 (y.s : Int)] 25)).alloc (.cells #[.int .u32 (z.a : Int), .int .i32 z.d, .int .u8 (z.k : Int), .int .u32 (z.s : Int)] 25)) (w.heap.size + 1) 25 #[.int .u32 (z.a : Int), .int .i32 z.d, .int .u8 (z.k : Int), .int .u32 (z.s : Int)]) := Lib.hid (by
    have h := Blk.new (w.alloc (.cells #[.int .u32 (y.a : Int), .int .i32 y.d, .int .u8 (y.k : Int), .int .u32 (y.s : Int)] 25)) 25 #[.int .u32 (z.a : Int), .int .i32 z.d, .int .u8 (z.k : Int), .int .u32 (z.s : Int)]
    rw [show (w.alloc (.cells #[.int .u32 (y.a : Int), .int .i32 y.d, .int .u8 (y.k : Int), .int .u32 (y.s : Int)] 25)).heap.size = w.heap.size + 1 by simp] at h
    exact h)
  have HB0 := Lib.hid ((b_alloc w (.cells #[.int .u32 (y.a : Int), .int .i32 y.d, .int .u8 (y.k : Int), .int .u32 (y.s : Int)] 25)).alloc (by simp) (.cells #[.int .u32 (z.a : Int), .int .i32 z.d, .int .u8 (z.k : Int), .int .u32 (z.s : Int)] 25))
  have HLA := Lib.hid hL1
  have HLM := Lib.hid hL2
  have HXX := Lib.hid hX
  have HYY := Lib.hid hY
  have HRR := Lib.hid hR
  have HAA := Lib.hid hA
  have HNN := Lib.hid hN
  have HEE := Lib.hid hE
  have HE1 := Lib.hid e1
  have HE2 := Lib.hid e2
  have HV1 := Lib.hid hV1
  have HV2 := Lib.hid hV2
  have HI1 := Lib.hid i1
  have HI2 := Lib.hid i2
  clear hL1 hL2 hX hY hR hA hN hE e1 e2 hV1 hV2 i1 i2
  show Calls Try.prog 4 #[.agg #[.int .u32 (y.a : Int), .int .i32 y.d, .int .u8 (y.k : Int), .int .u32 (y.s : Int)], .agg #[.int .u32 (z.a : Int), .int .i32 z.d, .int .u8 (z.k : Int), .int .u32 (z.s : Int)], .int .u8 (n : Int)] w (Ret (.bool true) w)
  go_enter Try.func4, Try.ntmps4
  go_wp2_with fail
  refine (awake13 _).mono ?_
  rintro e w1 ⟨rfl, hb1⟩
  have HB1 := Lib.hid (HB0.out.trans (hb1.mono HB0.out.size))
  have HQ1 := Lib.hid (HQ0.out.below hb1 HQ0.out.lt)
  have HP1 := Lib.hid (HP0.out.below hb1 HP0.out.lt)
  clear hb1 HB0 HQ0 HP0
  go_wp2_with fail
  have HK0 := Lib.hid ((Blk.new w1 9 acctA).alloc (.cells kindA 9))
  have HL0 : Hid (Blk ((w1.alloc (.cells acctA 9)).alloc (.cells kindA 9)) (w1.heap.size + 1) 9 kindA) := Lib.hid (by
    have h := Blk.new (w1.alloc (.cells acctA 9)) 9 kindA
    rw [show (w1.alloc (.cells acctA 9)).heap.size = w1.heap.size + 1 by simp] at h
    exact h)
  have HB2 := Lib.hid ((HB1.out.alloc HB1.out.size (.cells acctA 9)).alloc (HB1.out.alloc HB1.out.size (.cells acctA 9)).size (.cells kindA 9))
  have HQ2 := Lib.hid ((HQ1.out.alloc (.cells acctA 9)).alloc (.cells kindA 9))
  have HP2 := Lib.hid ((HP1.out.alloc (.cells acctA 9)).alloc (.cells kindA 9))
  obtain ⟨W, hW⟩ : ∃ W, (w1.alloc (.cells acctA 9)).alloc (.cells kindA 9) = W := ⟨_, rfl⟩
  rw [hW] at HK0 HL0 HB2 HQ2 HP2
  have hW2 := hW
  unfold acctA kindA at hW2
  rw [hW2]
  clear hW hW2 HB1 HQ1 HP1
  rw [HV1.out] at HK0
  rw [HV2.out] at HL0
  rw [HV1.out] at HE1
  rw [HV2.out] at HE2
  refine wp_region_flow [some 13, some 14, some 15, some 16, some 17, some 18, some 19, some 20, some 21, some 22, some 23, some 24, some 25, some 26, some 27, some 28, some 29, some 30, some 31, some 32, some 33, some 34, some 35, some 36, some 37, some 38, some 39, some 40, some 41, some 42, some 43, some 44, some 45, some 46, some 47, some 48, some 49, some 50, some 51, some 52, some 53, some 54, some 55, some 56, some 57, some 6] (fun i => ([.is (y.v), .is (z.v), .is (.bool false), .is (y.v), .is (y.v), .is (z.v), .is (z.v), .is (.bool false), .is (.bool true), .is (.bool true), .is (y.v), .is (z.v), .is (.bool (!r)), .is (y.v), .is (z.v), .is (.bool false), .is (.bool true), .is (.bool true), .is (z.v), .is (y.v), .is (.bool r), .is (.bool (!r)), .is (.bool (!r)), .is (.bool true), .is (.bool true), .is (.bool true), .is (.int .u8 (n : Int)), .is (.string S1), .is (.slice (some ⟨w1.heap.size, 0, none⟩) 11 11), .is (.int .u8 (n : Int)), .is (.int .u8 (j1 : Int)), .is (.pointer (some ⟨w1.heap.size, j1, none⟩)), .is (.string S1), .is (.bool true), .is (.bool true), .is (.bool true), .is (.int .u8 (n : Int)), .is (.string S2), .is (.slice (some ⟨w1.heap.size + 1, 0, none⟩) 9 9), .is (.int .u8 (n : Int)), .is (.int .u8 (j2 : Int)), .is (.pointer (some ⟨w1.heap.size + 1, j2, none⟩)), .is (.string S2), .is (.bool true), .is (.bool true), .is (.bool true)] : List Flw).getD i .any) (by kernel_rfl) (by kernel_rfl) rfl ?_ ?_
  · have hL1 := HLA.out
    have hL2 := HLM.out
    have hX := HXX.out
    have hY := HYY.out
    have hR := HRR.out
    have hA := HAA.out
    have hN := HNN.out
    have hE := HEE.out
    have hM1 : min (n : Int) 10 = (j1 : Int) := by rw [← HI1.out]; split <;> omega
    have hM2 : min (n : Int) 8 = (j2 : Int) := by rw [← HI2.out]; split <;> omega
    have LA : ∀ W', Below W.heap.size W W' → (Instr.loadAt 25 (.pointer (some ⟨w.heap.size, 0, none⟩))).run Try.prog W' = .ok y.v W' := fun W' hb => key_load (HQ2.out.below hb HQ2.out.lt)
    have LB : ∀ W', Below W.heap.size W W' → (Instr.loadAt 25 (.pointer (some ⟨w.heap.size + 1, 0, none⟩))).run Try.prog W' = .ok z.v W' := fun W' hb => key_load (HP2.out.below hb HP2.out.lt)
    have LC : ∀ W', Below W.heap.size W W' → (Instr.loadAt 9 (.pointer (some ⟨w1.heap.size, j1, none⟩))).run Try.prog W' = .ok (.string S1) W' := fun W' hb => cell_load (((HK0.out.below hb HK0.out.lt).cell j1).trans HE1.out)
    have LD : ∀ W', Below W.heap.size W W' → (Instr.loadAt 9 (.pointer (some ⟨w1.heap.size + 1, j2, none⟩))).run Try.prog W' = .ok (.string S2) W' := fun W' hb => cell_load (((HL0.out.below hb HL0.out.lt).cell j2).trans HE2.out)
    clear HLA HLM HXX HYY HRR HAA HNN HEE HE1 HE2 HV1 HV2 HI1 HI2 HB2 HQ2 HP2 HK0 HL0
    refine ⟨step_free rfl (fun aF wF hs hb => ?_), ?_⟩
    · obtain ⟨x0, -⟩ := hs
      have e0 : aF.eval (.tmp 3) = .pointer (some ⟨w.heap.size, 0, none⟩) := x0
      exact opC_load e0 (LA wF hb) ⟨rfl, below_same wF⟩
    refine ⟨step_free rfl (fun aF wF hs hb => ?_), ?_⟩
    · obtain ⟨x0, -⟩ := hs
      have e0 : aF.eval (.tmp 4) = .pointer (some ⟨w.heap.size + 1, 0, none⟩) := x0
      exact opC_load e0 (LB wF hb) ⟨rfl, below_same wF⟩
    refine ⟨step_free rfl (fun aF wF hs hb => ?_), ?_⟩
    · obtain ⟨x0, x1, -⟩ := hs
      have e0 : aF.eval (.tmp 13) = y.v := x0
      have e1 : aF.eval (.tmp 14) = z.v := x1
      exact opC_call (args := #[y.v, z.v]) (enters_of Try.func16 (by kernel_rfl) rfl) (by simp [e0, e1]) (hL1 wF) (fun _ h => ⟨rfl, h⟩)
    refine ⟨step_free rfl (fun aF wF hs hb => ?_), ?_⟩
    · obtain ⟨x0, -⟩ := hs
      have e0 : aF.eval (.tmp 3) = .pointer (some ⟨w.heap.size, 0, none⟩) := x0
      exact opC_load e0 (LA wF hb) ⟨rfl, below_same wF⟩
    refine ⟨step_free rfl (fun aF wF hs hb => ?_), ?_⟩
    · obtain ⟨x0, -⟩ := hs
      have e0 : aF.eval (.tmp 16) = y.v := x0
      exact opC_call (args := #[y.v]) (enters_of Try.func11 (by kernel_rfl) rfl) (by simp [e0]) (hX wF) (fun _ h => ⟨rfl, h⟩)
    refine ⟨step_free rfl (fun aF wF hs hb => ?_), ?_⟩
    · obtain ⟨x0, -⟩ := hs
      have e0 : aF.eval (.tmp 4) = .pointer (some ⟨w.heap.size + 1, 0, none⟩) := x0
      exact opC_load e0 (LB wF hb) ⟨rfl, below_same wF⟩
    refine ⟨step_free rfl (fun aF wF hs hb => ?_), ?_⟩
    · obtain ⟨x0, -⟩ := hs
      have e0 : aF.eval (.tmp 18) = z.v := x0
      exact opC_call (args := #[z.v]) (enters_of Try.func11 (by kernel_rfl) rfl) (by simp [e0]) (hY wF) (fun _ h => ⟨rfl, h⟩)
    refine ⟨step_free rfl (fun aF wF hs hb => ?_), ?_⟩
    · obtain ⟨x0, x1, -⟩ := hs
      have e0 : aF.eval (.tmp 17) = y.v := x0
      have e1 : aF.eval (.tmp 19) = z.v := x1
      exact opC_call (args := #[y.v, z.v]) (enters_of Try.func17 (by kernel_rfl) rfl) (by simp [e0, e1]) (hR wF) (fun _ h => ⟨rfl, h⟩)
    refine ⟨step_free rfl (fun aF wF hs hb => ?_), ?_⟩
    · obtain ⟨x0, x1, -⟩ := hs
      have e0 : aF.eval (.tmp 15) = .bool false := x0
      have e1 : aF.eval (.tmp 20) = .bool false := x1
      refine opC_value (v := .bool true) ?_ ⟨rfl, below_same wF⟩
      have t0 := ev_of e0
      have t1 := ev_of e1
      simp [execOp, go_sem, t0, t1]
    refine ⟨step_free rfl (fun aF wF hs hb => ?_), ?_⟩
    · obtain ⟨x0, -⟩ := hs
      have e0 : aF.eval (.tmp 21) = .bool true := x0
      exact opC_move e0 ⟨rfl, below_same wF⟩
    refine ⟨step_yes 9 22 rfl rfl (fun _ _ h => h) (fun aF wF hs hb => ?_), ?_⟩
    · obtain ⟨x0, -⟩ := hs
      have e0 : aF.eval (.tmp 3) = .pointer (some ⟨w.heap.size, 0, none⟩) := x0
      exact opC_load e0 (LA wF hb) ⟨rfl, below_same wF⟩
    refine ⟨step_yes 9 22 rfl rfl (fun _ _ h => h) (fun aF wF hs hb => ?_), ?_⟩
    · obtain ⟨x0, -⟩ := hs
      have e0 : aF.eval (.tmp 4) = .pointer (some ⟨w.heap.size + 1, 0, none⟩) := x0
      exact opC_load e0 (LB wF hb) ⟨rfl, below_same wF⟩
    refine ⟨step_yes 9 22 rfl rfl (fun _ _ h => h) (fun aF wF hs hb => ?_), ?_⟩
    · obtain ⟨x0, x1, -⟩ := hs
      have e0 : aF.eval (.tmp 23) = y.v := x0
      have e1 : aF.eval (.tmp 24) = z.v := x1
      refine opC_value (v := .bool (!r)) ?_ ⟨rfl, below_same wF⟩
      exact hE wF aF _ _ e0 e1 _ _ _ _ _
    refine ⟨step_yes 9 22 rfl rfl (fun _ _ h => h) (fun aF wF hs hb => ?_), ?_⟩
    · obtain ⟨x0, -⟩ := hs
      have e0 : aF.eval (.tmp 3) = .pointer (some ⟨w.heap.size, 0, none⟩) := x0
      exact opC_load e0 (LA wF hb) ⟨rfl, below_same wF⟩
    refine ⟨step_yes 9 22 rfl rfl (fun _ _ h => h) (fun aF wF hs hb => ?_), ?_⟩
    · obtain ⟨x0, -⟩ := hs
      have e0 : aF.eval (.tmp 4) = .pointer (some ⟨w.heap.size + 1, 0, none⟩) := x0
      exact opC_load e0 (LB wF hb) ⟨rfl, below_same wF⟩
    refine ⟨step_yes 9 22 rfl rfl (fun _ _ h => h) (fun aF wF hs hb => ?_), ?_⟩
    · obtain ⟨x0, x1, -⟩ := hs
      have e0 : aF.eval (.tmp 26) = y.v := x0
      have e1 : aF.eval (.tmp 27) = z.v := x1
      exact opC_call (args := #[y.v, z.v]) (enters_of Try.func16 (by kernel_rfl) rfl) (by simp [e0, e1]) (hL1 wF) (fun _ h => ⟨rfl, h⟩)
    refine ⟨step_yes 9 22 rfl rfl (fun _ _ h => h) (fun aF wF hs hb => ?_), ?_⟩
    · obtain ⟨x0, -⟩ := hs
      have e0 : aF.eval (.tmp 28) = .bool false := x0
      refine opC_value (v := .bool true) ?_ ⟨rfl, below_same wF⟩
      have t0 := ev_of e0
      simp [execOp, go_sem, t0]
    refine ⟨step_yes 9 22 rfl rfl (fun _ _ h => h) (fun aF wF hs hb => ?_), ?_⟩
    · obtain ⟨x0, -⟩ := hs
      have e0 : aF.eval (.tmp 29) = .bool true := x0
      exact opC_move e0 ⟨rfl, below_same wF⟩
    refine ⟨step_yes 17 30 rfl rfl (fun _ _ h => h) (fun aF wF hs hb => ?_), ?_⟩
    · obtain ⟨x0, -⟩ := hs
      have e0 : aF.eval (.tmp 4) = .pointer (some ⟨w.heap.size + 1, 0, none⟩) := x0
      exact opC_load e0 (LB wF hb) ⟨rfl, below_same wF⟩
    refine ⟨step_yes 17 30 rfl rfl (fun _ _ h => h) (fun aF wF hs hb => ?_), ?_⟩
    · obtain ⟨x0, -⟩ := hs
      have e0 : aF.eval (.tmp 3) = .pointer (some ⟨w.heap.size, 0, none⟩) := x0
      exact opC_load e0 (LA wF hb) ⟨rfl, below_same wF⟩
    refine ⟨step_yes 17 30 rfl rfl (fun _ _ h => h) (fun aF wF hs hb => ?_), ?_⟩
    · obtain ⟨x0, x1, -⟩ := hs
      have e0 : aF.eval (.tmp 31) = z.v := x0
      have e1 : aF.eval (.tmp 32) = y.v := x1
      exact opC_call (args := #[z.v, y.v]) (enters_of Try.func16 (by kernel_rfl) rfl) (by simp [e0, e1]) (hL2 wF) (fun _ h => ⟨rfl, h⟩)
    refine ⟨step_yes 17 30 rfl rfl (fun _ _ h => h) (fun aF wF hs hb => ?_), ?_⟩
    · obtain ⟨x0, -⟩ := hs
      have e0 : aF.eval (.tmp 33) = .bool r := x0
      refine opC_value (v := .bool (!r)) ?_ ⟨rfl, below_same wF⟩
      have t0 := ev_of e0
      simp [execOp, go_sem, t0]
    refine ⟨step_yes 9 22 rfl rfl (fun _ _ h => h) (fun aF wF hs hb => ?_), ?_⟩
    · obtain ⟨x0, x1, -⟩ := hs
      have e0 : aF.eval (.tmp 30) = .bool true := x0
      have e1 : aF.eval (.tmp 34) = .bool (!r) := x1
      refine opC_value (v := .bool (!r)) ?_ ⟨rfl, below_same wF⟩
      have t0 := ev_of e0
      have t1 := ev_of e1
      simp [execOp, go_sem, t0, t1]
    refine ⟨step_yes 9 22 rfl rfl (fun _ _ h => h) (fun aF wF hs hb => ?_), ?_⟩
    · obtain ⟨x0, x1, -⟩ := hs
      have e0 : aF.eval (.tmp 25) = .bool (!r) := x0
      have e1 : aF.eval (.tmp 35) = .bool (!r) := x1
      refine opC_value (v := .bool true) ?_ ⟨rfl, below_same wF⟩
      have t0 := ev_of e0
      have t1 := ev_of e1
      simp [execOp, go_sem, t0, t1]
    refine ⟨step_free rfl (fun aF wF hs hb => ?_), ?_⟩
    · obtain ⟨x0, x1, -⟩ := hs
      have e0 : aF.eval (.tmp 22) = .bool true := x0
      have e1 : aF.eval (.tmp 36) = .bool true := x1
      refine opC_value (v := .bool true) ?_ ⟨rfl, below_same wF⟩
      have t0 := ev_of e0
      have t1 := ev_of e1
      simp [execOp, go_sem, t0, t1]
    refine ⟨step_free rfl (fun aF wF hs hb => ?_), ?_⟩
    · obtain ⟨x0, -⟩ := hs
      have e0 : aF.eval (.tmp 37) = .bool true := x0
      exact opC_move e0 ⟨rfl, below_same wF⟩
    refine ⟨step_yes 25 38 rfl rfl (fun _ _ h => h) (fun aF wF hs hb => ?_), ?_⟩
    · obtain ⟨x0, -⟩ := hs
      have e0 : aF.eval (.tmp 2) = .int .u8 (n : Int) := x0
      exact opC_move e0 ⟨rfl, below_same wF⟩
    refine ⟨step_yes 25 38 rfl rfl (fun _ _ h => h) (fun aF wF hs hb => ?_), ?_⟩
    · obtain ⟨x0, -⟩ := hs
      have e0 : aF.eval (.tmp 39) = .int .u8 (n : Int) := x0
      exact opC_call (args := #[.int .u8 (n : Int)]) (enters_of Try.func18 (by kernel_rfl) rfl) (by simp [e0]) (hA wF) (fun _ h => ⟨rfl, h⟩)
    refine ⟨step_yes 25 38 rfl rfl (fun _ _ h => h) (fun aF wF hs hb => ?_), ?_⟩
    · obtain ⟨x0, -⟩ := hs
      have e0 : aF.eval (.tmp 7) = .slice (some ⟨w1.heap.size, 0, none⟩) 11 11 := x0
      exact opC_move e0 ⟨rfl, below_same wF⟩
    refine ⟨step_yes 25 38 rfl rfl (fun _ _ h => h) (fun aF wF hs hb => ?_), ?_⟩
    · obtain ⟨x0, -⟩ := hs
      have e0 : aF.eval (.tmp 2) = .int .u8 (n : Int) := x0
      exact opC_move e0 ⟨rfl, below_same wF⟩
    refine ⟨step_yes 25 38 rfl rfl (fun _ _ h => h) (fun aF wF hs hb => ?_), ?_⟩
    · obtain ⟨x0, -⟩ := hs
      have e0 : aF.eval (.tmp 42) = .int .u8 (n : Int) := x0
      refine opC_value (v := .int .u8 (j1 : Int)) ?_ ⟨rfl, below_same wF⟩
      have t0 := ev_of e0
      simp [execOp, go_sem, t0]
      exact hM1
    refine ⟨step_yes 25 38 rfl rfl (fun _ _ h => h) (fun aF wF hs hb => ?_), ?_⟩
    · obtain ⟨x0, x1, -⟩ := hs
      have e0 : aF.eval (.tmp 41) = .slice (some ⟨w1.heap.size, 0, none⟩) 11 11 := x0
      have e1 : aF.eval (.tmp 43) = .int .u8 (j1 : Int) := x1
      refine opC_value (v := .pointer (some ⟨w1.heap.size, j1, none⟩)) ?_ ⟨rfl, below_same wF⟩
      have t0 := ev_of e0
      have t1 := ev_of e1
      simp [execOp, go_sem, t0, t1]
      intro hF
      omega
    refine ⟨step_yes 25 38 rfl rfl (fun _ _ h => h) (fun aF wF hs hb => ?_), ?_⟩
    · obtain ⟨x0, -⟩ := hs
      have e0 : aF.eval (.tmp 44) = .pointer (some ⟨w1.heap.size, j1, none⟩) := x0
      exact opC_load e0 (LC wF hb) ⟨rfl, below_same wF⟩
    refine ⟨step_yes 25 38 rfl rfl (fun _ _ h => h) (fun aF wF hs hb => ?_), ?_⟩
    · obtain ⟨x0, x1, -⟩ := hs
      have e0 : aF.eval (.tmp 40) = .string S1 := x0
      have e1 : aF.eval (.tmp 45) = .string S1 := x1
      refine opC_value (v := .bool true) ?_ ⟨rfl, below_same wF⟩
      have t0 := ev_of e0
      have t1 := ev_of e1
      simp [execOp, go_sem, t0, t1]
    refine ⟨step_free rfl (fun aF wF hs hb => ?_), ?_⟩
    · obtain ⟨x0, x1, -⟩ := hs
      have e0 : aF.eval (.tmp 38) = .bool true := x0
      have e1 : aF.eval (.tmp 46) = .bool true := x1
      refine opC_value (v := .bool true) ?_ ⟨rfl, below_same wF⟩
      have t0 := ev_of e0
      have t1 := ev_of e1
      simp [execOp, go_sem, t0, t1]
    refine ⟨step_free rfl (fun aF wF hs hb => ?_), ?_⟩
    · obtain ⟨x0, -⟩ := hs
      have e0 : aF.eval (.tmp 47) = .bool true := x0
      exact opC_move e0 ⟨rfl, below_same wF⟩
    refine ⟨step_yes 35 48 rfl rfl (fun _ _ h => h) (fun aF wF hs hb => ?_), ?_⟩
    · obtain ⟨x0, -⟩ := hs
      have e0 : aF.eval (.tmp 2) = .int .u8 (n : Int) := x0
      exact opC_move e0 ⟨rfl, below_same wF⟩
    refine ⟨step_yes 35 48 rfl rfl (fun _ _ h => h) (fun aF wF hs hb => ?_), ?_⟩
    · obtain ⟨x0, -⟩ := hs
      have e0 : aF.eval (.tmp 49) = .int .u8 (n : Int) := x0
      exact opC_call (args := #[.int .u8 (n : Int)]) (enters_of Try.func19 (by kernel_rfl) rfl) (by simp [e0]) (hN wF) (fun _ h => ⟨rfl, h⟩)
    refine ⟨step_yes 35 48 rfl rfl (fun _ _ h => h) (fun aF wF hs hb => ?_), ?_⟩
    · obtain ⟨x0, -⟩ := hs
      have e0 : aF.eval (.tmp 8) = .slice (some ⟨w1.heap.size + 1, 0, none⟩) 9 9 := x0
      exact opC_move e0 ⟨rfl, below_same wF⟩
    refine ⟨step_yes 35 48 rfl rfl (fun _ _ h => h) (fun aF wF hs hb => ?_), ?_⟩
    · obtain ⟨x0, -⟩ := hs
      have e0 : aF.eval (.tmp 2) = .int .u8 (n : Int) := x0
      exact opC_move e0 ⟨rfl, below_same wF⟩
    refine ⟨step_yes 35 48 rfl rfl (fun _ _ h => h) (fun aF wF hs hb => ?_), ?_⟩
    · obtain ⟨x0, -⟩ := hs
      have e0 : aF.eval (.tmp 52) = .int .u8 (n : Int) := x0
      refine opC_value (v := .int .u8 (j2 : Int)) ?_ ⟨rfl, below_same wF⟩
      have t0 := ev_of e0
      simp [execOp, go_sem, t0]
      exact hM2
    refine ⟨step_yes 35 48 rfl rfl (fun _ _ h => h) (fun aF wF hs hb => ?_), ?_⟩
    · obtain ⟨x0, x1, -⟩ := hs
      have e0 : aF.eval (.tmp 51) = .slice (some ⟨w1.heap.size + 1, 0, none⟩) 9 9 := x0
      have e1 : aF.eval (.tmp 53) = .int .u8 (j2 : Int) := x1
      refine opC_value (v := .pointer (some ⟨w1.heap.size + 1, j2, none⟩)) ?_ ⟨rfl, below_same wF⟩
      have t0 := ev_of e0
      have t1 := ev_of e1
      simp [execOp, go_sem, t0, t1]
      intro hF
      omega
    refine ⟨step_yes 35 48 rfl rfl (fun _ _ h => h) (fun aF wF hs hb => ?_), ?_⟩
    · obtain ⟨x0, -⟩ := hs
      have e0 : aF.eval (.tmp 54) = .pointer (some ⟨w1.heap.size + 1, j2, none⟩) := x0
      exact opC_load e0 (LD wF hb) ⟨rfl, below_same wF⟩
    refine ⟨step_yes 35 48 rfl rfl (fun _ _ h => h) (fun aF wF hs hb => ?_), ?_⟩
    · obtain ⟨x0, x1, -⟩ := hs
      have e0 : aF.eval (.tmp 50) = .string S2 := x0
      have e1 : aF.eval (.tmp 55) = .string S2 := x1
      refine opC_value (v := .bool true) ?_ ⟨rfl, below_same wF⟩
      have t0 := ev_of e0
      have t1 := ev_of e1
      simp [execOp, go_sem, t0, t1]
    refine ⟨step_free rfl (fun aF wF hs hb => ?_), ?_⟩
    · obtain ⟨x0, x1, -⟩ := hs
      have e0 : aF.eval (.tmp 48) = .bool true := x0
      have e1 : aF.eval (.tmp 56) = .bool true := x1
      refine opC_value (v := .bool true) ?_ ⟨rfl, below_same wF⟩
      have t0 := ev_of e0
      have t1 := ev_of e1
      simp [execOp, go_sem, t0, t1]
    refine ⟨step_free rfl (fun aF wF hs hb => ?_), ?_⟩
    · obtain ⟨x0, -⟩ := hs
      have e0 : aF.eval (.tmp 57) = .bool true := x0
      exact opC_assign e0 ⟨rfl, below_same wF⟩
    exact trivial
  · intro f w5 hf hb5
    have h6 := hf 45 6 rfl
    change f 45 = .bool true at h6
    have HB5 := Lib.hid (HB2.out.trans (hb5.mono HB2.out.size))
    simp only [putF, Act.put, List.setIfInBounds_toArray, List.set_cons_zero, List.set_cons_succ]
    rw [h6]
    clear h6 hf hb5
    go_wp2_with fail
    go_ret
    exact ⟨by first | rfl | simp, HB5.out⟩
theorem ChartOrders_any (y z : Ky) (n : Nat) (hn : n < 256) (w : World) :
    Calls Try.prog 4 #[y.v, z.v, .int .u8 (n : Int)] w (Ret (.bool true) w) := by
  rcases hp : lessB y z with _ | _
  · exact Orders_false y z (lessB z y) n hn hp rfl w
  · exact Orders_true y z (lessB z y) n hn hp rfl w
end Go.Proofs.Ytpphcifabmmimaa
