/-
  chart: names, rising. Conditions: the rows are there.
-/
import Derived.Deep.CutBlock
import Derived.Test.YtabiaeicejgeiaaGreatDoorChDa
import Derived.Lib.QuietBelow
import Derived.BigQuiet
import Derived.Lib.Strings
namespace Go.Proofs.YtabiaeicejgeiaaGreatDoor
open Go.ChangeShapes Go.WideShapes Go.ChangeAt Go.RowKit

def acctS (k : Nat) : ByteArray := if k = 1 then ⟨#[99, 97, 115, 104]⟩ else if k = 2 then ⟨#[112, 114, 105, 110, 99, 105, 112, 97, 108]⟩ else if k = 3 then ⟨#[105, 110, 116, 101, 114, 101, 115, 116]⟩ else if k = 4 then ⟨#[102, 101, 101, 115]⟩ else if k = 5 then ⟨#[115, 117, 115, 112, 101, 110, 115, 101]⟩ else if k = 6 then ⟨#[105, 110, 99, 111, 109, 101]⟩ else if k = 7 then ⟨#[99, 104, 97, 114, 103, 101, 115]⟩ else if k = 8 then ⟨#[108, 111, 115, 115]⟩ else if k = 9 then ⟨#[114, 101, 99, 111, 118, 101, 114, 101, 100]⟩ else ⟨#[]⟩
def kindS (k : Nat) : ByteArray := if k = 1 then ⟨#[98, 111, 97, 114, 100]⟩ else if k = 2 then ⟨#[97, 99, 99, 114, 117, 101]⟩ else if k = 3 then ⟨#[108, 97, 116, 101]⟩ else if k = 4 then ⟨#[112, 97, 121]⟩ else if k = 5 then ⟨#[102, 101, 101]⟩ else if k = 6 then ⟨#[119, 97, 105, 118, 101]⟩ else if k = 7 then ⟨#[111, 102, 102]⟩ else ⟨#[]⟩
set_option maxRecDepth 20000 in
theorem Account_any (k : Nat) (w : World) : Calls Tryz.prog 101 #[.int .u8 (k : Int)] w fun e w' => e = .returned (.string (acctS k)) ∧ w = w' := by
  by_cases h : 1 ≤ k ∧ k ≤ 9
  · rcases (show k = 1 ∨ k = 2 ∨ k = 3 ∨ k = 4 ∨ k = 5 ∨ k = 6 ∨ k = 7 ∨ k = 8 ∨ k = 9 by omega) with rfl | rfl | rfl | rfl | rfl | rfl | rfl | rfl | rfl
    all_goals
      clear h
      go_enter Tryz.func101, Tryz.ntmps101
      go_wp2_with fail
      go_ret
      exact ⟨rfl, rfl⟩
  · rw [show acctS k = ⟨#[]⟩ by unfold acctS; rw [if_neg (by omega), if_neg (by omega), if_neg (by omega), if_neg (by omega), if_neg (by omega), if_neg (by omega), if_neg (by omega), if_neg (by omega), if_neg (by omega)]]
    have j1 : ((k : Int) == 1) = false := by rw [beq_eq_false_iff_ne]; omega
    have j2 : ((k : Int) == 2) = false := by rw [beq_eq_false_iff_ne]; omega
    have j3 : ((k : Int) == 3) = false := by rw [beq_eq_false_iff_ne]; omega
    have j4 : ((k : Int) == 4) = false := by rw [beq_eq_false_iff_ne]; omega
    have j5 : ((k : Int) == 5) = false := by rw [beq_eq_false_iff_ne]; omega
    have j6 : ((k : Int) == 6) = false := by rw [beq_eq_false_iff_ne]; omega
    have j7 : ((k : Int) == 7) = false := by rw [beq_eq_false_iff_ne]; omega
    have j8 : ((k : Int) == 8) = false := by rw [beq_eq_false_iff_ne]; omega
    have j9 : ((k : Int) == 9) = false := by rw [beq_eq_false_iff_ne]; omega
    clear h
    go_enter Tryz.func101, Tryz.ntmps101
    go_wp2_with fail
    go_ret
    exact ⟨rfl, rfl⟩
theorem acctS_some {k : Nat} (h : 1 ≤ k ∧ k ≤ 9) : ∃ a t, (acctS k).toList = a :: t := by
  rcases (show k = 1 ∨ k = 2 ∨ k = 3 ∨ k = 4 ∨ k = 5 ∨ k = 6 ∨ k = 7 ∨ k = 8 ∨ k = 9 by omega) with rfl | rfl | rfl | rfl | rfl | rfl | rfl | rfl | rfl
  all_goals exact ⟨_, _, by rw [Lib.toList_data]; rfl⟩
theorem acctS_none {k : Nat} (h : ¬ (1 ≤ k ∧ k ≤ 9)) : (acctS k).toList = [] := by
  unfold acctS
  rw [if_neg (by omega), if_neg (by omega), if_neg (by omega), if_neg (by omega), if_neg (by omega), if_neg (by omega), if_neg (by omega), if_neg (by omega), if_neg (by omega), Lib.toList_data]
set_option maxRecDepth 20000 in
theorem Kind_any (k : Nat) (w : World) : Calls Tryz.prog 69 #[.int .u8 (k : Int)] w fun e w' => e = .returned (.string (kindS k)) ∧ w = w' := by
  by_cases h : 1 ≤ k ∧ k ≤ 7
  · rcases (show k = 1 ∨ k = 2 ∨ k = 3 ∨ k = 4 ∨ k = 5 ∨ k = 6 ∨ k = 7 by omega) with rfl | rfl | rfl | rfl | rfl | rfl | rfl
    all_goals
      clear h
      go_enter Tryz.func69, Tryz.ntmps69
      go_wp2_with fail
      go_ret
      exact ⟨rfl, rfl⟩
  · rw [show kindS k = ⟨#[]⟩ by unfold kindS; rw [if_neg (by omega), if_neg (by omega), if_neg (by omega), if_neg (by omega), if_neg (by omega), if_neg (by omega), if_neg (by omega)]]
    have j1 : ((k : Int) == 1) = false := by rw [beq_eq_false_iff_ne]; omega
    have j2 : ((k : Int) == 2) = false := by rw [beq_eq_false_iff_ne]; omega
    have j3 : ((k : Int) == 3) = false := by rw [beq_eq_false_iff_ne]; omega
    have j4 : ((k : Int) == 4) = false := by rw [beq_eq_false_iff_ne]; omega
    have j5 : ((k : Int) == 5) = false := by rw [beq_eq_false_iff_ne]; omega
    have j6 : ((k : Int) == 6) = false := by rw [beq_eq_false_iff_ne]; omega
    have j7 : ((k : Int) == 7) = false := by rw [beq_eq_false_iff_ne]; omega
    clear h
    go_enter Tryz.func69, Tryz.ntmps69
    go_wp2_with fail
    go_ret
    exact ⟨rfl, rfl⟩
theorem kindS_some {k : Nat} (h : 1 ≤ k ∧ k ≤ 7) : ∃ a t, (kindS k).toList = a :: t := by
  rcases (show k = 1 ∨ k = 2 ∨ k = 3 ∨ k = 4 ∨ k = 5 ∨ k = 6 ∨ k = 7 by omega) with rfl | rfl | rfl | rfl | rfl | rfl | rfl
  all_goals exact ⟨_, _, by rw [Lib.toList_data]; rfl⟩
theorem kindS_none {k : Nat} (h : ¬ (1 ≤ k ∧ k ≤ 7)) : (kindS k).toList = [] := by
  unfold kindS
  rw [if_neg (by omega), if_neg (by omega), if_neg (by omega), if_neg (by omega), if_neg (by omega), if_neg (by omega), if_neg (by omega), Lib.toList_data]
/-- The first k are accounts that there are, rising. -/
def risTo (l : List (Nat × Int)) : Nat → Bool
  | 0 => true
  | k + 1 => risTo l k && (decide (1 ≤ (l.getD k (0, 0)).1) && decide ((l.getD k (0, 0)).1 ≤ 9) && (k == 0 || decide ((l.getD (k - 1) (0, 0)).1 < (l.getD k (0, 0)).1)))
theorem risTo_step {l : List (Nat × Int)} {k x : Nat} (hd : (l.getD k (0, 0)).1 = x) : risTo l (k + 1) = (risTo l k && (decide (1 ≤ x) && decide (x ≤ 9) && (k == 0 || decide ((l.getD (k - 1) (0, 0)).1 < x)))) := by simp only [risTo]; rw [hd]
theorem risTo_end {l : List (Nat × Int)} {k m : Nat} (hk : k ≤ m) (h : risTo l k = false) : risTo l m = false := by
  induction m with
  | zero => obtain rfl : k = 0 := by omega
            exact h
  | succ m ih =>
    rcases Nat.lt_or_ge k (m + 1) with h1 | h1
    · simp only [risTo]; rw [ih (by omega)]; rfl
    · obtain rfl : k = m + 1 := by omega
      exact h
theorem getD_leg {l : List (Nat × Int)} {k : Nat} (h : k < l.length) : l.getD k (0, 0) = l[k] := by simp [List.getD, h]
set_option maxRecDepth 100000 in
set_option maxHeartbeats 4000000 in
theorem Rising_any (A : Option Addr) (n c B : Nat) (l : List (Nat × Int)) (w : World) (hR : Rs legT w B A l) (hn : l.length = n) (hm : n ≤ 100000) (hB : B ≤ w.heap.size) :
    Calls Tryz.prog 71 #[.slice A n c] w (Ret (.bool (risTo l l.length)) w) := by
  subst hn
  have HR := Lib.hid hR
  clear hR
  go_enter Tryz.func71, Tryz.ntmps71
  go_wp2_with fail
  go_loopw [3, 4, 7] (fun _ _ i wr => ∃ k : Nat, k ≤ l.length ∧ i = .int .i64 k ∧ Hid (risTo l k = true) ∧ Hid (Below w.heap.size w wr)) (fun _ _ i _ => l.length - (intOf i).toNat)
  case atStart => exact ⟨0, Nat.zero_le _, rfl, Lib.hid rfl, Lib.hid (Below.refl _ _)⟩
  case round =>
    obtain ⟨k, hk, rfl, HU, HBL⟩ := hrel
    by_cases hlt : k < l.length
    · obtain ⟨b1, o1, rfl, hb1, d0, d1⟩ := HR.out.leg hlt
      have d0 := (HBL.out.cell (p := ⟨b1, o1 + k * 2, none⟩) (by exact Nat.lt_of_lt_of_le hb1 hB)).trans d0
      have d1 := (HBL.out.cell (p := ⟨b1, o1 + k * 2 + 1, none⟩) (by exact Nat.lt_of_lt_of_le hb1 hB)).trans d1
      have hgd := getD_leg hlt
      obtain ⟨x, hx⟩ : ∃ x, (l[k]).1 = x := ⟨_, rfl⟩
      obtain ⟨z, hz⟩ : ∃ z, (l[k]).2 = z := ⟨_, rfl⟩
      have hs := risTo_step (l := l) (k := k) (x := x) (by rw [hgd, hx])
      rw [hx] at d0
      rw [hz] at d1
      have HS := Lib.hid hs
      clear hx hz hgd hs
      by_cases hac : 1 ≤ x ∧ x ≤ 9
      · obtain ⟨a0, tl, hne⟩ := acctS_some hac
        by_cases hk0 : k = 0
        · subst hk0
          simp only [Nat.zero_mul, Nat.add_zero] at d0 d1
          have HE := Lib.hid (show risTo l (0 + 1) = true by rw [HS.out, HU.out, decide_eq_true hac.1, decide_eq_true hac.2]; rfl)
          have hQ := Lib.hid (Blk.new wr 53 #[.int .u8 (x : Int), .int .i64 z])
          have HB1 := Lib.hid (HBL.out.alloc HBL.out.size (.cells #[.int .u8 (x : Int), .int .i64 z] 53))
          go_upto_region 4 with (fail)
          obtain ⟨W, hW⟩ : ∃ W, wr.alloc (.cells #[.int .u8 (x : Int), .int .i64 z] 53) = W := ⟨_, rfl⟩
          have e0 := hQ.out.cell 0
          rw [hW] at HB1 e0 ⊢
          simp at e0
          have q0 := cell_regrown e0
          have A1 := fun (x : Nat) (dd : Nat) (os : Array Obj) => Calls.regrown_of (same_ret (Account_any x (Go.Sort.grow (redrawn W dd) os)))
          clear hW e0 hQ
          refine wp_region_quiet_below (by kernel_rfl) (by kernel_rfl) ?_
          repeat (go_big_quiet_step ((go_at_call 101; exact A1 _ _ _)))
          refine wpQuiet_nil ?_
          intro w5 hw5
          have hb5 : Below W.heap.size W w5 := by
            obtain ⟨p, rfl⟩ := hw5
            exact below_regrown _ _ _
          have HB5 := Lib.hid (HB1.out.trans (hb5.mono HB1.out.size))
          clear hw5 hb5 q0 A1
          go_wp2_with fail
          go_roundw
          case rel => exact ⟨0 + 1, by omega, by go_num, HE, HB5⟩
          case measure => simp [intOf]; omega
        · have hk1 : k - 1 < l.length := by omega
          obtain ⟨b2, o2, he, hb2, cP, _⟩ := HR.out.leg hk1
          injection he with he
          injection he with e1 e2
          subst e1 e2
          have cP := ((HBL.out.alloc HBL.out.size (.cells #[.int .u8 (x : Int), .int .i64 z] 53)).cell (p := ⟨b1, o1 + (k - 1) * 2, none⟩) (by exact Nat.lt_of_lt_of_le hb1 hB)).trans cP
          have hgd1 := getD_leg hk1
          obtain ⟨p, hp⟩ : ∃ p, (l[k - 1]).1 = p := ⟨_, rfl⟩
          rw [hp] at cP
          have HS := Lib.hid (show risTo l (k + 1) = (risTo l k && (decide (1 ≤ x) && decide (x ≤ 9) && (k == 0 || decide (p < x)))) by rw [HS.out, hgd1, hp])
          have hk2 : (0 : Int) < (k : Int) := by omega
          have hk5 : decide (0 < k) = true := decide_eq_true (by omega)
          have hk3 : (1 : Int) ≤ (k : Int) := by omega
          have hk4 : (0 : Int) ≤ (k : Int) - 1 := by omega
          have hj : ((k : Int) - 1).toNat = k - 1 := by omega
          have hjl : (k : Int) - 1 < (l.length : Int) := by omega
          have i1 : IntKind.i64.wrap ((k : Int) - 1) = (k : Int) - 1 := by rw [IntKind.wrap_i64]; omega
          clear hp hgd1
          by_cases hlp : x ≤ p
          · have hd : decide (x ≤ p) = true := decide_eq_true hlp
            have hd2 : decide ((x : Int) ≤ (p : Int)) = true := decide_eq_true (by omega)
            have HE := Lib.hid (show risTo l l.length = false from risTo_end (show k + 1 ≤ l.length from hlt) (by rw [HS.out, decide_eq_false (show ¬ p < x by omega)]; simp [hk0]))
            have hQ := Lib.hid (Blk.new wr 53 #[.int .u8 (x : Int), .int .i64 z])
            have HB1 := Lib.hid (HBL.out.alloc HBL.out.size (.cells #[.int .u8 (x : Int), .int .i64 z] 53))
            go_upto_region 4 with (fail)
            obtain ⟨W, hW⟩ : ∃ W, wr.alloc (.cells #[.int .u8 (x : Int), .int .i64 z] 53) = W := ⟨_, rfl⟩
            have e0 := hQ.out.cell 0
            have ep := cP
            rw [hW] at HB1 e0 ep ⊢
            simp at e0
            have q0 := cell_regrown e0
            have qp := cell_regrown ep
            clear ep
            have A1 := fun (x : Nat) (dd : Nat) (os : Array Obj) => Calls.regrown_of (same_ret (Account_any x (Go.Sort.grow (redrawn W dd) os)))
            clear hW e0 hQ
            refine wp_region_quiet_below (by kernel_rfl) (by kernel_rfl) ?_
            repeat (go_big_quiet_step ((go_at_call 101; exact A1 _ _ _)))
            refine wpQuiet_nil ?_
            intro w5 hw5
            have hb5 : Below W.heap.size W w5 := by
              obtain ⟨p, rfl⟩ := hw5
              exact below_regrown _ _ _
            have HB5 := Lib.hid (HB1.out.trans (hb5.mono HB1.out.size))
            clear hw5 hb5 q0 qp A1
            go_wp2_with fail
            go_ret
            exact ⟨by rw [HE.out]; rfl, HB5.out⟩
          · have hd : decide (x ≤ p) = false := decide_eq_false hlp
            have hd2 : decide ((x : Int) ≤ (p : Int)) = false := decide_eq_false (by omega)
            have HE := Lib.hid (show risTo l (k + 1) = true by rw [HS.out, HU.out, decide_eq_true hac.1, decide_eq_true hac.2, decide_eq_true (show p < x by omega)]; simp)
            have hQ := Lib.hid (Blk.new wr 53 #[.int .u8 (x : Int), .int .i64 z])
            have HB1 := Lib.hid (HBL.out.alloc HBL.out.size (.cells #[.int .u8 (x : Int), .int .i64 z] 53))
            go_upto_region 4 with (fail)
            obtain ⟨W, hW⟩ : ∃ W, wr.alloc (.cells #[.int .u8 (x : Int), .int .i64 z] 53) = W := ⟨_, rfl⟩
            have e0 := hQ.out.cell 0
            have ep := cP
            rw [hW] at HB1 e0 ep ⊢
            simp at e0
            have q0 := cell_regrown e0
            have qp := cell_regrown ep
            clear ep
            have A1 := fun (x : Nat) (dd : Nat) (os : Array Obj) => Calls.regrown_of (same_ret (Account_any x (Go.Sort.grow (redrawn W dd) os)))
            clear hW e0 hQ
            refine wp_region_quiet_below (by kernel_rfl) (by kernel_rfl) ?_
            repeat (go_big_quiet_step ((go_at_call 101; exact A1 _ _ _)))
            refine wpQuiet_nil ?_
            intro w5 hw5
            have hb5 : Below W.heap.size W w5 := by
              obtain ⟨p, rfl⟩ := hw5
              exact below_regrown _ _ _
            have HB5 := Lib.hid (HB1.out.trans (hb5.mono HB1.out.size))
            clear hw5 hb5 q0 qp A1
            go_wp2_with fail
            go_roundw
            case rel => exact ⟨k + 1, by omega, by go_num, HE, HB5⟩
            case measure => simp [intOf]; omega
      · have hne := acctS_none hac
        have HE := Lib.hid (show risTo l l.length = false from risTo_end (show k + 1 ≤ l.length from hlt) (by
          rw [HS.out]
          rcases (show x < 1 ∨ 9 < x by omega) with h | h
          · rw [decide_eq_false (show ¬ 1 ≤ x by omega)]; simp
          · rw [decide_eq_false (show ¬ x ≤ 9 by omega)]; simp))
        have hQ := Lib.hid (Blk.new wr 53 #[.int .u8 (x : Int), .int .i64 z])
        have HB1 := Lib.hid (HBL.out.alloc HBL.out.size (.cells #[.int .u8 (x : Int), .int .i64 z] 53))
        go_upto_region 4 with (fail)
        obtain ⟨W, hW⟩ : ∃ W, wr.alloc (.cells #[.int .u8 (x : Int), .int .i64 z] 53) = W := ⟨_, rfl⟩
        have e0 := hQ.out.cell 0
        rw [hW] at HB1 e0 ⊢
        simp at e0
        have q0 := cell_regrown e0
        have A1 := fun (x : Nat) (dd : Nat) (os : Array Obj) => Calls.regrown_of (same_ret (Account_any x (Go.Sort.grow (redrawn W dd) os)))
        clear hW e0 hQ
        refine wp_region_quiet_below (by kernel_rfl) (by kernel_rfl) ?_
        repeat (go_big_quiet_step ((go_at_call 101; exact A1 _ _ _)))
        refine wpQuiet_nil ?_
        intro w5 hw5
        have hb5 : Below W.heap.size W w5 := by
          obtain ⟨p, rfl⟩ := hw5
          exact below_regrown _ _ _
        have HB5 := Lib.hid (HB1.out.trans (hb5.mono HB1.out.size))
        clear hw5 hb5 q0 A1
        go_wp2_with fail
        go_ret
        exact ⟨by rw [HE.out]; rfl, HB5.out⟩
    · obtain rfl : k = l.length := by omega
      go_wp2_with fail
      go_ret
      exact ⟨by rw [HU.out]; rfl, HBL.out⟩
end Go.Proofs.YtabiaeicejgeiaaGreatDoor
