/-
Entries' cells; rows beside other blocks. No condition.
chart: names, rising. Conditions: the rows are there.
Slices of whole numbers: what they read as; a copy of one onto a row of the call's own; one among a law's arguments, opened. No condition.
A row of coins of the call's own: what is appended to it. No condition.
coin.Sum of a row of coins: one by one. Conditions: the numbers' kinds.
Years, months, days by number: plain sums of whole numbers. No condition.
date: Leap, Length, Right, Week and the references' Leap, Length, Right, Next. Condition: the months' lengths are laid.
chart: balanced, Right. Conditions: the rows are there.
-/
import Derived.Test.YtdnnkdldolhbpaaGreatDoorChAX9
import Derived.Maps.Ext
import Derived.Maps.RangeWalk
import Derived.Maps.OwnSet
import Derived.Deep.CutBlock
import Derived.Lib.QuietBelow
import Derived.BigQuiet
import Derived.Lib.Strings
import Derived.Test.YtdnnkdldolhbpaaGreatDoorShutAX9
import Derived.Laws.AppendOwnNone
import Derived.Test.YtdnnkdldolhbpaaGreatDoorMemX9
import Derived.Handy
import Derived.Laws.MakeOwn
namespace Go.Proofs.YtdnnkdldolhbpaaGreatDoor
open Go.ChangeShapes Go.WideShapes Go.ChangeAt Go.RowKit Go.Maps

open Classical in
noncomputable def mkL (L : List (Nat × Int)) : List (Nat × Int) := if okL L then (keysA L).map (rowA L) else []
theorem mkL_ok {L : List (Nat × Int)} (h : okL L) : mkL L = (keysA L).map (rowA L) := by unfold mkL; rw [if_pos h]
theorem mkL_no {L : List (Nat × Int)} (h : ¬ okL L) : mkL L = [] := by unfold mkL; rw [if_neg h]
def entC (y : Ky) (v : Value) : Array Value := #[.int .u32 (y.a : Int), .int .i32 y.d, .int .u8 (y.k : Int), .int .u32 (y.s : Int), v]
def entV (y : Ky) (v : Value) : Value := .agg (entC y v)
theorem set5c {w : World} {g : Nat} {T : TypeId} {a b c d e : Value} (h : Blk w g T #[a, b, c, d, e]) (x0 x1 x2 x3 x4 : Value) :
    Blk (((((w.setCell ⟨g, 0, none⟩ x0).setCell ⟨g, 1, none⟩ x1).setCell ⟨g, 2, none⟩ x2).setCell ⟨g, 3, none⟩ x3).setCell ⟨g, 4, none⟩ x4) g T #[x0, x1, x2, x3, x4] := (((((h.set_ 0 x0).set_ 1 x1).set_ 2 x2).set_ 3 x3).set_ 4 x4)
theorem below_set5c {w w' : World} {B g : Nat} (h : Below B w w') (hg : B ≤ g) (x0 x1 x2 x3 x4 : Value) : Below B w (((((w'.setCell ⟨g, 0, none⟩ x0).setCell ⟨g, 1, none⟩ x1).setCell ⟨g, 2, none⟩ x2).setCell ⟨g, 3, none⟩ x3).setCell ⟨g, 4, none⟩ x4) :=
  ((((h.setCell hg x0).setCell hg x1).setCell hg x2).setCell hg x3).setCell hg x4
theorem OwnS.set5 {α : Type} {T : Lies α} {e : TypeId} {w : World} {b n g : Nat} {v : Value} {l : List α} (h : OwnS T e w b v n l) (hg : v.ownBlock ≠ some g) (x0 x1 x2 x3 x4 : Value) : OwnS T e (((((w.setCell ⟨g, 0, none⟩ x0).setCell ⟨g, 1, none⟩ x1).setCell ⟨g, 2, none⟩ x2).setCell ⟨g, 3, none⟩ x3).setCell ⟨g, 4, none⟩ x4) b v n l := by
  have hs : ∀ (w : World) (i : Nat) (x : Value), w.grownBy (w.setCell ⟨g, i, none⟩ x) (some g) := fun w i x => grown_setCell (grown_refl w _) (.inl rfl) x
  exact World.ownsRow.kept h (grown_trans (grown_trans (grown_trans (grown_trans (hs _ 0 x0) (hs _ 1 x1)) (hs _ 2 x2)) (hs _ 3 x3)) (hs _ 4 x4)) (.inr hg)
theorem OwnS.ne_obj {α : Type} {T : Lies α} {e : TypeId} {w : World} {b n q : Nat} {v : Value} {l : List α} {o : Obj} (h : OwnS T e w b v n l) (hq : w.heap[q]? = some o) (hne : ∀ cur, o ≠ .cells cur e (0, 0)) : v.ownBlock ≠ some q := by
  unfold OwnS at h
  rcases h.2 with ⟨rfl, _⟩ | ⟨g, cap, cur, rfl, _, hg, _⟩
  · simp [Value.ownBlock]
  · intro he
    have : g = q := by simpa [Value.ownBlock] using he
    subst this
    rw [hq] at hg
    exact hne cur (Option.some.inj hg)
theorem OwnS.ne_blk {α : Type} {T : Lies α} {e t : TypeId} {w : World} {b n q : Nat} {v : Value} {l : List α} {cs : Array Value} (h : OwnS T e w b v n l) (hq : Blk w q t cs) (hne : t ≠ e) : v.ownBlock ≠ some q :=
  h.ne_obj hq (fun cur he => by injection he with _ e2; exact hne e2)
theorem OwnS.ne_map {α : Type} {T : Lies α} {e k : TypeId} {w : World} {b n q m : Nat} {v : Value} {l : List α} {P : Program} {R : Value → Option (DataW Unit × List MemPlace)} {D : DataW Unit} (h : OwnS T e w b v n l) (hq : w.ownsMap P k R q m D) : v.ownBlock ≠ some q := by
  obtain ⟨es, clock, hb, _⟩ := hq
  exact h.ne_obj hb (fun cur he => by cases he)
theorem OwnS.ne_iter {α : Type} {T : Lies α} {e k : TypeId} {w : World} {b n q r m cnt : Nat} {v : Value} {l : List α} {P : Program} {R : Value → Option (DataW Unit × List MemPlace)} {D : DataW Unit} {left : Lit → Bool} (h : OwnS T e w b v n l) (hq : w.ranges P k R q r m D left cnt) : v.ownBlock ≠ some r := by
  obtain ⟨_, _, _, _, _, _, _, _, _, hit, _⟩ := hq
  exact h.ne_obj hit (fun cur he => by cases he)
theorem entNe : (40 : TypeId) ≠ 53 := by decide
theorem grown_set (w : World) (g i : Nat) (x : Value) : w.grownBy (w.setCell ⟨g, i, none⟩ x) (some g) := grown_setCell (grown_refl w _) (.inl rfl) x
end Go.Proofs.YtdnnkdldolhbpaaGreatDoor
namespace Go.Proofs.YtdnnkdldolhbpaaGreatDoor
open Go.ChangeShapes Go.WideShapes Go.ChangeAt Go.RowKit

def acctS (k : Nat) : ByteArray := if k = 1 then ⟨#[99, 97, 115, 104]⟩ else if k = 2 then ⟨#[112, 114, 105, 110, 99, 105, 112, 97, 108]⟩ else if k = 3 then ⟨#[105, 110, 116, 101, 114, 101, 115, 116]⟩ else if k = 4 then ⟨#[102, 101, 101, 115]⟩ else if k = 5 then ⟨#[115, 117, 115, 112, 101, 110, 115, 101]⟩ else if k = 6 then ⟨#[105, 110, 99, 111, 109, 101]⟩ else if k = 7 then ⟨#[99, 104, 97, 114, 103, 101, 115]⟩ else if k = 8 then ⟨#[108, 111, 115, 115]⟩ else if k = 9 then ⟨#[114, 101, 99, 111, 118, 101, 114, 101, 100]⟩ else ⟨#[]⟩
def kindS (k : Nat) : ByteArray := if k = 1 then ⟨#[98, 111, 97, 114, 100]⟩ else if k = 2 then ⟨#[97, 99, 99, 114, 117, 101]⟩ else if k = 3 then ⟨#[108, 97, 116, 101]⟩ else if k = 4 then ⟨#[112, 97, 121]⟩ else if k = 5 then ⟨#[102, 101, 101]⟩ else if k = 6 then ⟨#[119, 97, 105, 118, 101]⟩ else if k = 7 then ⟨#[111, 102, 102]⟩ else ⟨#[]⟩
set_option maxRecDepth 20000 in
theorem Account_any (k : Nat) (w : World) : Calls Tryz.prog 101 #[.int .u8 (k : Int)] w fun e w' => e = .returned (.string (acctS k)) ∧ w = w' := by
  by_cases h : 1 ≤ k ∧ k ≤ 9
  · rcases (show k = 1 ∨ k = 2 ∨ k = 3 ∨ k = 4 ∨ k = 5 ∨ k = 6 ∨ k = 7 ∨ k = 8 ∨ k = 9 by omega) with rfl | rfl | rfl | rfl | rfl | rfl | rfl | rfl | rfl
    all_goals
      clear h
      go_enter Tryz.func101, Tryz.ntmps101
      go_wp2_with fail
      go_ret
      exact ⟨rfl, rfl⟩
  · rw [show acctS k = ⟨#[]⟩ by unfold acctS; rw [if_neg (by omega), if_neg (by omega), if_neg (by omega), if_neg (by omega), if_neg (by omega), if_neg (by omega), if_neg (by omega), if_neg (by omega), if_neg (by omega)]]
    have j1 : ((k : Int) == 1) = false := by rw [beq_eq_false_iff_ne]; omega
    have j2 : ((k : Int) == 2) = false := by rw [beq_eq_false_iff_ne]; omega
    have j3 : ((k : Int) == 3) = false := by rw [beq_eq_false_iff_ne]; omega
    have j4 : ((k : Int) == 4) = false := by rw [beq_eq_false_iff_ne]; omega
    have j5 : ((k : Int) == 5) = false := by rw [beq_eq_false_iff_ne]; omega
    have j6 : ((k : Int) == 6) = false := by rw [beq_eq_false_iff_ne]; omega
    have j7 : ((k : Int) == 7) = false := by rw [beq_eq_false_iff_ne]; omega
    have j8 : ((k : Int) == 8) = false := by rw [beq_eq_false_iff_ne]; omega
    have j9 : ((k : Int) == 9) = false := by rw [beq_eq_false_iff_ne]; omega
    clear h
    go_enter Tryz.func101, Tryz.ntmps101
    go_wp2_with fail
    go_ret
    exact ⟨rfl, rfl⟩
theorem acctS_some {k : Nat} (h : 1 ≤ k ∧ k ≤ 9) : ∃ a t, (acctS k).toList = a :: t := by
  rcases (show k = 1 ∨ k = 2 ∨ k = 3 ∨ k = 4 ∨ k = 5 ∨ k = 6 ∨ k = 7 ∨ k = 8 ∨ k = 9 by omega) with rfl | rfl | rfl | rfl | rfl | rfl | rfl | rfl | rfl
  all_goals exact ⟨_, _, by rw [Lib.toList_data]; rfl⟩
theorem acctS_none {k : Nat} (h : ¬ (1 ≤ k ∧ k ≤ 9)) : (acctS k).toList = [] := by
  unfold acctS
  rw [if_neg (by omega), if_neg (by omega), if_neg (by omega), if_neg (by omega), if_neg (by omega), if_neg (by omega), if_neg (by omega), if_neg (by omega), if_neg (by omega), Lib.toList_data]
set_option maxRecDepth 20000 in
theorem Kind_any (k : Nat) (w : World) : Calls Tryz.prog 69 #[.int .u8 (k : Int)] w fun e w' => e = .returned (.string (kindS k)) ∧ w = w' := by
  by_cases h : 1 ≤ k ∧ k ≤ 7
  · rcases (show k = 1 ∨ k = 2 ∨ k = 3 ∨ k = 4 ∨ k = 5 ∨ k = 6 ∨ k = 7 by omega) with rfl | rfl | rfl | rfl | rfl | rfl | rfl
    all_goals
      clear h
      go_enter Tryz.func69, Tryz.ntmps69
      go_wp2_with fail
      go_ret
      exact ⟨rfl, rfl⟩
  · rw [show kindS k = ⟨#[]⟩ by unfold kindS; rw [if_neg (by omega), if_neg (by omega), if_neg (by omega), if_neg (by omega), if_neg (by omega), if_neg (by omega), if_neg (by omega)]]
    have j1 : ((k : Int) == 1) = false := by rw [beq_eq_false_iff_ne]; omega
    have j2 : ((k : Int) == 2) = false := by rw [beq_eq_false_iff_ne]; omega
    have j3 : ((k : Int) == 3) = false := by rw [beq_eq_false_iff_ne]; omega
    have j4 : ((k : Int) == 4) = false := by rw [beq_eq_false_iff_ne]; omega
    have j5 : ((k : Int) == 5) = false := by rw [beq_eq_false_iff_ne]; omega
    have j6 : ((k : Int) == 6) = false := by rw [beq_eq_false_iff_ne]; omega
    have j7 : ((k : Int) == 7) = false := by rw [beq_eq_false_iff_ne]; omega
    clear h
    go_enter Tryz.func69, Tryz.ntmps69
    go_wp2_with fail
    go_ret
    exact ⟨rfl, rfl⟩
theorem kindS_some {k : Nat} (h : 1 ≤ k ∧ k ≤ 7) : ∃ a t, (kindS k).toList = a :: t := by
  rcases (show k = 1 ∨ k = 2 ∨ k = 3 ∨ k = 4 ∨ k = 5 ∨ k = 6 ∨ k = 7 by omega) with rfl | rfl | rfl | rfl | rfl | rfl | rfl
  all_goals exact ⟨_, _, by rw [Lib.toList_data]; rfl⟩
theorem kindS_none {k : Nat} (h : ¬ (1 ≤ k ∧ k ≤ 7)) : (kindS k).toList = [] := by
  unfold kindS
  rw [if_neg (by omega), if_neg (by omega), if_neg (by omega), if_neg (by omega), if_neg (by omega), if_neg (by omega), if_neg (by omega), Lib.toList_data]
/-- The first k are accounts that there are, rising. -/
def risTo (l : List (Nat × Int)) : Nat → Bool
  | 0 => true
  | k + 1 => risTo l k && (decide (1 ≤ (l.getD k (0, 0)).1) && decide ((l.getD k (0, 0)).1 ≤ 9) && (k == 0 || decide ((l.getD (k - 1) (0, 0)).1 < (l.getD k (0, 0)).1)))
theorem risTo_step {l : List (Nat × Int)} {k x : Nat} (hd : (l.getD k (0, 0)).1 = x) : risTo l (k + 1) = (risTo l k && (decide (1 ≤ x) && decide (x ≤ 9) && (k == 0 || decide ((l.getD (k - 1) (0, 0)).1 < x)))) := by simp only [risTo]; rw [hd]
theorem risTo_end {l : List (Nat × Int)} {k m : Nat} (hk : k ≤ m) (h : risTo l k = false) : risTo l m = false := by
  induction m with
  | zero => obtain rfl : k = 0 := by omega
            exact h
  | succ m ih =>
    rcases Nat.lt_or_ge k (m + 1) with h1 | h1
    · simp only [risTo]; rw [ih (by omega)]; rfl
    · obtain rfl : k = m + 1 := by omega
      exact h
theorem getD_leg {l : List (Nat × Int)} {k : Nat} (h : k < l.length) : l.getD k (0, 0) = l[k] := by simp [List.getD, h]
set_option maxRecDepth 100000 in
set_option maxHeartbeats 4000000 in
theorem Rising_any (A : Option Addr) (n c B : Nat) (l : List (Nat × Int)) (w : World) (hR : Rs legT w B A l) (hn : l.length = n) (hm : n ≤ 100000) (hB : B ≤ w.heap.size) :
    Calls Tryz.prog 71 #[.slice A n c] w (Ret (.bool (risTo l l.length)) w) := by
  subst hn
  have HR := Lib.hid hR
  clear hR
  go_enter Tryz.func71, Tryz.ntmps71
  go_wp2_with fail
  go_loopw [3, 4, 7] (fun _ _ i wr => ∃ k : Nat, k ≤ l.length ∧ i = .int .i64 k ∧ Hid (risTo l k = true) ∧ Hid (Below w.heap.size w wr)) (fun _ _ i _ => l.length - (intOf i).toNat)
  case atStart => exact ⟨0, Nat.zero_le _, rfl, Lib.hid rfl, Lib.hid (Below.refl _ _)⟩
  case round =>
    obtain ⟨k, hk, rfl, HU, HBL⟩ := hrel
    by_cases hlt : k < l.length
    · obtain ⟨b1, o1, rfl, hb1, d0, d1⟩ := HR.out.leg hlt
      have d0 := (HBL.out.cell (p := ⟨b1, o1 + k * 2, none⟩) (by exact Nat.lt_of_lt_of_le hb1 hB)).trans d0
      have d1 := (HBL.out.cell (p := ⟨b1, o1 + k * 2 + 1, none⟩) (by exact Nat.lt_of_lt_of_le hb1 hB)).trans d1
      have hgd := getD_leg hlt
      obtain ⟨x, hx⟩ : ∃ x, (l[k]).1 = x := ⟨_, rfl⟩
      obtain ⟨z, hz⟩ : ∃ z, (l[k]).2 = z := ⟨_, rfl⟩
      have hs := risTo_step (l := l) (k := k) (x := x) (by rw [hgd, hx])
      rw [hx] at d0
      rw [hz] at d1
      have HS := Lib.hid hs
      clear hx hz hgd hs
      by_cases hac : 1 ≤ x ∧ x ≤ 9
      · obtain ⟨a0, tl, hne⟩ := acctS_some hac
        by_cases hk0 : k = 0
        · subst hk0
          simp only [Nat.zero_mul, Nat.add_zero] at d0 d1
          have HE := Lib.hid (show risTo l (0 + 1) = true by rw [HS.out, HU.out, decide_eq_true hac.1, decide_eq_true hac.2]; rfl)
          have hQ := Lib.hid (Blk.new wr 53 #[.int .u8 (x : Int), .int .i64 z])
          have HB1 := Lib.hid (HBL.out.alloc HBL.out.size (.cells #[.int .u8 (x : Int), .int .i64 z] 53))
          go_upto_region 4 with (fail)
          obtain ⟨W, hW⟩ : ∃ W, wr.alloc (.cells #[.int .u8 (x : Int), .int .i64 z] 53) = W := ⟨_, rfl⟩
          have e0 := hQ.out.cell 0
          rw [hW] at HB1 e0 ⊢
          simp at e0
          have q0 := cell_regrown e0
          have A1 := fun (x : Nat) (dd : Nat) (os : Array Obj) => Calls.regrown_of (same_ret (Account_any x (Go.Sort.grow (redrawn W dd) os)))
          clear hW e0 hQ
          refine wp_region_quiet_below (by kernel_rfl) (by kernel_rfl) ?_
          repeat (go_big_quiet_step ((go_at_call 101; exact A1 _ _ _)))
          refine wpQuiet_nil ?_
          intro w5 hw5
          have hb5 : Below W.heap.size W w5 := by
            obtain ⟨p, rfl⟩ := hw5
            exact below_regrown _ _ _
          have HB5 := Lib.hid (HB1.out.trans (hb5.mono HB1.out.size))
          clear hw5 hb5 q0 A1
          go_wp2_with fail
          go_roundw
          case rel => exact ⟨0 + 1, by omega, by go_num, HE, HB5⟩
          case measure => simp [intOf]; omega
        · have hk1 : k - 1 < l.length := by omega
          obtain ⟨b2, o2, he, hb2, cP, _⟩ := HR.out.leg hk1
          injection he with he
          injection he with e1 e2
          subst e1 e2
          have cP := ((HBL.out.alloc HBL.out.size (.cells #[.int .u8 (x : Int), .int .i64 z] 53)).cell (p := ⟨b1, o1 + (k - 1) * 2, none⟩) (by exact Nat.lt_of_lt_of_le hb1 hB)).trans cP
          have hgd1 := getD_leg hk1
          obtain ⟨p, hp⟩ : ∃ p, (l[k - 1]).1 = p := ⟨_, rfl⟩
          rw [hp] at cP
          have HS := Lib.hid (show risTo l (k + 1) = (risTo l k && (decide (1 ≤ x) && decide (x ≤ 9) && (k == 0 || decide (p < x)))) by rw [HS.out, hgd1, hp])
          have hk2 : (0 : Int) < (k : Int) := by omega
          have hk5 : decide (0 < k) = true := decide_eq_true (by omega)
          have hk3 : (1 : Int) ≤ (k : Int) := by omega
          have hk4 : (0 : Int) ≤ (k : Int) - 1 := by omega
          have hj : ((k : Int) - 1).toNat = k - 1 := by omega
          have hjl : (k : Int) - 1 < (l.length : Int) := by omega
          have i1 : IntKind.i64.wrap ((k : Int) - 1) = (k : Int) - 1 := by rw [IntKind.wrap_i64]; omega
          clear hp hgd1
          by_cases hlp : x ≤ p
          · have hd : decide (x ≤ p) = true := decide_eq_true hlp
            have hd2 : decide ((x : Int) ≤ (p : Int)) = true := decide_eq_true (by omega)
            have HE := Lib.hid (show risTo l l.length = false from risTo_end (show k + 1 ≤ l.length from hlt) (by rw [HS.out, decide_eq_false (show ¬ p < x by omega)]; simp [hk0]))
            have hQ := Lib.hid (Blk.new wr 53 #[.int .u8 (x : Int), .int .i64 z])
            have HB1 := Lib.hid (HBL.out.alloc HBL.out.size (.cells #[.int .u8 (x : Int), .int .i64 z] 53))
            go_upto_region 4 with (fail)
            obtain ⟨W, hW⟩ : ∃ W, wr.alloc (.cells #[.int .u8 (x : Int), .int .i64 z] 53) = W := ⟨_, rfl⟩
            have e0 := hQ.out.cell 0
            have ep := cP
            rw [hW] at HB1 e0 ep ⊢
            simp at e0
            have q0 := cell_regrown e0
            have qp := cell_regrown ep
            clear ep
            have A1 := fun (x : Nat) (dd : Nat) (os : Array Obj) => Calls.regrown_of (same_ret (Account_any x (Go.Sort.grow (redrawn W dd) os)))
            clear hW e0 hQ
            refine wp_region_quiet_below (by kernel_rfl) (by kernel_rfl) ?_
            repeat (go_big_quiet_step ((go_at_call 101; exact A1 _ _ _)))
            refine wpQuiet_nil ?_
            intro w5 hw5
            have hb5 : Below W.heap.size W w5 := by
              obtain ⟨p, rfl⟩ := hw5
              exact below_regrown _ _ _
            have HB5 := Lib.hid (HB1.out.trans (hb5.mono HB1.out.size))
            clear hw5 hb5 q0 qp A1
            go_wp2_with fail
            go_ret
            exact ⟨by rw [HE.out]; rfl, HB5.out⟩
          · have hd : decide (x ≤ p) = false := decide_eq_false hlp
            have hd2 : decide ((x : Int) ≤ (p : Int)) = false := decide_eq_false (by omega)
            have HE := Lib.hid (show risTo l (k + 1) = true by rw [HS.out, HU.out, decide_eq_true hac.1, decide_eq_true hac.2, decide_eq_true (show p < x by omega)]; simp)
            have hQ := Lib.hid (Blk.new wr 53 #[.int .u8 (x : Int), .int .i64 z])
            have HB1 := Lib.hid (HBL.out.alloc HBL.out.size (.cells #[.int .u8 (x : Int), .int .i64 z] 53))
            go_upto_region 4 with (fail)
            obtain ⟨W, hW⟩ : ∃ W, wr.alloc (.cells #[.int .u8 (x : Int), .int .i64 z] 53) = W := ⟨_, rfl⟩
            have e0 := hQ.out.cell 0
            have ep := cP
            rw [hW] at HB1 e0 ep ⊢
            simp at e0
            have q0 := cell_regrown e0
            have qp := cell_regrown ep
            clear ep
            have A1 := fun (x : Nat) (dd : Nat) (os : Array Obj) => Calls.regrown_of (same_ret (Account_any x (Go.Sort.grow (redrawn W dd) os)))
            clear hW e0 hQ
            refine wp_region_quiet_below (by kernel_rfl) (by kernel_rfl) ?_
            repeat (go_big_quiet_step ((go_at_call 101; exact A1 _ _ _)))
            refine wpQuiet_nil ?_
            intro w5 hw5
            have hb5 : Below W.heap.size W w5 := by
              obtain ⟨p, rfl⟩ := hw5
              exact below_regrown _ _ _
            have HB5 := Lib.hid (HB1.out.trans (hb5.mono HB1.out.size))
            clear hw5 hb5 q0 qp A1
            go_wp2_with fail
            go_roundw
            case rel => exact ⟨k + 1, by omega, by go_num, HE, HB5⟩
            case measure => simp [intOf]; omega
      · have hne := acctS_none hac
        have HE := Lib.hid (show risTo l l.length = false from risTo_end (show k + 1 ≤ l.length from hlt) (by
          rw [HS.out]
          rcases (show x < 1 ∨ 9 < x by omega) with h | h
          · rw [decide_eq_false (show ¬ 1 ≤ x by omega)]; simp
          · rw [decide_eq_false (show ¬ x ≤ 9 by omega)]; simp))
        have hQ := Lib.hid (Blk.new wr 53 #[.int .u8 (x : Int), .int .i64 z])
        have HB1 := Lib.hid (HBL.out.alloc HBL.out.size (.cells #[.int .u8 (x : Int), .int .i64 z] 53))
        go_upto_region 4 with (fail)
        obtain ⟨W, hW⟩ : ∃ W, wr.alloc (.cells #[.int .u8 (x : Int), .int .i64 z] 53) = W := ⟨_, rfl⟩
        have e0 := hQ.out.cell 0
        rw [hW] at HB1 e0 ⊢
        simp at e0
        have q0 := cell_regrown e0
        have A1 := fun (x : Nat) (dd : Nat) (os : Array Obj) => Calls.regrown_of (same_ret (Account_any x (Go.Sort.grow (redrawn W dd) os)))
        clear hW e0 hQ
        refine wp_region_quiet_below (by kernel_rfl) (by kernel_rfl) ?_
        repeat (go_big_quiet_step ((go_at_call 101; exact A1 _ _ _)))
        refine wpQuiet_nil ?_
        intro w5 hw5
        have hb5 : Below W.heap.size W w5 := by
          obtain ⟨p, rfl⟩ := hw5
          exact below_regrown _ _ _
        have HB5 := Lib.hid (HB1.out.trans (hb5.mono HB1.out.size))
        clear hw5 hb5 q0 A1
        go_wp2_with fail
        go_ret
        exact ⟨by rw [HE.out]; rfl, HB5.out⟩
    · obtain rfl : k = l.length := by omega
      go_wp2_with fail
      go_ret
      exact ⟨by rw [HU.out]; rfl, HBL.out⟩
end Go.Proofs.YtdnnkdldolhbpaaGreatDoor
namespace Go.Proofs.YtdnnkdldolhbpaaGreatDoor
open Go.ChangeShapes Go.WideShapes Go.ChangeAt Go.RowKit

/-- A slice that reads as these values, each of one cell. -/
def Rv (w : World) (B : Nat) (A : Option Addr) (l : List Value) : Prop :=
  0 < l.length → ∃ b o, A = some ⟨b, o, none⟩ ∧ b < B ∧ ∀ (j : Nat) u, l[j]? = some u → w.cell? ⟨b, o + j, none⟩ = some u
section
variable {w w' : World} {B B' : Nat} {A : Option Addr} {l : List Value}
theorem Rv.nil_ : Rv w B A [] := fun h => absurd h (by simp)
theorem Rv.at_ {k : Nat} (h : Rv w B A l) (hk : k < l.length) : ∃ b o, A = some ⟨b, o, none⟩ ∧ b < B ∧ w.cell? ⟨b, o + k, none⟩ = some (l[k]'hk) := by
  obtain ⟨b, o, e, hb, hc⟩ := h (by omega)
  exact ⟨b, o, e, hb, hc k _ (List.getElem?_eq_getElem hk)⟩
theorem Rv.keep (h : Rv w B A l) (hk : ∀ p : Addr, p.block < B → w'.cell? p = w.cell? p) : Rv w' B A l := fun hn => by
  obtain ⟨b, o, e, hb, hc⟩ := h hn
  exact ⟨b, o, e, hb, fun j u hu => (hk _ hb).trans (hc j u hu)⟩
theorem Rv.more (h : Rv w B A l) (hB : B ≤ B') : Rv w B' A l := fun hn => by
  obtain ⟨b, o, e, hb, hc⟩ := h hn
  exact ⟨b, o, e, by omega, hc⟩
theorem Rv.below (h : Rv w B A l) (hb : Below B w w') : Rv w' B A l := h.keep fun _ hp => hb.cell hp
theorem Rv.take (h : Rv w B A l) (k : Nat) : Rv w B A (l.take k) := fun hn => by
  obtain ⟨b, o, e, hb, hc⟩ := h (by rw [List.length_take] at hn; omega)
  refine ⟨b, o, e, hb, fun j u hu => hc j u ?_⟩
  rw [List.getElem?_take] at hu
  split at hu
  · exact hu
  · cases hu
end

def encI (n : Int) : Value := .int .i64 n
theorem encI_one (l : List Int) : ∀ u ∈ l.map encI, u.oneCell' = true := by
  intro u hu
  obtain ⟨x, _, rfl⟩ := List.mem_map.1 hu
  rfl
theorem infoI : (Tryz.prog.info? 2).map (fun i => (i.zero, i.size, i.bytes)) = some (some (.int .i64 0), 1, 8) := by kernel_rfl
def OwnI (w : World) (base : Nat) (v : Value) (n : Nat) (l : List Int) : Prop := w.ownsRow base 2 1 v n (l.map encI)

theorem Rv.of_ownI {w : World} {base n c : Nat} {A : Option Addr} {l : List Int} (h : OwnI w base (.slice A n c) n l) : Rv w w.heap.size A (l.map encI) := fun hn => by
  rw [List.length_map] at hn
  have hln : l.length = n := by have := h.1; simpa using this
  obtain ⟨g, cap, hv, _, hlt⟩ := World.ownsRow.form h (by omega)
  have hA : A = some ⟨g, 0, none⟩ := by injection hv
  subst hA
  refine ⟨g, 0, rfl, hlt, fun j u hu => ?_⟩
  have := World.ownsRow.cells h (g := g) rfl j u hu
  simpa [go_sem] using this
theorem own_formI {w : World} {base : Nat} {v : Value} {n : Nat} {l : List Int} (h : OwnI w base v n l) :
    l.length = n ∧ ∃ A c, v = .slice A n c ∧ n ≤ c ∧ c ≤ maxLen ∧ Rv w w.heap.size A (l.map encI) := by
  have hl : l.length = n := by have := h.1; simpa using this
  refine ⟨hl, ?_⟩
  rcases h.2 with ⟨rfl, rfl⟩ | ⟨g, cap, cur, rfl, _, _, hnc, hcm, _⟩
  · exact ⟨_, _, rfl, Nat.le_refl _, by decide, by obtain rfl : l = [] := List.eq_nil_of_length_eq_zero hl; exact Rv.nil_⟩
  · exact ⟨_, _, rfl, hnc, hcm, Rv.of_ownI h⟩

section
variable {H : Type} {enc : TypeId × Value → H} {W : World}
theorem cellsI : Tryz.prog.cellsOf 2 = 1 := by kernel_rfl
theorem bytesI : Tryz.prog.bytesOf 2 = 8 := by kernel_rfl
end
end Go.Proofs.YtdnnkdldolhbpaaGreatDoor
namespace Go.Proofs.YtdnnkdldolhbpaaGreatDoor
open Go.ChangeShapes Go.WideShapes Go.ChangeAt Go.RowKit

def encC (n : Int) : Value := .int .i64 n
theorem encC_one (l : List Int) : ∀ u ∈ l.map encC, u.oneCell' = true := by
  intro u hu
  obtain ⟨x, _, rfl⟩ := List.mem_map.1 hu
  rfl
theorem infoC : (Tryz.prog.info? 51).map (fun i => (i.zero, i.size, i.bytes)) = some (some (.int .i64 0), 1, 8) := by kernel_rfl
def OwnC (w : World) (base : Nat) (v : Value) (n : Nat) (l : List Int) : Prop := w.ownsRow base 51 1 v n (l.map encC)

theorem appendC_void (w : World) (base : Nat) (ty : TypeId) (v : Value) (n : Nat) (l : List Int) (hown : OwnC w base v n l) (A : Option Addr) (c : Nat) :
    (Builtin.append_ #[183, 183] ty #[v, .slice A 0 c]).run Tryz.prog w = .ok v w := by
  obtain ⟨i0, hi, hz0, hz1, hz2⟩ := info_parts infoC
  unfold OwnC at hown
  cases A <;> rcases hown.2 with ⟨rfl, rfl⟩ | ⟨g, cap, cur, rfl, _, _, hnc, _⟩ <;>
    simp [Builtin.append_, run_underlying Tryz.underlying183, sizeOf, typeInfo, Builtin.lenOf, Builtin.firstCells, storeCells, loadCells, loadCellsFrom, *]
theorem appendC (w : World) (base : Nat) (ty : TypeId) (v : Value) (n : Nat) (l : List Int) (hown : OwnC w base v n l) (B : Nat) (A : Option Addr) (m c : Nat) (news : List Int)
    (hR : Rv w B A (news.map encC)) (hm : news.length = m) (hsz : n + m ≤ 1000) (hbase : base ≤ w.heap.size) :
    ∃ v' w', (Builtin.append_ #[183, 183] ty #[v, .slice A m c]).run Tryz.prog w = .ok v' w' ∧ OwnC w' base v' (n + m) (l ++ news) ∧ w.grownBy w' v.ownBlock := by
  rcases Nat.eq_zero_or_pos m with h0 | h0
  · subst h0
    obtain rfl : news = [] := List.eq_nil_of_length_eq_zero hm
    exact ⟨v, w, appendC_void w base ty v n _ hown A c, by simpa using hown, grown_refl _ _⟩
  · obtain ⟨b, o, rfl, _, hc⟩ := hR (by rw [List.length_map]; omega)
    obtain ⟨i0, hi, hz0, hz1, hz2⟩ := info_parts infoC
    obtain ⟨v', w', hr, h2, h3, _⟩ := run_append_own (P := Tryz.prog) w base 183 ty 51 i0 (.int .i64 0) 1 8 Tryz.underlying183 hi hz0 hz1 hz2 rfl (by decide) v n (l.map encC) hown
      ⟨b, o, none⟩ m c (news.map encC) (by simpa using hm) (fun j u hu => by simpa [go_sem] using hc j u hu) (encC_one news) (by unfold maxLen; omega) (by omega) hbase
    exact ⟨v', w', hr, by unfold OwnC; rw [List.map_append]; exact h2, h3⟩
theorem wpList_appendC {w : World} {ops : Array Oper} {rest : List Oper} {o : Oper} {a : Act} {Q : Exit → Act → World → Prop} (hgd : o.guard = Option.none) (s x : Operand)
    (ho : o.op = .call { callee := .builtin .append, args := #[s, x], argTypes := #[183, 183] })
    (base : Nat) (v : Value) (n : Nat) (l : List Int) (hs : a.eval s = v) (hown : OwnC w base v n l)
    (B : Nat) (A : Option Addr) (m c : Nat) (news : List Int) (hx : a.eval x = .slice A m c) (hR : Rv w B A (news.map encC)) (hm : news.length = m) (hsz : n + m ≤ 1000) (hbase : base ≤ w.heap.size)
    (h : ∀ v' w', OwnC w' base v' (n + m) (l ++ news) → w.grownBy w' v.ownBlock → wpList Tryz.prog ops Q rest (a.put o.dst v') w') : wpList Tryz.prog ops Q (o :: rest) a w := by
  refine wpList_plain hgd fun _ hK => ?_
  obtain ⟨v', w', hr, h2, h3⟩ := appendC w base o.type v n l hown B A m c news hR hm hsz hbase
  unfold Oper.wp execOp
  simp only [ho, resolve, invoke, builtin, Sem.run_bind, Sem.run_pure, Result.andThen_ok, List.map_toArray, List.map_cons, List.map_nil, hs, hx, hr]
  exact hK _ _ (h v' w' h2 h3)
theorem Rv.of_ownC {w : World} {base n c : Nat} {A : Option Addr} {l : List Int} (h : OwnC w base (.slice A n c) n l) : Rv w w.heap.size A (l.map encC) := fun hn => by
  rw [List.length_map] at hn
  have hln : l.length = n := by have := h.1; simpa using this
  obtain ⟨g, cap, hv, _, hlt⟩ := World.ownsRow.form h (by omega)
  have hA : A = some ⟨g, 0, none⟩ := by injection hv
  subst hA
  refine ⟨g, 0, rfl, hlt, fun j u hu => ?_⟩
  have := World.ownsRow.cells h (g := g) rfl j u hu
  simpa [go_sem] using this
theorem own_formC {w : World} {base : Nat} {v : Value} {n : Nat} {l : List Int} (h : OwnC w base v n l) :
    l.length = n ∧ ∃ A c, v = .slice A n c ∧ n ≤ c ∧ c ≤ maxLen ∧ Rv w w.heap.size A (l.map encC) := by
  have hl : l.length = n := by have := h.1; simpa using this
  refine ⟨hl, ?_⟩
  rcases h.2 with ⟨rfl, rfl⟩ | ⟨g, cap, cur, rfl, _, _, hnc, hcm, _⟩
  · exact ⟨_, _, rfl, Nat.le_refl _, by decide, by obtain rfl : l = [] := List.eq_nil_of_length_eq_zero hl; exact Rv.nil_⟩
  · exact ⟨_, _, rfl, hnc, hcm, Rv.of_ownC h⟩

end Go.Proofs.YtdnnkdldolhbpaaGreatDoor
namespace Go.Proofs.YtdnnkdldolhbpaaGreatDoor
open Go.RowKit

/-- One step of a sum, and the whole: no beginning may be over. -/
def sumF (o : Option Int) (a : Int) : Option Int :=
  match o with
  | some s => if Fits (s + a) then some (s + a) else Option.none
  | Option.none => Option.none
def sumO (l : List Int) : Option Int := l.foldl sumF (some 0)
theorem sumF_none (l : List Int) : l.foldl sumF Option.none = Option.none := by
  induction l with
  | nil => rfl
  | cons a l ih => exact ih
theorem sumO_next (l : List Int) (k : Nat) (h : k < l.length) : sumO (l.take (k + 1)) = sumF (sumO (l.take k)) (l[k]'h) := by
  unfold sumO
  rw [List.take_succ_eq_append_getElem h, List.foldl_append]
  rfl
theorem sumO_fits (l : List Int) (s : Int) (h : sumO l = some s) : Fits s := by
  unfold sumO at h
  rcases List.eq_nil_or_concat l with rfl | ⟨r, a, rfl⟩
  · injection h with h
    subst h
    decide
  · rw [List.concat_eq_append, List.foldl_append] at h
    simp only [List.foldl_cons, List.foldl_nil] at h
    unfold sumF at h
    split at h
    · split at h
      · injection h with h
        subst h
        assumption
      · cases h
    · cases h
theorem sumO_stop (l : List Int) (k : Nat) (h : sumO (l.take k) = Option.none) : sumO l = Option.none := by
  unfold sumO at *
  rw [← List.take_append_drop k l, List.foldl_append, h]
  exact sumF_none _

/-- What coin.Sum tells. -/
def sumV (o : Option Int) : Value :=
  match o with
  | some s => .tuple #[.int .i64 s, .nilIface]
  | Option.none => .tuple #[.int .i64 0, .iface 59 (.int .i64 12)]
set_option maxRecDepth 20000 in
set_option maxHeartbeats 2000000 in
theorem CSum_any (A : Option Addr) (n c B : Nat) (l : List Int) (w : World) (hR : Rv w B A (l.map encC)) (hn : l.length = n) (hnc : n ≤ c) (hcm : c ≤ maxLen) (hl : ∀ u ∈ l, Fits u) :
    Calls Tryz.prog 102 #[.slice A n c] w fun e w' => e = .returned (sumV (sumO l)) ∧ w = w' := by
  unfold maxLen at hcm
  have HR := Lib.hid hR
  have HN := Lib.hid hn
  have HL := Lib.hid hl
  clear hR hn hl
  go_enter Tryz.func102, Tryz.ntmps102
  go_wp2_with fail
  go_loop [4, 11] (fun v i => ∃ (k : Nat) (s : Int), k ≤ n ∧ i = .int .i64 k ∧ v = .int .i64 s ∧ Fits s ∧ Hid (sumO (l.take k) = some s)) (fun _ i => n - (intOf i).toNat)
  case atStart => exact ⟨0, 0, Nat.zero_le _, rfl, rfl, by decide, Lib.hid rfl⟩
  case round =>
    obtain ⟨k, s, hk, rfl, rfl, hs, HS⟩ := hrel
    by_cases hlt : k < n
    · have hkl : k < l.length := by rw [HN.out]; exact hlt
      obtain ⟨b, o, rfl, hb, hc⟩ := HR.out.at_ (k := k) (by rw [List.length_map]; exact hkl)
      rw [List.getElem_map] at hc
      unfold encC at hc
      have hx := sumO_next l k hkl
      have ha : Fits (l[k]'hkl) := HL.out _ (List.getElem_mem hkl)
      obtain ⟨a, hae⟩ : ∃ a, l[k]'hkl = a := ⟨_, rfl⟩
      rw [hae] at hc hx ha
      rw [HS.out] at hx
      have cA := fun W => CoinAdd_any s a hs ha W
      clear hae hkl
      by_cases hf : Fits (s + a)
      · have HX := Lib.hid (hx.trans (if_pos hf))
        simp only [hf, if_true] at cA
        have hf1 := hf.1
        have hf2 := hf.2
        have HF := Lib.hid hf
        clear hx hs ha hf
        go_wp2_with (go_at_call 82; refine (cA _).mono ?_; rintro e w' ⟨rfl, rfl⟩)
        go_round
        case rel => exact ⟨k + 1, s + a, by omega, by go_num, rfl, HF.out, HX⟩
        case measure => simp [intOf]; omega
      · have hz : sumO l = Option.none := sumO_stop l (k + 1) (hx.trans (if_neg hf))
        have HZ := Lib.hid (show sumV (sumO l) = _ from congrArg sumV hz)
        simp only [hf, if_false] at cA
        clear hx hs ha hf hz
        go_wp2_with (go_at_call 82; refine (cA _).mono ?_; rintro e w' ⟨rfl, rfl⟩)
        go_ret2
        exact ⟨by rw [HZ.out]; rfl, rfl⟩
    · have hkn : k = n := by omega
      subst hkn
      have HZ := Lib.hid (show sumV (sumO l) = sumV (some s) by rw [← HS.out, List.take_of_length_le (by rw [HN.out]; exact Nat.le_refl _)])
      go_wp2_with fail
      go_ret2
      exact ⟨by rw [HZ.out]; rfl, rfl⟩
end Go.Proofs.YtdnnkdldolhbpaaGreatDoor
namespace Go.Proofs.YtdnnkdldolhbpaaGreatDoor

def leapB (y : Int) : Bool := decide (1 ≤ y ∧ y ≤ 9999 ∧ (y % 4 = 0 ∧ y % 100 ≠ 0 ∨ y % 400 = 0))
def lp (y : Int) : Int := if leapB y = true then 1 else 0
def mlen (y m : Int) : Int :=
  if 1 ≤ y ∧ y ≤ 9999 ∧ 1 ≤ m ∧ m ≤ 12 then
    if m = 2 then 28 + lp y else if m = 4 ∨ m = 6 ∨ m = 9 ∨ m = 11 then 30 else 31
  else 0
def dby (y : Int) : Int := 365 * (y - 1) + (y - 1) / 4 - (y - 1) / 100 + (y - 1) / 400
def cum (y m : Int) : Int :=
  if m ≤ 1 then 0 else if m = 2 then 31 else lp y + (if m = 3 then 59 else if m = 4 then 90 else if m = 5 then 120 else if m = 6 then 151 else if m = 7 then 181 else if m = 8 then 212 else if m = 9 then 243 else if m = 10 then 273 else if m = 11 then 304 else if m = 12 then 334 else 365)
def num (y m d : Int) : Int := dby y + cum y m + d - 1
def rightB (y m d : Int) : Bool := decide (1 ≤ d ∧ d ≤ mlen y m)

theorem leap_iff (y : Int) : leapB y = true ↔ 1 ≤ y ∧ y ≤ 9999 ∧ (y % 4 = 0 ∧ y % 100 ≠ 0 ∨ y % 400 = 0) := by unfold leapB; simp
theorem lp_01 (y : Int) : 0 ≤ lp y ∧ lp y ≤ 1 := by unfold lp; split <;> omega
theorem mlen_bd (y m : Int) : 0 ≤ mlen y m ∧ mlen y m ≤ 31 := by
  have := lp_01 y
  unfold mlen; (repeat' split) <;> omega
theorem mlen_lo (y m : Int) (h1 : 1 ≤ y) (h2 : y ≤ 9999) (h3 : 1 ≤ m) (h4 : m ≤ 12) : 28 ≤ mlen y m := by
  have := lp_01 y
  unfold mlen; rw [if_pos ⟨h1, h2, h3, h4⟩]; (repeat' split) <;> omega
theorem mlen_no (y m : Int) (h : y < 1 ∨ 9999 < y ∨ m < 1 ∨ 12 < m) : mlen y m = 0 := by
  unfold mlen; rw [if_neg (by omega)]
theorem right_iff (y m d : Int) : rightB y m d = true ↔ 1 ≤ d ∧ d ≤ mlen y m := by unfold rightB; simp
theorem right_in {y m d : Int} (h : rightB y m d = true) : 1 ≤ y ∧ y ≤ 9999 ∧ 1 ≤ m ∧ m ≤ 12 ∧ 1 ≤ d ∧ d ≤ mlen y m := by
  have h' := (right_iff y m d).1 h
  have : ¬ (y < 1 ∨ 9999 < y ∨ m < 1 ∨ 12 < m) := fun h => by rw [mlen_no y m h] at h'; omega
  omega
theorem cum_one (y : Int) : cum y 1 = 0 := rfl
theorem cum_succ (y m : Int) (h1 : 1 ≤ y) (h2 : y ≤ 9999) (h3 : 1 ≤ m) (h4 : m ≤ 12) : cum y (m + 1) = cum y m + mlen y m := by
  have hm : m = 1 ∨ m = 2 ∨ m = 3 ∨ m = 4 ∨ m = 5 ∨ m = 6 ∨ m = 7 ∨ m = 8 ∨ m = 9 ∨ m = 10 ∨ m = 11 ∨ m = 12 := by omega
  rcases hm with rfl | rfl | rfl | rfl | rfl | rfl | rfl | rfl | rfl | rfl | rfl | rfl <;> simp [cum, mlen, h1, h2] <;> omega
theorem cum_bd (y m : Int) : 0 ≤ cum y m ∧ cum y m ≤ 365 + lp y := by
  have := lp_01 y
  unfold cum; (repeat' split) <;> omega
theorem cum_13 (y : Int) : cum y 13 = 365 + lp y := by simp [cum]; omega
theorem dby_succ (y : Int) (h1 : 1 ≤ y) (h2 : y ≤ 9999) : dby (y + 1) = dby y + 365 + lp y := by
  unfold lp dby
  by_cases h : leapB y = true
  · rw [if_pos h]; rw [leap_iff] at h; omega
  · rw [if_neg h]; rw [leap_iff] at h; omega
theorem dby_mono (a b : Int) (h : a ≤ b) : dby a ≤ dby b := by unfold dby; omega
theorem dby_lo (y : Int) (h : 1 ≤ y) : 365 * (y - 1) ≤ dby y := by unfold dby; omega
theorem dby_hi (y : Int) (h : 1 ≤ y) : dby y ≤ 366 * (y - 1) := by unfold dby; omega
theorem dby_end : dby 10000 = 3652059 := by decide
theorem dby_one : dby 1 = 0 := by decide

/-- A day's year, as the code reckons it. -/
def yr (n : Int) : Int :=
  400 * (n / 146097) + 100 * min (n % 146097 / 36524) 3 + 4 * ((n % 146097 - min (n % 146097 / 36524) 3 * 36524) / 1461)
    + min ((n % 146097 - min (n % 146097 / 36524) 3 * 36524) % 1461 / 365) 3 + 1
theorem yr_spec (n : Int) (h0 : 0 ≤ n) (h1 : n ≤ 3652058) : 1 ≤ yr n ∧ yr n ≤ 9999 ∧ dby (yr n) ≤ n ∧ n < dby (yr n) + 365 + lp (yr n) := by
  obtain ⟨a, ha⟩ : ∃ a, n / 146097 = a := ⟨_, rfl⟩
  obtain ⟨r, hr⟩ : ∃ r, n % 146097 = r := ⟨_, rfl⟩
  have e0 : n = 146097 * a + r := by omega
  have r0 : 0 ≤ r ∧ r < 146097 := by omega
  obtain ⟨h, hh⟩ : ∃ h, min (r / 36524) 3 = h := ⟨_, rfl⟩
  have b1 : 0 ≤ h ∧ h ≤ 3 ∧ 36524 * h ≤ r ∧ (h < 3 → r < 36524 * (h + 1)) := by omega
  obtain ⟨f, hf⟩ : ∃ f, (r - h * 36524) / 1461 = f := ⟨_, rfl⟩
  obtain ⟨s, hs⟩ : ∃ s, (r - h * 36524) % 1461 = s := ⟨_, rfl⟩
  have e1 : r = 36524 * h + 1461 * f + s := by omega
  have b2 : 0 ≤ s ∧ s < 1461 ∧ 0 ≤ f ∧ f ≤ 24 := by omega
  obtain ⟨k, hk⟩ : ∃ k, min (s / 365) 3 = k := ⟨_, rfl⟩
  have b3 : 0 ≤ k ∧ k ≤ 3 ∧ 365 * k ≤ s ∧ (k < 3 → s < 365 * (k + 1)) := by omega
  have ey : yr n = 400 * a + 100 * h + 4 * f + k + 1 := by unfold yr; rw [ha, hr, hh, hf, hs, hk]
  rw [ey]
  clear ey hh hf hs hk ha hr
  subst e0
  subst e1
  have ea : 0 ≤ a ∧ a ≤ 24 := by omega
  have t1 : (400 * a + 100 * h + 4 * f + k + 1 - 1) / 4 = 100 * a + 25 * h + f := by omega
  have t2 : (400 * a + 100 * h + 4 * f + k + 1 - 1) / 100 = 4 * a + h := by omega
  have t3 : (400 * a + 100 * h + 4 * f + k + 1 - 1) / 400 = a := by omega
  have ed : dby (400 * a + 100 * h + 4 * f + k + 1) = 146097 * a + 36524 * h + 1461 * f + 365 * k := by unfold dby; rw [t1, t2, t3]; omega
  clear t1 t2 t3
  rw [ed]
  have el : k = 3 → f < 24 ∨ h = 3 → lp (400 * a + 100 * h + 4 * f + k + 1) = 1 := by
    intro h1 h2
    unfold lp
    rw [if_pos]
    rw [leap_iff]
    omega
  have := lp_01 (400 * a + 100 * h + 4 * f + k + 1)
  refine ⟨by omega, by omega, by omega, ?_⟩
  by_cases h3 : k < 3
  · omega
  · have hk3 : k = 3 := by omega
    by_cases h4 : f < 24 ∨ h = 3
    · have := el hk3 h4
      omega
    · omega
theorem yr_unique (n y : Int) (h0 : 0 ≤ n) (h1 : n ≤ 3652058) (a : 1 ≤ y) (b : y ≤ 9999) (c : dby y ≤ n) (d : n < dby y + 365 + lp y) : y = yr n := by
  obtain ⟨e1, e2, e3, e4⟩ := yr_spec n h0 h1
  rw [show dby y + 365 + lp y = dby (y + 1) from (dby_succ y a b).symm] at d
  rw [show dby (yr n) + 365 + lp (yr n) = dby (yr n + 1) from (dby_succ _ e1 e2).symm] at e4
  rcases Int.lt_trichotomy y (yr n) with h | h | h
  · have := dby_mono (y + 1) (yr n) (by omega); omega
  · exact h
  · have := dby_mono (yr n + 1) y (by omega); omega

/-- The month of a year's day. -/
def mo (y r : Int) : Int :=
  if r < cum y 2 then 1 else if r < cum y 3 then 2 else if r < cum y 4 then 3 else if r < cum y 5 then 4 else if r < cum y 6 then 5 else if r < cum y 7 then 6
  else if r < cum y 8 then 7 else if r < cum y 9 then 8 else if r < cum y 10 then 9 else if r < cum y 11 then 10 else if r < cum y 12 then 11 else 12
theorem mo_spec (y r : Int) (h0 : 0 ≤ r) (h1 : r < 365 + lp y) : 1 ≤ mo y r ∧ mo y r ≤ 12 ∧ cum y (mo y r) ≤ r ∧ r < cum y (mo y r + 1) := by
  have c1 := cum_one y
  have c13 := cum_13 y
  unfold mo
  (repeat' split) <;> (refine ⟨by omega, by omega, ?_, ?_⟩ <;> first | (show _ < cum y 13; omega) | (simp only [Int.reduceAdd]; omega) | omega)
theorem cum_mono (y a b : Int) (h1 : 1 ≤ y) (h2 : y ≤ 9999) (ha : 1 ≤ a) (hab : a ≤ b) (hb : b ≤ 13) : cum y a ≤ cum y b := by
  obtain ⟨k, rfl⟩ : ∃ k : Nat, b = a + k := ⟨(b - a).toNat, by omega⟩
  clear hab
  induction k with
  | zero => simp
  | succ k ih =>
    have := cum_succ y (a + k) h1 h2 (by omega) (by omega)
    have e : a + ((k + 1 : Nat) : Int) = a + k + 1 := by omega
    have := mlen_bd y (a + k)
    rw [e]
    have := ih (by omega)
    omega
theorem mo_unique (y r m : Int) (h1 : 1 ≤ y) (h2 : y ≤ 9999) (a : 1 ≤ m) (b : m ≤ 12) (c : cum y m ≤ r) (d : r < cum y (m + 1)) : m = mo y r := by
  have h0 : 0 ≤ r := by have := cum_bd y m; omega
  have hr : r < 365 + lp y := by have := cum_bd y (m + 1); omega
  obtain ⟨e1, e2, e3, e4⟩ := mo_spec y r h0 hr
  rcases Int.lt_trichotomy m (mo y r) with h | h | h
  · have := cum_mono y (m + 1) (mo y r) h1 h2 (by omega) (by omega) (by omega); omega
  · exact h
  · have := cum_mono y (mo y r + 1) m h1 h2 (by omega) (by omega) (by omega); omega

/-- A day's date. -/
def cY (n : Int) : Int := yr n
def cM (n : Int) : Int := mo (yr n) (n - dby (yr n))
def cD (n : Int) : Int := n - dby (yr n) - cum (yr n) (cM n) + 1
theorem civ_right (n : Int) (h0 : 0 ≤ n) (h1 : n ≤ 3652058) : rightB (cY n) (cM n) (cD n) = true ∧ num (cY n) (cM n) (cD n) = n := by
  obtain ⟨a, b, c, d⟩ := yr_spec n h0 h1
  obtain ⟨e1, e2, e3, e4⟩ := mo_spec (yr n) (n - dby (yr n)) (by omega) (by omega)
  have := cum_succ (yr n) (mo (yr n) (n - dby (yr n))) a b e1 e2
  rw [right_iff]
  unfold num cY cD cM
  refine ⟨⟨by omega, by omega⟩, by omega⟩
theorem num_in {y m d : Int} (h : rightB y m d = true) : dby y ≤ num y m d ∧ num y m d < dby y + 365 + lp y ∧ cum y m ≤ num y m d - dby y ∧ num y m d - dby y < cum y (m + 1) ∧ 0 ≤ num y m d ∧ num y m d ≤ 3652058 := by
  obtain ⟨a, b, c, d1, e, f⟩ := right_in h
  have c1 := cum_bd y m
  have c2 := cum_bd y (m + 1)
  have c3 := cum_succ y m a b c d1
  have c4 := dby_succ y a b
  have c5 := dby_mono 1 y a
  have c6 := dby_mono (y + 1) 10000 (by omega)
  rw [dby_one] at c5
  rw [dby_end] at c6
  unfold num
  omega
theorem civ_unique {y m d : Int} (h : rightB y m d = true) : cY (num y m d) = y ∧ cM (num y m d) = m ∧ cD (num y m d) = d := by
  obtain ⟨a, b, c, d1, e, f⟩ := right_in h
  obtain ⟨g1, g2, g3, g4, g5, g6⟩ := num_in h
  have hy := yr_unique (num y m d) y g5 g6 a b g1 g2
  have hm := mo_unique y (num y m d - dby y) m a b c d1 g3 g4
  have e1 : cY (num y m d) = y := hy.symm
  have e2 : cM (num y m d) = m := by unfold cM; rw [← hy]; exact hm.symm
  refine ⟨e1, e2, ?_⟩
  unfold cD
  rw [e2, ← hy]
  unfold num
  omega
theorem civ_in (n : Int) (h0 : 0 ≤ n) (h1 : n ≤ 3652058) : 1 ≤ cY n ∧ cY n ≤ 9999 ∧ 1 ≤ cM n ∧ cM n ≤ 12 ∧ 1 ≤ cD n ∧ cD n ≤ mlen (cY n) (cM n) ∧ cD n ≤ 31 := by
  have := right_in (civ_right n h0 h1).1
  have := mlen_bd (cY n) (cM n)
  omega
/-- The next day's date. -/
theorem civ_next (n : Int) (h0 : 0 ≤ n) (h1 : n < 3652058) :
    (cD n < mlen (cY n) (cM n) ∧ cY (n + 1) = cY n ∧ cM (n + 1) = cM n ∧ cD (n + 1) = cD n + 1) ∨
    (cD n = mlen (cY n) (cM n) ∧ cM n < 12 ∧ cY (n + 1) = cY n ∧ cM (n + 1) = cM n + 1 ∧ cD (n + 1) = 1) ∨
    (cD n = mlen (cY n) (cM n) ∧ cM n = 12 ∧ cY n < 9999 ∧ cY (n + 1) = cY n + 1 ∧ cM (n + 1) = 1 ∧ cD (n + 1) = 1) := by
  obtain ⟨hr, hn⟩ := civ_right n h0 (by omega)
  obtain ⟨a, b, c, d, e, f, _⟩ := civ_in n h0 (by omega)
  obtain ⟨y, ey⟩ : ∃ y, cY n = y := ⟨_, rfl⟩
  obtain ⟨m, em⟩ : ∃ m, cM n = m := ⟨_, rfl⟩
  obtain ⟨k, ek⟩ : ∃ k, cD n = k := ⟨_, rfl⟩
  simp only [ey, em, ek] at hr hn a b c d e f ⊢
  clear ey em ek
  have cs := cum_succ y m a b c d
  by_cases h : k < mlen y m
  · have hr' : rightB y m (k + 1) = true := (right_iff _ _ _).2 (by omega)
    have en : num y m (k + 1) = n + 1 := by unfold num at *; omega
    have := civ_unique hr'
    rw [en] at this
    exact Or.inl ⟨h, this⟩
  · have hk : k = mlen y m := by omega
    by_cases h2 : m < 12
    · have l1 := mlen_lo y (m + 1) a b (by omega) (by omega)
      have hr' : rightB y (m + 1) 1 = true := (right_iff _ _ _).2 (by omega)
      have en : num y (m + 1) 1 = n + 1 := by unfold num at *; omega
      have := civ_unique hr'
      rw [en] at this
      exact Or.inr (Or.inl ⟨hk, h2, this⟩)
    · have h12 : m = 12 := by omega
      subst h12
      have c13 := cum_13 y
      have ds := dby_succ y a b
      have cs' : cum y 13 = cum y 12 + mlen y 12 := cs
      have hy : y < 9999 := by
        rcases Int.lt_or_le y 9999 with h | h
        · exact h
        · exfalso
          have e9 : y = 9999 := by omega
          subst e9
          have := dby_end
          have ds' : dby 10000 = dby 9999 + 365 + lp 9999 := ds
          unfold num at hn
          omega
      have l1 := mlen_lo (y + 1) 1 (by omega) (by omega) (by omega) (by omega)
      have hr' : rightB (y + 1) 1 1 = true := (right_iff _ _ _).2 (by omega)
      have en : num (y + 1) 1 1 = n + 1 := by unfold num at *; rw [cum_one]; omega
      have := civ_unique hr'
      rw [en] at this
      exact Or.inr (Or.inr ⟨hk, rfl, hy, this⟩)
end Go.Proofs.YtdnnkdldolhbpaaGreatDoor
namespace Go.Proofs.YtdnnkdldolhbpaaGreatDoor
open Go.RowKit

theorem leap_yes {y : Int} (h1 : 1 ≤ y) (h2 : y ≤ 9999) (h : y % 4 = 0 ∧ y % 100 ≠ 0 ∨ y % 400 = 0) : leapB y = true := (leap_iff y).2 ⟨h1, h2, h⟩
theorem leap_no {y : Int} (h : ¬ (1 ≤ y ∧ y ≤ 9999 ∧ (y % 4 = 0 ∧ y % 100 ≠ 0 ∨ y % 400 = 0))) : leapB y = false := by
  cases hb : leapB y
  · rfl
  · exact absurd ((leap_iff y).1 hb) h
/-- A day that there is. -/
def dayB (d : Int) : Bool := decide (0 ≤ d ∧ d ≤ 3652058)
theorem day_yes {d : Int} (h0 : 0 ≤ d) (h1 : d ≤ 3652058) : dayB d = true := by unfold dayB; simp [h0, h1]
theorem day_no {d : Int} (h : d < 0 ∨ 3652058 < d) : dayB d = false := by unfold dayB; simp; omega
set_option maxHeartbeats 1000000 in
theorem DRight_any (d : Int) (w : World) : Calls Tryz.prog 70 #[.int .i32 d] w fun e w' => e = .returned (.bool (dayB d)) ∧ w = w' := by
  by_cases h0 : 0 ≤ d
  · by_cases h1 : d ≤ 3652058
    · rw [day_yes h0 h1]
      go_enter Tryz.func70, Tryz.ntmps70
      go_wp2
      go_ret
      exact ⟨rfl, rfl⟩
    · rw [day_no (by omega)]
      go_enter Tryz.func70, Tryz.ntmps70
      go_wp2
      go_ret
      exact ⟨rfl, rfl⟩
  · rw [day_no (by omega)]
    go_enter Tryz.func70, Tryz.ntmps70
    go_wp2
    go_ret
    exact ⟨rfl, rfl⟩

end Go.Proofs.YtdnnkdldolhbpaaGreatDoor
namespace Go.Proofs.YtdnnkdldolhbpaaGreatDoor
open Go.ChangeShapes Go.WideShapes Go.ChangeAt Go.RowKit

theorem infoCo : (Tryz.prog.info? 51).map (fun i => (i.zero, i.size, i.bytes)) = some (some (.int .i64 0), 1, 8) := by kernel_rfl
/-- Numbers, cell by cell. -/
def oneA (F : Nat → Int) (n : Nat) : Array Value := Array.ofFn (n := n) (fun j => Value.int .i64 (F j.val))
theorem oneA_get (F : Nat → Int) (n j : Nat) : (oneA F n)[j]? = if j < n then some (.int .i64 (F j)) else Option.none := by
  unfold oneA
  rw [Array.getElem?_ofFn]
  split <;> rfl
theorem oneA_at (F : Nat → Int) {n k : Nat} (h : k < n) : (oneA F n)[k]? = some (.int .i64 (F k)) := by rw [oneA_get, if_pos h]
def partO (F : Nat → Int) (k i : Nat) : Int := if i < k then F i else 0
theorem oneA_set (F : Nat → Int) {n k : Nat} (h : k < n) {x : Int} (hx : F k = x) :
    (oneA (partO F k) n).setIfInBounds k (.int .i64 x) = oneA (partO F (k + 1)) n := by
  apply Array.ext_getElem?
  intro j
  have hs : (oneA (partO F k) n).size = n := by simp [oneA]
  rw [Array.getElem?_setIfInBounds, hs, oneA_get, oneA_get]
  unfold partO
  by_cases h0 : k = j
  · subst h0
    rw [if_pos rfl, if_pos h, if_pos h, if_pos (by omega), hx]
  · rw [if_neg h0]
    by_cases hj : j < n
    · rw [if_pos hj, if_pos hj]
      by_cases hk : j < k
      · rw [if_pos hk, if_pos (by omega)]
      · rw [if_neg hk, if_neg (by omega)]
    · rw [if_neg hj, if_neg hj]
theorem oneA_ext {F G : Nat → Int} {n : Nat} (h : ∀ i, i < n → F i = G i) : oneA F n = oneA G n := by
  apply Array.ext_getElem?
  intro j
  rw [oneA_get, oneA_get]
  by_cases hj : j < n
  · rw [if_pos hj, if_pos hj, h _ hj]
  · rw [if_neg hj, if_neg hj]
theorem makeCoins (n : Nat) (hn : n ≤ 100000) (u : World) :
    (Instr.makeSlice 183 (.int .i64 (n : Int)) (.int .i64 (n : Int))).run Tryz.prog u = .ok (.slice (some ⟨u.heap.size, 0, none⟩) n n) (u.alloc (.cells (oneA (fun _ => 0) n) 51)) := by
  obtain ⟨i0, hi, hz0, hz1, hz2⟩ := info_parts infoCo
  have h := run_make (P := Tryz.prog) u 183 51 i0 (.int .i64 0) Tryz.underlying183 hi hz0 .i64 .i64 (n : Int) (n : Int) (by omega) (Int.le_refl _) (by rw [hz2]; omega) (by omega)
  rw [Int.toNat_natCast, hz1, show Value.cells (.int .i64 0) = #[.int .i64 0] from rfl, Nat.mul_one] at h
  have e : madeCells #[.int .i64 0] n = oneA (fun _ => 0) n := by
    apply Array.ext_getElem?
    intro j
    rw [oneA_get]
    by_cases hj : j < n
    · rw [if_pos hj]
      simp [madeCells, hj, Nat.mod_one]
    · rw [if_neg hj]
      simp [madeCells, hj]
  rw [e] at h
  exact h
def amts (l : List (Nat × Int)) : List Int := l.map (·.2)
theorem amts_len (l : List (Nat × Int)) : (amts l).length = l.length := by simp [amts]
theorem amts_at {l : List (Nat × Int)} {k : Nat} (h : k < (amts l).length) : (amts l)[k] = (l[k]'(by rw [amts_len] at h; exact h)).2 := by simp [amts]
theorem ones_rv {w : World} {g : Nat} {F : Nat → Int} {l : List Int} (h : Blk w g 51 (oneA F l.length)) (hF : ∀ i, (hi : i < l.length) → F i = l[i]) : Rv w w.heap.size (some ⟨g, 0, none⟩) (l.map encC) := fun _ =>
  ⟨g, 0, rfl, h.lt, fun j u hu => by
    rw [List.getElem?_map] at hu
    obtain ⟨x, hx, rfl⟩ := Option.map_eq_some_iff.1 hu
    obtain ⟨hj, he⟩ := List.getElem?_eq_some_iff.1 hx
    rw [Nat.zero_add, h.cell, oneA_at F hj, hF j hj, he]
    rfl⟩
set_option maxRecDepth 100000 in
set_option maxHeartbeats 4000000 in
theorem Bal_any (A : Option Addr) (n c B : Nat) (l : List (Nat × Int)) (w : World) (hR : Rs legT w B A l) (hn : l.length = n) (hm : n ≤ 100000) (hB : B ≤ w.heap.size) (hI : ∀ u ∈ l, LegIn u) :
    Calls Tryz.prog 72 #[.slice A n c] w (Ret (.bool (decide (sumO (amts l) = some 0))) w) := by
  subst hn
  obtain ⟨q, hq⟩ : ∃ q, decide (sumO (amts l) = some 0) = q := ⟨_, rfl⟩
  rw [hq]
  have HQ := Lib.hid hq
  clear hq
  have hmS := fun W => makeCoins l.length hm W
  have HR := Lib.hid hR
  have HI := Lib.hid hI
  clear hR hI
  go_enter Tryz.func72, Tryz.ntmps72
  go_wp2_with fail
  have HA := Lib.hid (Blk.new w 51 (oneA (fun _ => 0) l.length))
  have HB0 := Lib.hid (b_alloc w (.cells (oneA (fun _ => 0) l.length) 51))
  clear hmS
  go_loopw [4, 5, 13] (fun _ _ i wr => ∃ (k : Nat), k ≤ l.length ∧ i = .int .i64 k ∧ Hid (Blk wr w.heap.size 51 (oneA (partO (fun i => (l.getD i (0, 0)).2) k) l.length)) ∧ Hid (Below w.heap.size w wr)) (fun _ _ i _ => l.length - (intOf i).toNat)
  case atStart => exact ⟨0, Nat.zero_le _, rfl, Lib.hid (by have := HA.out; rwa [oneA_ext (G := partO (fun i => (l.getD i (0, 0)).2) 0) (fun i _ => by unfold partO; rw [if_neg (by omega)])] at this), HB0⟩
  case round =>
    obtain ⟨k, hk, rfl, HAk, HBL⟩ := hrel
    by_cases hlt : k < l.length
    · obtain ⟨b1, o1, rfl, hb1, d0, d1⟩ := HR.out.leg hlt
      have d0 := (HBL.out.cell (p := ⟨b1, o1 + k * 2, none⟩) (by exact Nat.lt_of_lt_of_le hb1 hB)).trans d0
      have d1 := (HBL.out.cell (p := ⟨b1, o1 + k * 2 + 1, none⟩) (by exact Nat.lt_of_lt_of_le hb1 hB)).trans d1
      have hgd := getD_leg hlt
      obtain ⟨x, hx⟩ : ∃ x, (l[k]).1 = x := ⟨_, rfl⟩
      obtain ⟨z, hz⟩ : ∃ z, (l[k]).2 = z := ⟨_, rfl⟩
      have HZ := Lib.hid (show (l.getD k (0, 0)).2 = z by rw [hgd, hz])
      rw [hx] at d0
      rw [hz] at d1
      have HA2 := Lib.hid (HAk.out.alloc (.cells #[.int .u8 (x : Int), .int .i64 z] 53))
      have HB2 := Lib.hid (HBL.out.alloc HBL.out.size (.cells #[.int .u8 (x : Int), .int .i64 z] 53))
      have a0 := (HAk.out.cell k).trans (oneA_at _ hlt)
      have f0 := HAk.out.frozen k
      have al := HAk.out.lt
      clear hx hz hgd
      go_wp2_with fail
      go_roundw
      case rel =>
        refine ⟨k + 1, by omega, by go_num, Lib.hid ?_, Lib.hid ((HBL.out.setCell (p := ⟨w.heap.size, k, none⟩) (Nat.le_refl _) (.int .i64 z)).alloc (HBL.out.setCell (p := ⟨w.heap.size, k, none⟩) (Nat.le_refl _) (.int .i64 z)).size (.cells #[.int .u8 (x : Int), .int .i64 z] 53))⟩
        have h3 := (HAk.out.set_ k (.int .i64 z)).alloc (.cells #[.int .u8 (x : Int), .int .i64 z] 53)
        rwa [oneA_set _ hlt HZ.out] at h3
      case measure => simp [intOf]; omega
    · obtain rfl : k = l.length := by omega
      have hrv := ones_rv (l := amts l) (by have h3 := HAk.out; rw [amts_len]; exact h3) (fun i hi => by
        unfold partO
        rw [amts_len] at hi
        rw [if_pos hi]
        show (l.getD i (0, 0)).2 = _
        rw [getD_leg hi, amts_at (by rw [amts_len]; exact hi)])
      have hS := CSum_any (some ⟨w.heap.size, 0, none⟩) l.length l.length wr.heap.size (amts l) wr hrv (amts_len l) (Nat.le_refl _) (by unfold maxLen; omega) (fun u hu => by
        obtain ⟨g, hg, rfl⟩ := List.mem_map.1 hu
        exact (HI.out g hg).2)
      clear hrv hlt hk
      cases hs : sumO (amts l) with
      | none =>
        rw [hs] at hS
        unfold sumV at hS
        obtain rfl : q = false := by rw [← HQ.out, hs]; simp
        clear hs
        go_wp2_with fail
        refine hS.mono ?_
        rintro e w9 ⟨rfl, rfl⟩
        clear hS
        go_wp2_with fail
        go_ret
        exact ⟨rfl, HBL.out⟩
      | some s =>
        rw [hs] at hS
        unfold sumV at hS
        simp only [] at hS
        by_cases h0 : s = 0
        · subst h0
          obtain rfl : q = true := by rw [← HQ.out, hs]; simp
          clear hs
          go_wp2_with fail
          refine hS.mono ?_
          rintro e w9 ⟨rfl, rfl⟩
          clear hS
          go_wp2_with fail
          go_ret
          exact ⟨rfl, HBL.out⟩
        · obtain rfl : q = false := by rw [← HQ.out, hs]; simp [h0]
          clear hs
          have h1 : (s == 0) = false := by rw [beq_eq_false_iff_ne]; exact h0
          go_wp2_with fail
          refine hS.mono ?_
          rintro e w9 ⟨rfl, rfl⟩
          clear hS
          go_wp2_with fail
          go_ret
          exact ⟨by first | rfl | (apply ret_bool; simp [h0]), HBL.out⟩
/-- May an entry be? -/
def entB (y : Ky) (l : List (Nat × Int)) : Bool := decide (1 ≤ y.k ∧ y.k ≤ 7) && (dayB y.d && (decide (1 ≤ l.length ∧ l.length ≤ 8) && (risTo l l.length && decide (sumO (amts l) = some 0))))
set_option maxRecDepth 100000 in
set_option maxHeartbeats 4000000 in
theorem Right_any13 (y : Ky) (A : Option Addr) (n c B : Nat) (l : List (Nat × Int)) (w : World) (hR : Rs legT w B A l) (hn : l.length = n) (hm : n ≤ 100000) (hB : B ≤ w.heap.size) (hI : ∀ u ∈ l, LegIn u) :
    Calls Tryz.prog 41 #[entV y (.slice A n c)] w (Ret (.bool (entB y l)) w) := by
  subst hn
  have hK := fun W => Kind_any y.k W
  have hD := fun W => DRight_any y.d W
  have hRi := fun W (h : Below w.heap.size w W) => Rising_any A l.length c B l W (hR.below (h.mono hB)) rfl hm (Nat.le_trans hB h.size)
  have hBa := fun W (h : Below w.heap.size w W) => Bal_any A l.length c B l W (hR.below (h.mono hB)) rfl hm (Nat.le_trans hB h.size) hI
  unfold entV entC entB
  clear hR hI
  have HQ0 := Lib.hid (Blk.new w 40 #[.int .u32 (y.a : Int), .int .i32 y.d, .int .u8 (y.k : Int), .int .u32 (y.s : Int), .slice A l.length c])
  have HB0 := Lib.hid (b_alloc w (.cells #[.int .u32 (y.a : Int), .int .i32 y.d, .int .u8 (y.k : Int), .int .u32 (y.s : Int), .slice A l.length c] 40))
  by_cases hk : 1 ≤ y.k ∧ y.k ≤ 7
  · obtain ⟨a0, tl, hne⟩ := kindS_some hk
    rw [decide_eq_true hk, Bool.true_and]
    cases hd : dayB y.d
    · rw [hd] at hD
      rw [Bool.false_and]
      clear hk hd
      go_enter Tryz.func41, Tryz.ntmps41
      go_wp2_with fail
      refine (hK _).mono ?_
      rintro e w1 ⟨rfl, rfl⟩
      go_wp2_with fail
      refine (hD _).mono ?_
      rintro e w2 ⟨rfl, rfl⟩
      go_wp2_with fail
      go_ret
      exact ⟨rfl, HB0.out⟩
    · rw [hd] at hD
      rw [Bool.true_and]
      clear hk hd
      by_cases hl : 1 ≤ l.length ∧ l.length ≤ 8
      · rw [decide_eq_true hl, Bool.true_and]
        obtain ⟨l0, l1⟩ := hl
        have g0 : ¬ (l.length : Int) < 1 := by omega
        have g1 : ¬ (8 : Int) < (l.length : Int) := by omega
        cases hr : risTo l l.length
        · rw [hr] at hRi
          rw [Bool.false_and]
          clear hr
          go_enter Tryz.func41, Tryz.ntmps41
          go_wp2_with fail
          refine (hK _).mono ?_
          rintro e w1 ⟨rfl, rfl⟩
          go_wp2_with fail
          refine (hD _).mono ?_
          rintro e w2 ⟨rfl, rfl⟩
          go_wp2_with fail
          refine (hRi _ HB0.out).mono ?_
          rintro e w3 ⟨rfl, hb3⟩
          have HB3 := Lib.hid (HB0.out.trans (hb3.mono HB0.out.size))
          clear hb3
          go_wp2_with fail
          go_ret
          exact ⟨rfl, HB3.out⟩
        · rw [hr] at hRi
          rw [Bool.true_and]
          clear hr
          generalize decide (sumO (amts l) = some 0) = q at hBa ⊢
          go_enter Tryz.func41, Tryz.ntmps41
          go_wp2_with fail
          refine (hK _).mono ?_
          rintro e w1 ⟨rfl, rfl⟩
          go_wp2_with fail
          refine (hD _).mono ?_
          rintro e w2 ⟨rfl, rfl⟩
          go_wp2_with fail
          refine (hRi _ HB0.out).mono ?_
          rintro e w3 ⟨rfl, hb3⟩
          have HQ3 := Lib.hid (HQ0.out.below hb3 HQ0.out.lt)
          have HB3 := Lib.hid (HB0.out.trans (hb3.mono HB0.out.size))
          clear hb3
          have c4 := HQ3.out.cell 4
          simp at c4
          go_wp2_with fail
          refine (hBa _ HB3.out).mono ?_
          rintro e w4 ⟨rfl, hb4⟩
          have HB4 := Lib.hid (HB3.out.trans (hb4.mono HB3.out.size))
          clear hb4
          go_wp2_with fail
          go_ret
          exact ⟨by first | rfl | simp, HB4.out⟩
      · rw [decide_eq_false hl, Bool.false_and]
        rcases (show l.length < 1 ∨ 8 < l.length by omega) with h | h
        · have g0 : (l.length : Int) < 1 := by omega
          clear hl
          go_enter Tryz.func41, Tryz.ntmps41
          go_wp2_with fail
          refine (hK _).mono ?_
          rintro e w1 ⟨rfl, rfl⟩
          go_wp2_with fail
          refine (hD _).mono ?_
          rintro e w2 ⟨rfl, rfl⟩
          go_wp2_with fail
          go_ret
          exact ⟨rfl, HB0.out⟩
        · have g0 : ¬ (l.length : Int) < 1 := by omega
          have g1 : (8 : Int) < (l.length : Int) := by omega
          clear hl
          go_enter Tryz.func41, Tryz.ntmps41
          go_wp2_with fail
          refine (hK _).mono ?_
          rintro e w1 ⟨rfl, rfl⟩
          go_wp2_with fail
          refine (hD _).mono ?_
          rintro e w2 ⟨rfl, rfl⟩
          go_wp2_with fail
          go_ret
          exact ⟨rfl, HB0.out⟩
  · have hne := kindS_none hk
    rw [decide_eq_false hk, Bool.false_and]
    clear hk
    go_enter Tryz.func41, Tryz.ntmps41
    go_wp2_with fail
    refine (hK _).mono ?_
    rintro e w1 ⟨rfl, rfl⟩
    go_wp2_with fail
    go_ret
    exact ⟨rfl, HB0.out⟩
end Go.Proofs.YtdnnkdldolhbpaaGreatDoor
