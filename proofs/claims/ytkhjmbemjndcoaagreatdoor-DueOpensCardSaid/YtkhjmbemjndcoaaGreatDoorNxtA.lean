/-
  Which days are open; the first open day from one on, as the document has it. Conditions: the days are there.
-/
import Derived.Test.YtkhjmbemjndcoaaGreatDoorSrtL
namespace Go.Proofs.YtkhjmbemjndcoaaGreatDoor
open Go.RowKit

/-- Is something done on a day that there is? -/
def openL (l : List Int) (x : Int) : Bool := decide (x % 7 < 5) && !l.contains x
/-- The first open day from one on, within so many days. -/
def nextL (l : List Int) : Nat → Int → Option Int
  | 0, _ => none
  | f + 1, x => if openL l x then some x else nextL l f (x + 1)
def nextD (l : List Int) (x : Int) : Option Int := nextL l (3652059 - x).toNat x
theorem nextD_yes {l : List Int} {x : Int} (h : x ≤ 3652058) (ho : openL l x = true) : nextD l x = some x := by
  unfold nextD
  obtain ⟨f, hf⟩ : ∃ f, (3652059 - x).toNat = f + 1 := ⟨(3652059 - x).toNat - 1, by omega⟩
  rw [hf]
  simp only [nextL, ho, if_true]
theorem nextD_no {l : List Int} {x : Int} (h : x ≤ 3652058) (ho : openL l x = false) : nextD l x = nextD l (x + 1) := by
  unfold nextD
  obtain ⟨f, hf⟩ : ∃ f, (3652059 - x).toNat = f + 1 := ⟨(3652059 - x).toNat - 1, by omega⟩
  rw [hf, show (3652059 - (x + 1)).toNat = f by omega]
  simp only [nextL, ho]
  rfl
theorem nextD_end {l : List Int} {x : Int} (h : 3652058 < x) : nextD l x = none := by
  unfold nextD
  rw [show (3652059 - x).toNat = 0 by omega]
  rfl
theorem nextD_in (l : List Int) : ∀ (f : Nat) (x : Int), (3652059 - x).toNat = f → ∀ y, nextD l x = some y → x ≤ y ∧ y ≤ 3652058 ∧ openL l y = true ∧ ∀ z, x ≤ z → z < y → openL l z = false := by
  intro f
  induction f with
  | zero => intro x h y hy; rw [nextD_end (by omega)] at hy; cases hy
  | succ f ih =>
    intro x h y hy
    cases ho : openL l x with
    | true =>
      rw [nextD_yes (by omega) ho] at hy
      injection hy with hy
      subst hy
      exact ⟨by omega, by omega, ho, fun z h1 h2 => by omega⟩
    | false =>
      rw [nextD_no (by omega) ho] at hy
      obtain ⟨h1, h2, h3, h4⟩ := ih (x + 1) (by omega) y hy
      exact ⟨by omega, h2, h3, fun z h5 h6 => by
        by_cases e : z = x
        · subst e; exact ho
        · exact h4 z (by omega) h6⟩

def IxRel (l : List Int) (v : Int) (x : Value) (w w' : World) : Prop := ∃ k : Nat, x = .int .i64 k ∧ k ≤ l.length ∧ w' = w ∧ ∀ i, i < k → l.getD i 0 ≠ v
theorem not_mem_of {l : List Int} {v : Int} (h : ∀ i, i < l.length → l.getD i 0 ≠ v) : l.contains v = false := by
  cases hc : l.contains v with
  | false => rfl
  | true =>
    have hm : v ∈ l := by simpa using hc
    obtain ⟨i, hi, e⟩ := List.getElem_of_mem hm
    exact absurd (by rw [List.getD_eq_getElem?_getD, List.getElem?_eq_getElem hi]; exact e) (h i hi)
theorem mem_of {l : List Int} {v : Int} {i : Nat} (hi : i < l.length) (h : l.getD i 0 = v) : l.contains v = true := by
  rw [List.getD_eq_getElem?_getD, List.getElem?_eq_getElem hi] at h
  have : v ∈ l := by rw [← h]; exact List.getElem_mem hi
  simpa using this
theorem rv_at {w : World} {B : Nat} {A : Option Addr} {l : List Int} (hR : Rv w B A (l.map encH)) {k : Nat} (hk : k < l.length) : ∃ b o, A = some ⟨b, o, none⟩ ∧ b < B ∧ w.cell? ⟨b, o + k, none⟩ = some (.int .i32 (l.getD k 0)) := by
  obtain ⟨b, o, hA, hb, c1⟩ := hR.at_ (k := k) (by rw [List.length_map]; exact hk)
  have g1 : (l.map encH)[k]'(by rw [List.length_map]; exact hk) = .int .i32 (l.getD k 0) := by rw [List.getElem_map, List.getD_eq_getElem?_getD, List.getElem?_eq_getElem hk]; rfl
  rw [g1] at c1
  exact ⟨b, o, hA, hb, c1⟩
theorem rv_atN {w : World} {B : Nat} {A : Option Addr} {l : List Int} (hR : Rv w B A (l.map encN)) {k : Nat} (hk : k < l.length) : ∃ b o, A = some ⟨b, o, none⟩ ∧ b < B ∧ w.cell? ⟨b, o + k, none⟩ = some (.int .i64 (l.getD k 0)) := by
  obtain ⟨b, o, hA, hb, c1⟩ := hR.at_ (k := k) (by rw [List.length_map]; exact hk)
  have g1 : (l.map encN)[k]'(by rw [List.length_map]; exact hk) = .int .i64 (l.getD k 0) := by rw [List.getElem_map, List.getD_eq_getElem?_getD, List.getElem?_eq_getElem hk]; rfl
  rw [g1] at c1
  exact ⟨b, o, hA, hb, c1⟩
set_option maxRecDepth 20000 in
theorem Index9 (A : Option Addr) (n c B : Nat) (l : List Int) (v : Int) (w : World) (hR : Rv w B A (l.map encH)) (hn : l.length = n) (hm : n ≤ 1000000) :
    Calls Tryz.prog 46 #[.slice A n c, .int .i32 v] w fun e w' => ∃ z : Int, e = .returned (.int .i64 z) ∧ decide (0 ≤ z) = l.contains v ∧ w' = w := by
  have HR := Lib.hid hR
  have HN := Lib.hid hn
  clear hR hn
  go_enter Tryz.func46, Tryz.ntmps46
  go_wp2
  go_loopw [8] (fun x w' => IxRel l v x w w') (fun x _ => n - (intOf x).toNat)
  case atStart => exact ⟨0, rfl, Nat.zero_le _, rfl, fun i h => absurd h (by omega)⟩
  case round =>
    obtain ⟨k, rfl, hk, rfl, hS⟩ := hrel
    have hkn : k ≤ n := by rw [HN.out] at hk; exact hk
    have HS := Lib.hid hS
    clear hS hk
    by_cases hlt : k < n
    · obtain ⟨b, o, rfl, _, c1⟩ := rv_at HR.out (k := k) (by rw [HN.out]; exact hlt)
      obtain ⟨x1, hx1⟩ : ∃ x, l.getD k 0 = x := ⟨_, rfl⟩
      rw [hx1] at c1
      have HX := Lib.hid hx1
      clear hx1
      go_wp2_with fail
      · go_ret
        have e : v = x1 := by simpa using (show (v == x1) = true by assumption)
        exact ⟨_, rfl, by rw [mem_of (i := k) (by rw [HN.out]; exact hlt) (by rw [HX.out, e])]; simp, rfl⟩
      · have e : ¬ v = x1 := by simpa using (show (v == x1) = false by assumption)
        go_roundw
        case rel => exact ⟨k + 1, by go_num, by rw [HN.out]; omega, rfl, fun i hi => by
          by_cases e2 : i = k
          · subst e2; rw [HX.out]; exact fun h => e h.symm
          · exact HS.out i (by omega)⟩
        case measure => simp [intOf]; omega
    · have hkn2 : k = n := by omega
      subst hkn2
      go_wp2_with fail
      go_ret
      exact ⟨_, rfl, by rw [not_mem_of fun i hi => HS.out i (by rw [← HN.out]; exact hi)]; rfl, rfl⟩
set_option maxRecDepth 20000 in
theorem Contains9 (A : Option Addr) (n c B : Nat) (l : List Int) (v : Int) (w : World) (hR : Rv w B A (l.map encH)) (hn : l.length = n) (hm : n ≤ 1000000) :
    Calls Tryz.prog 31 #[.slice A n c, .int .i32 v] w fun e w' => e = .returned (.bool (l.contains v)) ∧ w' = w := by
  have hC := Index9 A n c B l v w hR hn hm
  generalize l.contains v = q at hC
  clear hR
  go_enter Tryz.func31, Tryz.ntmps31
  go_wp2_with fail
  refine hC.mono ?_
  rintro e w' ⟨z, rfl, rfl, rfl⟩
  go_wp2_with fail
  go_ret
  exact ⟨rfl, rfl⟩
set_option maxRecDepth 20000 in
theorem worked9 (d : Int) (w : World) : Calls Tryz.prog 30 #[.int .i32 d] w fun e w' => e = .returned (.bool (dayB d && decide (d % 7 < 5))) ∧ w' = w := by
  by_cases h : 0 ≤ d ∧ d ≤ 3652058
  · have hW := Week_any d h.1 h.2 w
    have hR := DRight_any d w
    have e : dayB d = true := day_yes h.1 h.2
    rw [e] at hR ⊢
    go_enter Tryz.func30, Tryz.ntmps30
    go_wp2_with fail
    refine hR.mono ?_
    rintro e w' ⟨rfl, rfl⟩
    go_wp2_with fail
    refine hW.mono ?_
    rintro e w' ⟨rfl, rfl⟩
    go_wp2_with fail
    go_ret
    exact ⟨rfl, rfl⟩
  · have hR := DRight_any d w
    have e : dayB d = false := day_no (by omega)
    rw [e] at hR ⊢
    go_enter Tryz.func30, Tryz.ntmps30
    go_wp2_with fail
    refine hR.mono ?_
    rintro e w' ⟨rfl, rfl⟩
    go_wp2_with fail
    go_ret
    exact ⟨rfl, rfl⟩
set_option maxRecDepth 20000 in
theorem Open9 (A : Option Addr) (n c B : Nat) (l : List Int) (d : Int) (w : World) (hR : Rv w B A (l.map encH)) (hn : l.length = n) (hm : n ≤ 1000000) :
    Calls Tryz.prog 14 #[.slice A n c, .int .i32 d] w fun e w' => e = .returned (.bool (dayB d && openL l d)) ∧ w' = w := by
  have hC := Contains9 A n c B l d w hR hn hm
  have hW := worked9 d w
  have e : (dayB d && openL l d) = ((dayB d && decide (d % 7 < 5)) && !l.contains d) := by unfold openL; rw [Bool.and_assoc]
  rw [e]
  clear e hR
  generalize l.contains d = q at hC ⊢
  generalize (dayB d && decide (d % 7 < 5)) = p at hW ⊢
  go_enter Tryz.func14, Tryz.ntmps14
  go_wp2_with fail
  refine hW.mono ?_
  rintro e w' ⟨rfl, rfl⟩
  rcases p with _ | _
  · go_wp2_with fail
    go_ret
    exact ⟨rfl, rfl⟩
  · go_wp2_with fail
    refine hC.mono ?_
    rintro e w' ⟨rfl, rfl⟩
    go_wp2_with fail
    go_ret
    exact ⟨by rw [Bool.true_and]; rfl, rfl⟩
set_option maxRecDepth 20000 in
theorem ROpen9 (A : Option Addr) (n c B : Nat) (l : List Int) (d : Int) (w : World) (hR : Rv w B A (l.map encN)) (hn : l.length = n) (hm : n ≤ 1000000) (hd : 0 ≤ d ∧ d ≤ 4000000) :
    Calls Tryz.prog 15 #[.slice A n c, .int .i64 d] w fun e w' => e = .returned (.bool (openL l d)) ∧ w' = w := by
  have HR := Lib.hid hR
  have HN := Lib.hid hn
  clear hR hn
  have e7 : d.tmod 7 = d % 7 := Int.tmod_eq_emod_of_nonneg hd.1
  go_enter Tryz.func15, Tryz.ntmps15
  go_wp2
  go_loopw [9] (fun x w' => IxRel l d x w w') (fun x _ => n - (intOf x).toNat)
  case atStart => exact ⟨0, rfl, Nat.zero_le _, rfl, fun i h => absurd h (by omega)⟩
  case round =>
    obtain ⟨k, rfl, hk, rfl, hS⟩ := hrel
    have hkn : k ≤ n := by rw [HN.out] at hk; exact hk
    have HS := Lib.hid hS
    clear hS hk
    by_cases hlt : k < n
    · obtain ⟨b, o, rfl, _, c1⟩ := rv_atN HR.out (k := k) (by rw [HN.out]; exact hlt)
      obtain ⟨x1, hx1⟩ : ∃ x, l.getD k 0 = x := ⟨_, rfl⟩
      rw [hx1] at c1
      have HX := Lib.hid hx1
      clear hx1
      go_wp2_with fail
      · go_ret
        have e : x1 = d := by simpa using (show (x1 == d) = true by assumption)
        exact ⟨by unfold openL; rw [mem_of (i := k) (by rw [HN.out]; exact hlt) (by rw [HX.out, e])]; simp, rfl⟩
      · have e : ¬ x1 = d := by simpa using (show (x1 == d) = false by assumption)
        go_roundw
        case rel => exact ⟨k + 1, by go_num, by rw [HN.out]; omega, rfl, fun i hi => by
          by_cases e2 : i = k
          · subst e2; rw [HX.out]; exact e
          · exact HS.out i (by omega)⟩
        case measure => simp [intOf]; omega
    · have hkn2 : k = n := by omega
      subst hkn2
      go_wp2_with fail
      go_ret
      refine ⟨?_, rfl⟩
      unfold openL
      rw [not_mem_of fun i hi => HS.out i (by rw [← HN.out]; exact hi)]
      simp
def RnRel (l : List Int) (d : Int) (w : World) (x : Value) (w' : World) : Prop := ∃ y : Int, x = .int .i64 y ∧ d ≤ y ∧ y ≤ 3652059 ∧ w' = w ∧ nextD l y = nextD l d
set_option maxRecDepth 20000 in
theorem RNext9 (A : Option Addr) (n c B : Nat) (l : List Int) (d : Int) (w : World) (hR : Rv w B A (l.map encN)) (hn : l.length = n) (hm : n ≤ 1000000) (hd : 0 ≤ d ∧ d ≤ 3652058) :
    Calls Tryz.prog 12 #[.slice A n c, .int .i64 d] w fun e w' => e = .returned (.int .i64 ((nextD l d).getD (-1))) ∧ w' = w := by
  have HR := Lib.hid hR
  have HN := Lib.hid hn
  clear hR hn
  go_enter Tryz.func12, Tryz.ntmps12
  go_wp2
  go_loopw [1] (RnRel l d w) (fun x _ => (3652059 - intOf x).toNat)
  case atStart => exact ⟨d, rfl, by omega, by omega, rfl, rfl⟩
  case round =>
    obtain ⟨y, rfl, h1, h2, rfl, hN⟩ := hrel
    have HX := Lib.hid hN
    clear hN
    by_cases hy : y ≤ 3652058
    · have hC := ROpen9 A n c B l y wr HR.out HN.out hm ⟨by omega, by omega⟩
      obtain ⟨o, ho⟩ : ∃ o, openL l y = o := ⟨_, rfl⟩
      rw [ho] at hC
      have HO := Lib.hid ho
      have HC := Lib.hid hC
      clear ho hC
      go_wp2_with fail
      refine HC.out.mono ?_
      rintro e w' ⟨rfl, rfl⟩
      rcases o with _ | _
      · go_wp2_with fail
        go_roundw
        case rel => exact ⟨y + 1, rfl, by omega, by omega, rfl, by rw [← nextD_no hy HO.out]; exact HX.out⟩
        case measure => simp [intOf]; omega
      · go_wp2_with fail
        go_ret
        rw [← HX.out, nextD_yes hy HO.out]
        exact ⟨rfl, rfl⟩
    · go_wp2_with fail
      go_ret
      rw [← HX.out, nextD_end (by omega)]
      exact ⟨rfl, rfl⟩
end Go.Proofs.YtkhjmbemjndcoaaGreatDoor
