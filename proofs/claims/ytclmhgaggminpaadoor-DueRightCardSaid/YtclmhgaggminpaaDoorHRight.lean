/-
  Holy's Right of any days. Conditions: the days are there.
-/
import Derived.Test.YtclmhgaggminpaaDoorFew
namespace Go.Proofs.YtclmhgaggminpaaDoor
open Go.ChangeShapes Go.WideShapes Go.ChangeAt Go.RowKit

/-- The first k are days that rise. -/
def upB (l : List Int) : Nat → Bool
  | 0 => true
  | k + 1 => upB l k && (dayB (l.getD k 0) && (k == 0 || decide (l.getD (k - 1) 0 < l.getD k 0)))
theorem upB_step {l : List Int} {k : Nat} {d : Int} (hd : l.getD k 0 = d) : upB l (k + 1) = (upB l k && (dayB d && (k == 0 || decide (l.getD (k - 1) 0 < d)))) := by simp only [upB]; rw [hd]
theorem upB_end {l : List Int} {k m : Nat} (hk : k ≤ m) (h : upB l k = false) : upB l m = false := by
  induction m with
  | zero => obtain rfl : k = 0 := by omega
            exact h
  | succ m ih =>
    rcases Nat.lt_or_ge k (m + 1) with h1 | h1
    · simp only [upB]; rw [ih (by omega)]; rfl
    · obtain rfl : k = m + 1 := by omega
      exact h
def rightL (l : List Int) : Bool := decide (l.length ≤ 200) && upB l l.length
theorem getD_at {l : List Int} {k : Nat} (h : k < l.length) : l.getD k 0 = l[k] := by simp [List.getD, h]

set_option maxRecDepth 20000 in
set_option maxHeartbeats 1000000 in
theorem HRight_any (A : Option Addr) (n c B : Nat) (l : List Int) (w : World) (hR : Rv w B A (l.map encH)) (hn : l.length = n) (hm : n ≤ 140737488355328) (hw : ∀ u ∈ l, -2147483648 ≤ u ∧ u ≤ 2147483647) :
    Calls Tryd.prog 11 #[.slice A n c] w fun e w' => e = .returned (.bool (rightL l)) ∧ w = w' := by
  subst hn
  unfold rightL
  by_cases h2 : 200 < l.length
  · rw [decide_eq_false (by omega), Bool.false_and]
    clear hR hw
    go_enter Tryd.func11, Tryd.ntmps11
    go_wp2_with fail
    go_ret
    exact ⟨rfl, rfl⟩
  rw [decide_eq_true (by omega : l.length ≤ 200), Bool.true_and]
  have HR := Lib.hid hR
  have HWf := Lib.hid hw
  clear hR hw
  go_enter Tryd.func11, Tryd.ntmps11
  go_wp2_with fail
  go_loop [10] (fun i => ∃ k : Nat, k ≤ l.length ∧ i = .int .i64 k ∧ Hid (upB l k = true)) (fun i => l.length - (intOf i).toNat)
  case atStart => exact ⟨0, Nat.zero_le _, rfl, Lib.hid rfl⟩
  case round =>
    obtain ⟨k, hk, rfl, HU⟩ := hrel
    by_cases hlt : k < l.length
    · have hRl : k < (l.map encH).length := by rw [List.length_map]; exact hlt
      obtain ⟨b, o, rfl, hb, hc⟩ := HR.out.at_ hRl
      rw [List.getElem_map] at hc
      have hwf := HWf.out l[k] (List.getElem_mem hlt)
      have hgd := getD_at hlt
      obtain ⟨u, hu⟩ : ∃ u, l[k] = u := ⟨_, rfl⟩
      rw [hu] at hc hwf hgd
      simp only [encH] at hc
      obtain ⟨u0, u1⟩ := hwf
      have HS := Lib.hid (upB_step (l := l) (k := k) hgd)
      clear hu hgd
      have hD := fun W => DRight_any u W
      cases hd : dayB u
      · rw [hd] at hD
        have HE := Lib.hid (show upB l l.length = false from upB_end (show k + 1 ≤ l.length from hlt) (by rw [HS.out, hd]; simp))
        clear hd
        go_wp2_with (go_at_call 28; refine (hD _).mono ?_; rintro e w' ⟨rfl, rfl⟩)
        go_ret
        exact ⟨by rw [HE.out]; rfl, rfl⟩
      · rw [hd] at hD HS
        clear hd
        by_cases hk0 : k = 0
        · subst hk0
          rw [Nat.add_zero] at hc
          have HE := Lib.hid (show upB l (0 + 1) = true by rw [HS.out, HU.out]; rfl)
          go_wp2_with (go_at_call 28; refine (hD _).mono ?_; rintro e w' ⟨rfl, rfl⟩)
          go_round
          case rel => exact ⟨1, by omega, by go_num, Lib.hid HE.out⟩
          case measure => simp [intOf]; omega
        · have hk1 : k - 1 < l.length := by omega
          have hRl1 : k - 1 < (l.map encH).length := by rw [List.length_map]; exact hk1
          obtain ⟨b', o', he, hb', hc1⟩ := HR.out.at_ hRl1
          injection he with he
          injection he with e1 e2 e3
          subst e1
          subst e2
          rw [List.getElem_map] at hc1
          have hgd1 := getD_at hk1
          obtain ⟨p, hp⟩ : ∃ p, l[k - 1] = p := ⟨_, rfl⟩
          rw [hp] at hc1 hgd1
          simp only [encH] at hc1
          rw [hgd1] at HS
          have hk2 : (0 : Int) < (k : Int) := by omega
          have hj : ((k : Int) - 1).toNat = k - 1 := by omega
          clear hp hgd1 hRl1 hRl
          by_cases hlp : u ≤ p
          · have HE := Lib.hid (show upB l l.length = false from upB_end (show k + 1 ≤ l.length from hlt) (by rw [HS.out, HU.out, decide_eq_false (by omega : ¬ p < u)]; simp [hk0]))
            go_wp2_with (go_at_call 28; refine (hD _).mono ?_; rintro e w' ⟨rfl, rfl⟩)
            go_ret
            exact ⟨by rw [HE.out]; rfl, rfl⟩
          · have HE := Lib.hid (show upB l (k + 1) = true by rw [HS.out, HU.out, decide_eq_true (by omega : p < u)]; simp)
            go_wp2_with (go_at_call 28; refine (hD _).mono ?_; rintro e w' ⟨rfl, rfl⟩)
            go_round
            case rel => exact ⟨k + 1, by omega, by go_num, HE⟩
            case measure => simp [intOf]; omega
    · obtain rfl : k = l.length := by omega
      go_wp2_with fail
      go_ret
      exact ⟨by rw [HU.out]; rfl, rfl⟩
end Go.Proofs.YtclmhgaggminpaaDoor
