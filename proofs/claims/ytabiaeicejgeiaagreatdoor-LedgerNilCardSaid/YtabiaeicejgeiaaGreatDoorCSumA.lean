/-
  coin.Sum of a row of coins: one by one. Conditions: the numbers' kinds.
-/
import Derived.Test.YtabiaeicejgeiaaGreatDoorCoinA
import Derived.Test.YtabiaeicejgeiaaGreatDoorWordsC
namespace Go.Proofs.YtabiaeicejgeiaaGreatDoor
open Go.RowKit

/-- One step of a sum, and the whole: no beginning may be over. -/
def sumF (o : Option Int) (a : Int) : Option Int :=
  match o with
  | some s => if Fits (s + a) then some (s + a) else Option.none
  | Option.none => Option.none
def sumO (l : List Int) : Option Int := l.foldl sumF (some 0)
theorem sumF_none (l : List Int) : l.foldl sumF Option.none = Option.none := by
  induction l with
  | nil => rfl
  | cons a l ih => exact ih
theorem sumO_next (l : List Int) (k : Nat) (h : k < l.length) : sumO (l.take (k + 1)) = sumF (sumO (l.take k)) (l[k]'h) := by
  unfold sumO
  rw [List.take_succ_eq_append_getElem h, List.foldl_append]
  rfl
theorem sumO_fits (l : List Int) (s : Int) (h : sumO l = some s) : Fits s := by
  unfold sumO at h
  rcases List.eq_nil_or_concat l with rfl | ⟨r, a, rfl⟩
  · injection h with h
    subst h
    decide
  · rw [List.concat_eq_append, List.foldl_append] at h
    simp only [List.foldl_cons, List.foldl_nil] at h
    unfold sumF at h
    split at h
    · split at h
      · injection h with h
        subst h
        assumption
      · cases h
    · cases h
theorem sumO_stop (l : List Int) (k : Nat) (h : sumO (l.take k) = Option.none) : sumO l = Option.none := by
  unfold sumO at *
  rw [← List.take_append_drop k l, List.foldl_append, h]
  exact sumF_none _

/-- What coin.Sum tells. -/
def sumV (o : Option Int) : Value :=
  match o with
  | some s => .tuple #[.int .i64 s, .nilIface]
  | Option.none => .tuple #[.int .i64 0, .iface 59 (.int .i64 12)]
set_option maxRecDepth 20000 in
set_option maxHeartbeats 2000000 in
theorem CSum_any (A : Option Addr) (n c B : Nat) (l : List Int) (w : World) (hR : Rv w B A (l.map encC)) (hn : l.length = n) (hnc : n ≤ c) (hcm : c ≤ maxLen) (hl : ∀ u ∈ l, Fits u) :
    Calls Tryz.prog 102 #[.slice A n c] w fun e w' => e = .returned (sumV (sumO l)) ∧ w = w' := by
  unfold maxLen at hcm
  have HR := Lib.hid hR
  have HN := Lib.hid hn
  have HL := Lib.hid hl
  clear hR hn hl
  go_enter Tryz.func102, Tryz.ntmps102
  go_wp2_with fail
  go_loop [4, 11] (fun v i => ∃ (k : Nat) (s : Int), k ≤ n ∧ i = .int .i64 k ∧ v = .int .i64 s ∧ Fits s ∧ Hid (sumO (l.take k) = some s)) (fun _ i => n - (intOf i).toNat)
  case atStart => exact ⟨0, 0, Nat.zero_le _, rfl, rfl, by decide, Lib.hid rfl⟩
  case round =>
    obtain ⟨k, s, hk, rfl, rfl, hs, HS⟩ := hrel
    by_cases hlt : k < n
    · have hkl : k < l.length := by rw [HN.out]; exact hlt
      obtain ⟨b, o, rfl, hb, hc⟩ := HR.out.at_ (k := k) (by rw [List.length_map]; exact hkl)
      rw [List.getElem_map] at hc
      unfold encC at hc
      have hx := sumO_next l k hkl
      have ha : Fits (l[k]'hkl) := HL.out _ (List.getElem_mem hkl)
      obtain ⟨a, hae⟩ : ∃ a, l[k]'hkl = a := ⟨_, rfl⟩
      rw [hae] at hc hx ha
      rw [HS.out] at hx
      have cA := fun W => CoinAdd_any s a hs ha W
      clear hae hkl
      by_cases hf : Fits (s + a)
      · have HX := Lib.hid (hx.trans (if_pos hf))
        simp only [hf, if_true] at cA
        have hf1 := hf.1
        have hf2 := hf.2
        have HF := Lib.hid hf
        clear hx hs ha hf
        go_wp2_with (go_at_call 82; refine (cA _).mono ?_; rintro e w' ⟨rfl, rfl⟩)
        go_round
        case rel => exact ⟨k + 1, s + a, by omega, by go_num, rfl, HF.out, HX⟩
        case measure => simp [intOf]; omega
      · have hz : sumO l = Option.none := sumO_stop l (k + 1) (hx.trans (if_neg hf))
        have HZ := Lib.hid (show sumV (sumO l) = _ from congrArg sumV hz)
        simp only [hf, if_false] at cA
        clear hx hs ha hf hz
        go_wp2_with (go_at_call 82; refine (cA _).mono ?_; rintro e w' ⟨rfl, rfl⟩)
        go_ret2
        exact ⟨by rw [HZ.out]; rfl, rfl⟩
    · have hkn : k = n := by omega
      subst hkn
      have HZ := Lib.hid (show sumV (sumO l) = sumV (some s) by rw [← HS.out, List.take_of_length_le (by rw [HN.out]; exact Nat.le_refl _)])
      go_wp2_with fail
      go_ret2
      exact ⟨by rw [HZ.out]; rfl, rfl⟩
end Go.Proofs.YtabiaeicejgeiaaGreatDoor
