/-
  The library's sort over days, II: the short sort. Conditions: the row lies there.
-/
import Derived.Test.YtkhjmbemjndcoaaGreatDoorSrtA
namespace Go.Proofs.YtkhjmbemjndcoaaGreatDoor
open Go.RowKit
open Go.Sort (putRow Holds swp ltInt PermIn SortedIn size_swp insInner insOuter insertionSort)

theorem insI_go {a j : Nat} {d : Array Int} (hj : a < j) (hl : ltInt d[j]! d[j - 1]! = true) : insInner ltInt a j d = insInner ltInt a (j - 1) (swp d j (j - 1)) := by
  cases j with
  | zero => omega
  | succ k =>
    rw [insInner]
    rw [Nat.add_sub_cancel] at hl
    rw [Nat.add_sub_cancel, hl, if_pos (by simp; omega)]
theorem insI_stop {a j : Nat} {d : Array Int} (h : j ≤ a ∨ ltInt d[j]! d[j - 1]! = false) : insInner ltInt a j d = d := by
  cases j with
  | zero => rfl
  | succ k =>
    rw [insInner, if_neg]
    rw [Nat.add_sub_cancel] at h
    rcases h with h | h
    · simp; omega
    · rw [h]; simp
theorem insO_go {a b i : Nat} {d : Array Int} (h : i < b) : insOuter ltInt a b i d = insOuter ltInt a b (i + 1) (insInner ltInt a i d) := by rw [insOuter, if_pos h]
theorem insO_stop {a b i : Nat} {d : Array Int} (h : ¬ i < b) : insOuter ltInt a b i d = d := by rw [insOuter, if_neg h]

def OuRel (d : Array Int) (a b blk off : Nat) (w : World) (i : Value) (w' : World) : Prop :=
  ∃ k : Nat, ∃ e : Array Int, i = .int .i64 k ∧ a < k ∧ k ≤ b + 1 ∧ e.size = d.size ∧ Rw9 w blk off e w' ∧ insOuter ltInt a b k e = insOuter ltInt a b (a + 1) d
def InRel (d e : Array Int) (a k blk off : Nat) (w : World) (j : Value) (w' : World) : Prop :=
  ∃ q : Nat, ∃ f : Array Int, j = .int .i64 q ∧ a ≤ q ∧ q ≤ k ∧ f.size = d.size ∧ Rw9 w blk off f w' ∧ insInner ltInt a q f = insInner ltInt a k e

set_option maxRecDepth 20000 in
set_option maxHeartbeats 4000000 in
theorem Ins9 (blk off cap a b : Nat) (d : Array Int) (w : World) (hH : Holds eD w blk off d) (hab : a ≤ b) (hb : b ≤ d.size) (hsz : d.size ≤ 1000000) :
    Calls Tryz.prog 63 #[.slice (some ⟨blk, off, none⟩) d.size cap, .int .i64 a, .int .i64 b] w fun e w' => e = .returned (.tuple #[]) ∧ Rw9 w blk off (insertionSort ltInt d a b) w' := by
  have HH := Lib.hid hH
  clear hH
  go_enter Tryz.func63, Tryz.ntmps63
  go_wp2
  go_loopw [6] (OuRel d a b blk off w) (fun i _ => b + 1 - (intOf i).toNat)
  case atStart => exact ⟨a + 1, d, by go_num, by omega, by omega, rfl, Rw9.refl HH.out, rfl⟩
  case round =>
    obtain ⟨k, e, rfl, hk1, hk2, hes, hR, hO⟩ := hrel
    have HR := Lib.hid hR
    have HO := Lib.hid hO
    clear hR hO
    go_wp2
    · have hlt : k < b := by assumption
      go_loopw [7] (InRel d e a k blk off w) (fun j _ => (intOf j).toNat)
      case atStart => exact ⟨k, e, rfl, by omega, Nat.le_refl _, hes, HR.out, rfl⟩
      case round =>
        obtain ⟨q, f, rfl, hq1, hq2, hfs, hR2, hI⟩ := hrel
        obtain ⟨G, hG, hc, hf⟩ := hR2.fam HH.out hfs
        have HR2 := Lib.hid hR2
        have HI := Lib.hid hI
        have HG := Lib.hid hG
        clear hR2 hI hG
        have OUT : Hid ((q ≤ a ∨ ltInt f[q]! f[q - 1]! = false) → insOuter ltInt a b (k + 1) f = insOuter ltInt a b (a + 1) d) := Lib.hid fun hs => by
          rw [← HO.out, insO_go hlt, ← HI.out, insI_stop hs]
        clear HO
        go_wp2
        by_cases hja : a < q
        · go_quiet (first | (go_at_call 53; refine Calls.quiet_of_same (Less9 _ _ _)))
          go_wp2
          · have hl : ltInt (G q) (G (q - 1)) = true := by assumption
            go_region
            all_goals go_wp2
            go_roundw
            case rel => exact ⟨q - 1, swp f q (q - 1), by congr 1; omega, by omega, by omega, by rw [size_swp]; exact hfs, (HR2.out.drewN _).swap (i := q) (j := q - 1) (by omega) (by omega) (HG.out _) (HG.out _), by rw [← HI.out, insI_go hja (by rw [← HG.out, ← HG.out]; exact hl)]⟩
            case measure => simp [intOf]; omega
          · have hl : ltInt (G q) (G (q - 1)) = false := by assumption
            go_roundw
            case rel => exact ⟨k + 1, f, by go_num, by omega, by omega, hfs, HR2.out.drewN _, OUT.out (.inr (by rw [← HG.out, ← HG.out]; exact hl))⟩
            case measure => simp [intOf]; omega
        · go_quiet (first | (go_at_call 53; refine Calls.quiet_of_same (Less9 _ _ _)))
          go_wp2
          go_roundw
          case rel => exact ⟨k + 1, f, by go_num, by omega, by omega, hfs, HR2.out.drewN _, OUT.out (.inl (by omega))⟩
          case measure => simp [intOf]; omega
    · have hge : ¬ k < b := by assumption
      go_end0
      refine ⟨rfl, ?_⟩
      have e1 : insertionSort ltInt d a b = e := by unfold insertionSort; rw [← HO.out, insO_stop hge]
      rw [e1]
      exact HR.out
end Go.Proofs.YtkhjmbemjndcoaaGreatDoor
