/-
  The library's sort over days, XII: Sort, IsSorted, Clone; days in their order. Conditions: the days are there.
-/
import Derived.Test.YtkhjmbemjndcoaaGreatDoorSrtK
import Derived.Test.YtkhjmbemjndcoaaGreatDoorRowsD
import Derived.Lib.Small
namespace Go.Proofs.YtkhjmbemjndcoaaGreatDoor
open Go.RowKit
open Go.Sort (putRow Holds swp ltInt PermIn SortedIn)

set_option maxRecDepth 20000 in
theorem Sort9 (n blk off cap : Nat) (d : Array Int) (w : World) (hn : d.size = n) (hH : Holds eD w blk off d) (hblk : blk < w.heap.size) (hsz : n ≤ 1000000) :
    Calls Tryz.prog 44 #[.slice (some ⟨blk, off, none⟩) n cap] w fun e w' => e = .returned (.tuple #[]) ∧ ∃ d', PermIn 0 n d d' ∧ SortedIn ltInt 0 n d' ∧ At9 w blk off d' w' := by
  have hC := Pdq9 n blk off cap hsz (n + 1) 0 n (Lib.bitLen n) d w (by omega) hn hH hblk (by omega) (Nat.le_refl _) (by have := bit_le hsz; omega) (.inl rfl)
  have hL := Len9 n hsz w
  generalize Lib.bitLen n = k at hC hL
  go_enter Tryz.func44, Tryz.ntmps44
  go_wp2_with fail
  refine hL.mono ?_
  rintro e w' ⟨rfl, rfl⟩
  go_wp2_with fail
  refine hC.mono ?_
  rintro e w2 ⟨rfl, d', hp, hs, hA⟩
  have HP := Lib.hid hp
  have HS := Lib.hid hs
  have HA := Lib.hid hA
  clear hp hs hA hC hL
  go_wp2_with fail
  go_end0
  exact ⟨rfl, d', HP.out, HS.out, HA.out⟩

/-- Days that rise (two may be the same). -/
def Ris (l : List Int) : Prop := ∀ i, i + 1 < l.length → l.getD i 0 ≤ l.getD (i + 1) 0
def IsRel (l : List Int) (n : Nat) (w : World) (x : Value) (w' : World) : Prop := ∃ k q : Nat, x = .int .i64 ((k : Int) - 1) ∧ k ≤ n ∧ w' = w.drewN q ∧ ∀ i, k ≤ i + 1 → i + 1 < n → l.getD i 0 ≤ l.getD (i + 1) 0
def IsPost (l : List Int) (w : World) (e : Ending) (w' : World) : Prop := ∃ b : Bool, e = .returned (.bool b) ∧ (b = true → Ris l) ∧ (b = false → 2 ≤ l.length) ∧ ∃ q, w' = w.drewN q
set_option maxRecDepth 20000 in
set_option maxHeartbeats 1000000 in
theorem IsS9 (A : Option Addr) (n c B : Nat) (l : List Int) (w : World) (hR : Rv w B A (l.map encH)) (hn : l.length = n) (hm : n ≤ 1000000) :
    Calls Tryz.prog 42 #[.slice A n c] w (IsPost l w) := by
  have HR := Lib.hid hR
  have HN := Lib.hid hn
  clear hR hn
  go_enter Tryz.func42, Tryz.ntmps42
  go_wp2
  go_loopw [3] (IsRel l n w) (fun x _ => (intOf x + 1).toNat)
  case atStart => exact ⟨n, 0, rfl, Nat.le_refl _, rfl, fun i h1 h2 => by omega⟩
  case round =>
    obtain ⟨k, q, rfl, hk, hw, hS⟩ := hrel
    have HW := Lib.hid hw
    have HS := Lib.hid hS
    clear hw hS
    by_cases h2 : 2 ≤ k
    · obtain ⟨k, rfl⟩ : ∃ j, k = j + 2 := ⟨k - 2, by omega⟩
      rw [show ((k + 2 : Nat) : Int) - 1 = ((k + 1 : Nat) : Int) by omega]
      have hll : k + 1 < (l.map encH).length := by rw [List.length_map, HN.out]; omega
      obtain ⟨b, o, hA, _, c1⟩ := HR.out.at_ hll
      obtain ⟨b2, o2, hA2, _, c0⟩ := HR.out.at_ (k := k) (by omega)
      rw [hA] at hA2
      injection hA2 with e1
      injection e1 with e1 e2
      subst e1 e2 hA
      have hkl : k + 1 < l.length := by rw [HN.out]; omega
      have g1 : (l.map encH)[k + 1] = .int .i32 (l.getD (k + 1) 0) := by rw [List.getElem_map, List.getD_eq_getElem?_getD, List.getElem?_eq_getElem hkl]; rfl
      have g0 : (l.map encH)[k] = .int .i32 (l.getD k 0) := by rw [List.getElem_map, List.getD_eq_getElem?_getD, List.getElem?_eq_getElem (by omega : k < l.length)]; rfl
      rw [g1] at c1
      rw [g0] at c0
      obtain ⟨x1, hx1⟩ : ∃ x, l.getD (k + 1) 0 = x := ⟨_, rfl⟩
      obtain ⟨x0, hx0⟩ : ∃ x, l.getD k 0 = x := ⟨_, rfl⟩
      rw [hx1] at c1
      rw [hx0] at c0
      have hwc1 : wr.cell? ⟨b, o + (k + 1), none⟩ = some (.int .i32 x1) := by rw [HW.out]; exact c1
      have hwc0 : wr.cell? ⟨b, o + k, none⟩ = some (.int .i32 x0) := by rw [HW.out]; exact c0
      have HX := Lib.hid (And.intro hx1 hx0)
      have hkn : k + 1 < n := by omega
      have hkn0 : k < n := by omega
      clear g1 g0 hll hkl c1 c0 hx1 hx0
      go_wp2_with fail
      go_quiet (first | (go_at_call 53; refine Calls.quiet_of_same (Less9 _ _ _)))
      go_wp2_with fail
      · go_ret
        exact ⟨false, rfl, fun h => absurd h (by decide), fun _ => by rw [HN.out]; omega, q + nq, by rw [HW.out, World.drewN_drewN]⟩
      · have hl : ltInt x1 x0 = false := by assumption
        have hle : x0 ≤ x1 := by
          have := of_decide_eq_false hl
          omega
        go_roundw
        case rel =>
          refine ⟨k + 1, q + nq, by congr 1; omega, by omega, by rw [HW.out, World.drewN_drewN], fun i h3 h4 => ?_⟩
          by_cases e : i = k
          · subst e; rw [HX.out.1, HX.out.2]; exact hle
          · exact HS.out i (by omega) h4
        case measure => simp [intOf]; omega
    · have h3 : ¬ (0 : Int) < (k : Int) - 1 := by omega
      go_wp2_with fail
      go_ret
      exact ⟨true, rfl, fun _ i h => HS.out i (by omega) (by rw [← HN.out]; exact h), fun h => absurd h (by decide), q, HW.out⟩
end Go.Proofs.YtkhjmbemjndcoaaGreatDoor
