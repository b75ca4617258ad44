/-
  The library's sort over days, IV: the heap's sort. Conditions: the row lies there.
-/
import Derived.Test.YtkhjmbemjndcoaaGreatDoorSrtC
namespace Go.Proofs.YtkhjmbemjndcoaaGreatDoor
open Go.RowKit
open Go.Sort (putRow Holds swp ltInt PermIn SortedIn size_swp permIn_trans permIn_refl swp_permIn siftDown heapBuild heapPop heapSort)

theorem Sift9n (n blk off cap lo hi first : Nat) (d : Array Int) (w : World) (hn : d.size = n) (hH : Holds eD w blk off d) (hlo : lo ≤ n) (hb : first + hi ≤ n) (hsz : n ≤ 1000000) :
    Calls Tryz.prog 77 #[.slice (some ⟨blk, off, none⟩) n cap, .int .i64 lo, .int .i64 hi, .int .i64 first] w fun e w' => e = .returned (.tuple #[]) ∧ Rw9 w blk off (siftDown ltInt hi first lo d) w' := by
  subst hn
  exact Sift9 blk off cap lo hi first d w hH hlo hb hsz
def HbRel (d : Array Int) (hi a k0 blk off : Nat) (w : World) (i : Value) (w' : World) : Prop :=
  ∃ k : Nat, ∃ e : Array Int, i = .int .i64 ((k : Int) - 1) ∧ k ≤ k0 ∧ e.size = d.size ∧ Rw9 w blk off e w' ∧ heapBuild ltInt hi a k e = heapBuild ltInt hi a k0 d
def HpRel (d T : Array Int) (hi a blk off : Nat) (w : World) (i : Value) (w' : World) : Prop :=
  ∃ k : Nat, ∃ e : Array Int, i = .int .i64 ((k : Int) - 1) ∧ k ≤ hi ∧ e.size = d.size ∧ Rw9 w blk off e w' ∧ heapPop ltInt a k e = T
theorem siftDown_size (hi first : Nat) : ∀ (n r : Nat) (d : Array Int), hi - r ≤ n → (siftDown ltInt hi first r d).size = d.size := by
  intro n
  induction n with
  | zero => intro r d h; rw [sd_stop (by omega)]
  | succ n ih =>
    intro r d h
    by_cases h1 : 2 * r + 1 < hi
    · by_cases h2 : 2 * r + 1 + 1 < hi ∧ ltInt d[first + (2 * r + 1)]! d[first + (2 * r + 1 + 1)]! = true
      · rw [sd_two rfl h2.1 h2.2]
        split
        · rw [ih _ _ (by omega), size_swp]
        · rfl
      · rw [sd_one rfl h1 (by
          by_cases h3 : 2 * r + 1 + 1 < hi
          · right
            cases h4 : ltInt d[first + (2 * r + 1)]! d[first + (2 * r + 1 + 1)]! with
            | false => rfl
            | true => exact absurd ⟨h3, h4⟩ h2
          · exact .inl h3)]
        split
        · rw [ih _ _ (by omega), size_swp]
        · rfl
    · rw [sd_stop (by omega)]
set_option maxRecDepth 20000 in
set_option maxHeartbeats 4000000 in
theorem Heap9 (blk off cap a b : Nat) (d : Array Int) (w : World) (hH : Holds eD w blk off d) (hab : a < b) (hb : b ≤ d.size) (hsz : d.size ≤ 1000000) :
    Calls Tryz.prog 64 #[.slice (some ⟨blk, off, none⟩) d.size cap, .int .i64 a, .int .i64 b] w fun e w' => e = .returned (.tuple #[]) ∧ Rw9 w blk off (heapSort ltInt d a b) w' := by
  have HH := Lib.hid hH
  clear hH
  have hE : heapSort ltInt d a b = heapPop ltInt a (b - a) (heapBuild ltInt (b - a) a ((b - a - 1) / 2 + 1) d) := rfl
  rw [hE]
  clear hE
  obtain ⟨hi, hhi⟩ : ∃ hi : Nat, hi = b - a := ⟨_, rfl⟩
  rw [← hhi]
  have ehi : (b : Int) - (a : Int) = (hi : Int) := by omega
  obtain ⟨k0, hk0⟩ : ∃ k0 : Nat, k0 = (hi - 1) / 2 + 1 := ⟨_, rfl⟩
  rw [← hk0]
  have w1 : IntKind.i64.wrap ((b : Int) - (a : Int)) = (hi : Int) := by rw [IntKind.wrap_i64]; omega
  have w2 : IntKind.i64.wrap (((hi : Int) - 1).tdiv 2) = (k0 : Int) - 1 := by
    rw [Int.tdiv_eq_ediv_of_nonneg (by omega), IntKind.wrap_i64]
    omega
  have hk0b : k0 ≤ hi := by omega
  have hih : a + hi ≤ d.size := by omega
  have hi1 : hi ≤ 1000000 := by omega
  have HHI := Lib.hid hhi
  have HK0 := Lib.hid hk0
  clear hhi hk0 ehi
  go_enter Tryz.func64, Tryz.ntmps64
  go_wp2
  clear w1 w2
  go_loopw [9] (HbRel d hi a k0 blk off w) (fun i _ => (intOf i + 1).toNat)
  case atStart => exact ⟨k0, d, rfl, Nat.le_refl _, rfl, Rw9.refl HH.out, rfl⟩
  case round =>
    obtain ⟨k, e, rfl, hk, hes, hR, hO⟩ := hrel
    have HR := Lib.hid hR
    have HO := Lib.hid hO
    clear hR hO
    rcases k with _ | k
    · have HO2 : Hid (heapPop ltInt a hi e = heapPop ltInt a hi (heapBuild ltInt hi a k0 d)) := Lib.hid (congrArg _ (show e = _ from HO.out))
      clear HO
      have HR0 := Lib.hid HR.out
      clear HR
      rw [show ((0 : Nat) : Int) - 1 = -1 from rfl]
      go_wp2
      go_loopw [10] (HpRel d (heapPop ltInt a hi (heapBuild ltInt hi a k0 d)) hi a blk off w) (fun i _ => (intOf i + 1).toNat)
      case atStart => exact ⟨hi, e, rfl, Nat.le_refl _, hes, HR0.out, HO2.out⟩
      case round =>
        clear HO2 HR0 hes
        obtain ⟨k, e, rfl, hk, hes, hR, hO⟩ := hrel
        obtain ⟨G, hG, hc, hf⟩ := hR.fam HH.out hes
        have HR := Lib.hid hR
        have HG := Lib.hid hG
        have HO := Lib.hid hO
        clear hR hG hO
        rcases k with _ | k
        · have HO3 : Hid (e = heapPop ltInt a hi (heapBuild ltInt hi a k0 d)) := Lib.hid HO.out
          go_wp2
          go_end0
          refine ⟨rfl, ?_⟩
          rw [← HO3.out]
          exact HR.out
        · have w3 : IntKind.i64.wrap ((a : Int) + (k : Int)) = ((a + k : Nat) : Int) := by rw [IntKind.wrap_i64]; omega
          obtain ⟨p, hp⟩ : ∃ p : Nat, p = a + k := ⟨_, rfl⟩
          rw [← hp] at w3
          have hp1 : p < d.size := by omega
          have ha1 : a < d.size := by omega
          rw [show ((k + 1 : Nat) : Int) - 1 = (k : Int) by omega]
          have hO4 : heapPop ltInt a k (siftDown ltInt k a 0 (swp e a p)) = heapPop ltInt a hi (heapBuild ltInt hi a k0 d) := by rw [hp]; exact HO.out
          have HO4 := Lib.hid hO4
          have HP := Lib.hid hp
          clear hO4 HO hp
          obtain ⟨v9, hv9⟩ := cell?_setCell_some (w := wr) (p := ⟨blk, off + a, none⟩) (x := .int .i32 (G p)) (q := ⟨blk, off + p, none⟩) (hc p hp1)
          go_wp2
          go_region
          go_wp2_with fail
          have hR5 := (HR.out.swap (i := a) (j := p) (by omega) (by omega) (HG.out _) (HG.out _)).drew
          obtain ⟨w5, hw5⟩ : ∃ W, W = ((wr.setCell ⟨blk, off + a, none⟩ (eD (G p))).setCell ⟨blk, off + p, none⟩ (eD (G a))).drew := ⟨_, rfl⟩
          rw [← hw5] at hR5 ⊢
          have hes5 : (swp e a p).size = d.size := by rw [size_swp]; exact hes
          have hHe := Lib.hid (hR5.holds HH.out hes5)
          have hC := Sift9n d.size blk off cap 0 k a (swp e a p) w5 hes5 hHe.out (Nat.zero_le _) (by omega) hsz
          refine hC.mono ?_
          rintro x w6 ⟨rfl, hr6⟩
          have HR6 := Lib.hid (hR5.trans hr6 (siftDown_size _ _ _ _ _ (Nat.le_refl _)))
          have HES := Lib.hid hes5
          clear hr6 hC hHe hR5 hw5 HR hes hes5 w3 hv9 hc hf
          go_wp2_with fail
          go_roundw
          case rel => exact ⟨k, siftDown ltInt k a 0 (swp e a p), rfl, by omega, by rw [siftDown_size _ _ _ _ _ (Nat.le_refl _), HES.out], HR6.out, HO4.out⟩
          case measure => simp [intOf]
    · rw [show ((k + 1 : Nat) : Int) - 1 = (k : Int) by omega]
      have hO4 : heapBuild ltInt hi a k (siftDown ltInt hi a k e) = heapBuild ltInt hi a k0 d := HO.out
      have HO4 := Lib.hid hO4
      clear hO4 HO
      have hkd : k ≤ d.size := by omega
      have hHe := Lib.hid (HR.out.holds HH.out hes)
      have hC := Sift9n d.size blk off cap k hi a e wr hes hHe.out hkd hih hsz
      go_wp2_with fail
      refine hC.mono ?_
      rintro x w2 ⟨rfl, hr2⟩
      have HR2 := Lib.hid (HR.out.trans hr2 (siftDown_size _ _ _ _ _ (Nat.le_refl _)))
      have HES := Lib.hid hes
      clear hr2 hkd hHe HR hes hC
      go_wp2_with fail
      go_roundw
      case rel => exact ⟨k, siftDown ltInt hi a k e, rfl, by omega, by rw [siftDown_size _ _ _ _ _ (Nat.le_refl _), HES.out], HR2.out, HO4.out⟩
      case measure => simp [intOf]
end Go.Proofs.YtkhjmbemjndcoaaGreatDoor
