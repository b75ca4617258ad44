/-
  The library's sort over days, III: a row turned round, the heap. Conditions: the row lies there.
-/
import Derived.Test.YtkhjmbemjndcoaaGreatDoorSrtB
import Derived.IntWalk
namespace Go.Proofs.YtkhjmbemjndcoaaGreatDoor
open Go.RowKit
open Go.Sort (putRow Holds swp ltInt PermIn SortedIn size_swp permIn_trans permIn_refl swp_permIn siftDown heapBuild heapPop heapSort)

def RvRel (d : Array Int) (a b blk off : Nat) (w : World) (i j : Value) (w' : World) : Prop :=
  ∃ p q : Nat, ∃ e : Array Int, i = .int .i64 p ∧ j = .int .i64 q ∧ a ≤ p ∧ q < b ∧ PermIn a b d e ∧ Rw9 w blk off e w'
set_option maxRecDepth 20000 in
set_option maxHeartbeats 4000000 in
theorem Rev9 (blk off cap a b : Nat) (d : Array Int) (w : World) (hH : Holds eD w blk off d) (hab : a < b) (hb : b ≤ d.size) (hsz : d.size ≤ 1000000) :
    Calls Tryz.prog 67 #[.slice (some ⟨blk, off, none⟩) d.size cap, .int .i64 a, .int .i64 b] w fun e w' => e = .returned (.tuple #[]) ∧ ∃ d', PermIn a b d d' ∧ Rw9 w blk off d' w' := by
  have HH := Lib.hid hH
  clear hH
  go_enter Tryz.func67, Tryz.ntmps67
  go_wp2
  go_loopw [6, 7] (RvRel d a b blk off w) (fun i j _ => (intOf j - intOf i).toNat)
  case atStart => exact ⟨a, b - 1, d, by go_num, by congr 1; omega, Nat.le_refl _, by omega, permIn_refl _ _ _, Rw9.refl HH.out⟩
  case round =>
    obtain ⟨p, q, e, rfl, rfl, hp, hq, hP, hR⟩ := hrel
    have hes : e.size = d.size := hP.1
    obtain ⟨G, hG, hc, hf⟩ := hR.fam HH.out hes
    have HR := Lib.hid hR
    have HP := Lib.hid hP
    have HG := Lib.hid hG
    clear hR hP hG
    go_wp2
    · have hpq : p < q := by assumption
      go_region
      all_goals go_wp2
      go_roundw
      case rel => exact ⟨p + 1, q - 1, swp e p q, by go_num, by congr 1; omega, by omega, by omega, permIn_trans _ _ _ _ _ HP.out (swp_permIn _ _ _ _ _ hp (by omega) (by omega) hq (by omega)), (HR.out.drewN 1).swap (i := p) (j := q) (by omega) (by omega) (HG.out _) (HG.out _)⟩
      case measure => simp [intOf]; omega
    · go_end0
      exact ⟨rfl, e, HP.out, HR.out⟩

theorem sd_stop {hi first r : Nat} {d : Array Int} (h : hi ≤ 2 * r + 1) : siftDown ltInt hi first r d = d := by rw [siftDown, dif_pos h]
theorem sd_two {hi first r c : Nat} {d : Array Int} (hc : c = 2 * r + 1 + 1) (h : c < hi) (hl : ltInt d[first + (2 * r + 1)]! d[first + c]! = true) :
    siftDown ltInt hi first r d = if ltInt d[first + r]! d[first + c]! then siftDown ltInt hi first c (swp d (first + r) (first + c)) else d := by
  subst hc
  rw [siftDown, dif_neg (by omega), if_pos (by rw [Nat.add_assoc]; rw [← Nat.add_assoc (2 * r) 1 1] at hl; simp only [Nat.add_assoc] at hl ⊢; rw [hl]; simp; omega)]
  by_cases h2 : ltInt d[first + r]! d[first + (2 * r + 2)]! = true
  · rw [if_neg (by rw [h2]; simp), dif_pos (by omega), if_pos h2]
  · rw [if_pos (by simpa using h2), if_neg h2]
theorem sd_one {hi first r c : Nat} {d : Array Int} (hc : c = 2 * r + 1) (h : c < hi) (hl : ¬ c + 1 < hi ∨ ltInt d[first + c]! d[first + (c + 1)]! = false) :
    siftDown ltInt hi first r d = if ltInt d[first + r]! d[first + c]! then siftDown ltInt hi first c (swp d (first + r) (first + c)) else d := by
  subst hc
  rw [siftDown, dif_neg (by omega), if_neg (by
    rcases hl with hl | hl
    · simp; omega
    · simp only [Nat.add_assoc] at hl ⊢
      rw [hl]; simp)]
  by_cases h2 : ltInt d[first + r]! d[first + (2 * r + 1)]! = true
  · rw [if_neg (by rw [h2]; simp), if_pos h2]
  · rw [if_pos (by simpa using h2), if_neg h2]

def SdRel (d : Array Int) (hi first lo blk off : Nat) (w : World) (i : Value) (w' : World) : Prop :=
  ∃ r : Nat, ∃ e : Array Int, i = .int .i64 r ∧ (r = lo ∨ r < hi) ∧ e.size = d.size ∧ Rw9 w blk off e w' ∧ siftDown ltInt hi first r e = siftDown ltInt hi first lo d
set_option maxRecDepth 20000 in
set_option maxHeartbeats 4000000 in
theorem Sift9 (blk off cap lo hi first : Nat) (d : Array Int) (w : World) (hH : Holds eD w blk off d) (hlo : lo ≤ d.size) (hb : first + hi ≤ d.size) (hsz : d.size ≤ 1000000) :
    Calls Tryz.prog 77 #[.slice (some ⟨blk, off, none⟩) d.size cap, .int .i64 lo, .int .i64 hi, .int .i64 first] w fun e w' => e = .returned (.tuple #[]) ∧ Rw9 w blk off (siftDown ltInt hi first lo d) w' := by
  have HH := Lib.hid hH
  clear hH
  go_enter Tryz.func77, Tryz.ntmps77
  go_wp2
  go_loopw [8] (SdRel d hi first lo blk off w) (fun i _ => hi + lo - (intOf i).toNat)
  case atStart => exact ⟨lo, d, rfl, .inl rfl, rfl, Rw9.refl HH.out, rfl⟩
  case round =>
    obtain ⟨r, e, rfl, hr, hes, hR, hO⟩ := hrel
    obtain ⟨G, hG, hc, hf⟩ := hR.fam HH.out hes
    have hrs : r ≤ d.size := by omega
    have HR := Lib.hid hR
    have HO := Lib.hid hO
    have HG := Lib.hid hG
    clear hR hO hG
    go_wp2
    · have hge : (hi : Int) ≤ 2 * (r : Int) + 1 := by assumption
      go_end0
      refine ⟨rfl, ?_⟩
      rw [← HO.out, sd_stop (by omega)]
      exact HR.out
    · obtain ⟨c, hcr⟩ : ∃ c : Nat, c = 2 * r + 1 := ⟨_, rfl⟩
      have hch : c < hi := by omega
      have hrc : r < c := by omega
      have hc9 : c ≤ 1000000 := by omega
      have hf9 : first ≤ 1000000 := by omega
      have hh9 : hi ≤ 1000000 := by omega
      rw [show (2 * (r : Int) + 1) = (c : Int) by omega]
      have w1 : IntKind.i64.wrap ((c : Int) + 1) = (c : Int) + 1 := by rw [IntKind.wrap_i64]; omega
      obtain ⟨p, hp⟩ : ∃ p : Nat, p = first + c := ⟨_, rfl⟩
      have hp1 : p < d.size := by omega
      have w2 : IntKind.i64.wrap ((first : Int) + (c : Int)) = (p : Int) := by rw [IntKind.wrap_i64]; omega
      have w3 : IntKind.i64.wrap ((p : Int) + 1) = (p : Int) + 1 := by rw [IntKind.wrap_i64]; omega
      have HP := Lib.hid hp
      have HC := Lib.hid hcr
      clear hp
      clear hcr
      obtain ⟨s, hs⟩ : ∃ s : Nat, s = first + r := ⟨_, rfl⟩
      have hs1 : s < d.size := by omega
      have hsp : s < p := by have := HP.out; omega
      have w4 : IntKind.i64.wrap ((first : Int) + (r : Int)) = (s : Int) := by rw [IntKind.wrap_i64]; omega
      have w5 : IntKind.i64.wrap ((first : Int) + ((c : Int) + 1)) = (p : Int) + 1 := by have := HP.out; rw [IntKind.wrap_i64]; omega
      have HS := Lib.hid hs
      clear hs
      by_cases h2 : (c : Int) + 1 < (hi : Int)
      · have hp2 : p + 1 < d.size := by have := HP.out; omega
        go_quiet (first | (go_at_call 53; refine Calls.quiet_of_same (Less9 _ _ _)))
        go_wp2
        · have hl : ltInt (G p) (G (p + 1)) = true := by assumption
          have EQ := Lib.hid (sd_two (d := e) (first := first) (r := r) (c := c + 1) (hi := hi) (by rw [HC.out]) (by omega) (by rw [show first + (2 * r + 1) = p by rw [HP.out, HC.out], show first + (c + 1) = p + 1 by rw [HP.out, Nat.add_assoc], ← HG.out, ← HG.out]; exact hl))
          obtain ⟨w5, hw5⟩ : ∃ W, W = wr.drewN nq := ⟨_, rfl⟩
          have hR5 := HR.out.drewN nq
          have hc5 : ∀ t, t < d.size → w5.cell? ⟨blk, off + t, none⟩ = some (.int .i32 (G t)) := by rw [hw5]; exact hc
          have hf5 : ∀ t, t < d.size → w5.frozen? ⟨blk, off + t, none⟩ = false := by rw [hw5]; exact hf
          rw [← hw5] at hR5 ⊢
          have HR5 := Lib.hid hR5
          clear hR5 hw5 hc hf HR
          go_quiet (first | (go_at_call 53; refine Calls.quiet_of_same (Less9 _ _ _)))
          go_wp2
          · have hl3 : (!ltInt (G s) (G (p + 1))) = true := by assumption
            have hl2 : ltInt (G s) (G (p + 1)) = false := by simpa using hl3
            try simp only [Exit.inBlock, Exit.then]
            refine bodyPost_ret (results_none rfl _ _ _) rfl ?_
            refine ⟨rfl, ?_⟩
            rw [← HO.out, EQ.out, if_neg (by rw [← HS.out, show first + (c + 1) = p + 1 by rw [HP.out, Nat.add_assoc], ← HG.out, ← HG.out, hl2]; exact Bool.false_ne_true)]
            exact (HR5.out.drewN _)
          · have hl3 : (!ltInt (G s) (G (p + 1))) = false := by assumption
            have hl2 : ltInt (G s) (G (p + 1)) = true := by simpa using hl3
            go_region
            all_goals go_wp2
            go_roundw
            case rel =>
              refine ⟨c + 1, swp e s (p + 1), by go_num, .inr (by omega), by rw [size_swp]; exact hes, (HR5.out.drewN _).swap (i := s) (j := p + 1) (by omega) (by omega) (HG.out _) (HG.out _), ?_⟩
              rw [← HO.out, EQ.out, if_pos (by rw [← HS.out, show first + (c + 1) = p + 1 by rw [HP.out, Nat.add_assoc], ← HG.out, ← HG.out]; exact hl2), ← HS.out, show first + (c + 1) = p + 1 by rw [HP.out, Nat.add_assoc]]
            case measure => simp [intOf]; omega
        · have hl : ltInt (G p) (G (p + 1)) = false := by assumption
          have EQ := Lib.hid (sd_one (d := e) (first := first) (r := r) (c := c) (hi := hi) HC.out hch (.inr (by rw [show first + c = p by rw [HP.out], show first + (c + 1) = p + 1 by rw [HP.out, Nat.add_assoc], ← HG.out, ← HG.out]; exact hl)))
          obtain ⟨w5, hw5⟩ : ∃ W, W = wr.drewN nq := ⟨_, rfl⟩
          have hR5 := HR.out.drewN nq
          have hc5 : ∀ t, t < d.size → w5.cell? ⟨blk, off + t, none⟩ = some (.int .i32 (G t)) := by rw [hw5]; exact hc
          have hf5 : ∀ t, t < d.size → w5.frozen? ⟨blk, off + t, none⟩ = false := by rw [hw5]; exact hf
          rw [← hw5] at hR5 ⊢
          have HR5 := Lib.hid hR5
          clear hR5 hw5 hc hf HR
          go_quiet (first | (go_at_call 53; refine Calls.quiet_of_same (Less9 _ _ _)))
          go_wp2
          · have hl3 : (!ltInt (G s) (G (p))) = true := by assumption
            have hl2 : ltInt (G s) (G (p)) = false := by simpa using hl3
            try simp only [Exit.inBlock, Exit.then]
            refine bodyPost_ret (results_none rfl _ _ _) rfl ?_
            refine ⟨rfl, ?_⟩
            rw [← HO.out, EQ.out, if_neg (by rw [← HS.out, show first + (c) = p by rw [HP.out], ← HG.out, ← HG.out, hl2]; exact Bool.false_ne_true)]
            exact (HR5.out.drewN _)
          · have hl3 : (!ltInt (G s) (G (p))) = false := by assumption
            have hl2 : ltInt (G s) (G (p)) = true := by simpa using hl3
            go_region
            all_goals go_wp2
            go_roundw
            case rel =>
              refine ⟨c, swp e s (p), by go_num, .inr (by omega), by rw [size_swp]; exact hes, (HR5.out.drewN _).swap (i := s) (j := p) (by omega) (by omega) (HG.out _) (HG.out _), ?_⟩
              rw [← HO.out, EQ.out, if_pos (by rw [← HS.out, show first + (c) = p by rw [HP.out], ← HG.out, ← HG.out]; exact hl2), ← HS.out, show first + (c) = p by rw [HP.out]]
            case measure => simp [intOf]; omega
      · go_quiet (first | (go_at_call 53; refine Calls.quiet_of_same (Less9 _ _ _)))
        go_wp2
        have EQ := Lib.hid (sd_one (d := e) (first := first) (r := r) (c := c) (hi := hi) HC.out hch (.inl (by omega)))
        obtain ⟨w5, hw5⟩ : ∃ W, W = wr.drewN nq := ⟨_, rfl⟩
        have hR5 := HR.out.drewN nq
        have hc5 : ∀ t, t < d.size → w5.cell? ⟨blk, off + t, none⟩ = some (.int .i32 (G t)) := by rw [hw5]; exact hc
        have hf5 : ∀ t, t < d.size → w5.frozen? ⟨blk, off + t, none⟩ = false := by rw [hw5]; exact hf
        rw [← hw5] at hR5 ⊢
        have HR5 := Lib.hid hR5
        clear hR5 hw5 hc hf HR
        go_quiet (first | (go_at_call 53; refine Calls.quiet_of_same (Less9 _ _ _)))
        go_wp2
        · have hl3 : (!ltInt (G s) (G (p))) = true := by assumption
          have hl2 : ltInt (G s) (G (p)) = false := by simpa using hl3
          try simp only [Exit.inBlock, Exit.then]
          refine bodyPost_ret (results_none rfl _ _ _) rfl ?_
          refine ⟨rfl, ?_⟩
          rw [← HO.out, EQ.out, if_neg (by rw [← HS.out, show first + (c) = p by rw [HP.out], ← HG.out, ← HG.out, hl2]; exact Bool.false_ne_true)]
          exact (HR5.out.drewN _)
        · have hl3 : (!ltInt (G s) (G (p))) = false := by assumption
          have hl2 : ltInt (G s) (G (p)) = true := by simpa using hl3
          go_region
          all_goals go_wp2
          go_roundw
          case rel =>
            refine ⟨c, swp e s (p), by go_num, .inr (by omega), by rw [size_swp]; exact hes, (HR5.out.drewN _).swap (i := s) (j := p) (by omega) (by omega) (HG.out _) (HG.out _), ?_⟩
            rw [← HO.out, EQ.out, if_pos (by rw [← HS.out, show first + (c) = p by rw [HP.out], ← HG.out, ← HG.out]; exact hl2), ← HS.out, show first + (c) = p by rw [HP.out]]
          case measure => simp [intOf]; omega

end Go.Proofs.YtkhjmbemjndcoaaGreatDoor
