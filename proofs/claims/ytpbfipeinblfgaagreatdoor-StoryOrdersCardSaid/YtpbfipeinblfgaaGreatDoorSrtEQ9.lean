/-
The library's sort over days, I: less; the short sort. Conditions: the row lies there.
The library's sort over days, II: the short sort. Conditions: the row lies there.
The library's sort over days, III: a row turned round, the heap. Conditions: the row lies there.
The library's sort over days, IV: the heap's sort. Conditions: the row lies there.
The library's sort over days, V: which element parts the row. Conditions: the row lies there.
The library's sort over days, VI: the choice of the pivot. Conditions: the row lies there, and is not short.
-/
import Derived.Test.YtpbfipeinblfgaaGreatDoorMemQ9
import Derived.Sort.AssemblyPlain
import Derived.Sort.Row
import Derived.RegionTactic
import Derived.Deep.QuietTactic
import Derived.BigCall
import Derived.BigGuard
import Derived.CellFam
import Derived.BigQuiet
import Derived.LoopTactic
import Derived.IntWalk
import Derived.Sort.Grow
namespace Go.Proofs.YtpbfipeinblfgaaGreatDoor
open Go.RowKit
open Go.Sort (putRow Holds swp ltInt PermIn SortedIn holds_putRow holds_ahead putRow_self putRow_swp putRow_ahead ahead_ahead cell?_putRow frozen?_putRow size_swp)

/-- A day as a value. -/
abbrev eD (n : Int) : Value := .int .i32 n
/-- The row, n draws on. -/
def Rw9 (w : World) (blk off : Nat) (d : Array Int) (w' : World) : Prop := ∃ n, w' = putRow eD (Go.Sort.ahead w n) blk off d

theorem Rw9.refl {w : World} {blk off : Nat} {d : Array Int} (h : Holds eD w blk off d) : Rw9 w blk off d w := ⟨0, (putRow_self _ _ _ _ _ h).symm⟩
theorem Rw9.holds {w w' : World} {blk off : Nat} {d d' : Array Int} (h : Holds eD w blk off d) (hr : Rw9 w blk off d' w') (hs : d'.size = d.size) : Holds eD w' blk off d' := by
  obtain ⟨n, rfl⟩ := hr
  exact holds_putRow _ _ _ _ d d' (holds_ahead _ _ _ _ _ _ h) hs
theorem Rw9.drewN {w w' : World} {blk off : Nat} {d : Array Int} (h : Rw9 w blk off d w') (q : Nat) : Rw9 w blk off d (w'.drewN q) := by
  obtain ⟨n, rfl⟩ := h
  exact ⟨n + q, by
    show Go.Sort.ahead (putRow eD (Go.Sort.ahead w n) blk off d) q = _
    rw [putRow_ahead eD w n, ahead_ahead, ← putRow_ahead]⟩
theorem Rw9.trans {w w' w'' : World} {blk off : Nat} {d d' : Array Int} (h : Rw9 w blk off d w') (h' : Rw9 w' blk off d' w'') (hs : d'.size = d.size) : Rw9 w blk off d' w'' := by
  obtain ⟨n, rfl⟩ := h
  obtain ⟨m, rfl⟩ := h'
  exact ⟨n + m, Go.Sort.putRow_ahead_putRow _ _ _ _ _ _ _ _ hs⟩
/-- Two elements changed for one another. -/
theorem Rw9.swap {w w' : World} {blk off : Nat} {d : Array Int} (h : Rw9 w blk off d w') {i j : Nat} (hi : i < d.size) (hj : j < d.size) {x y : Int} (hx : x = d[j]!) (hy : y = d[i]!) :
    Rw9 w blk off (swp d i j) ((w'.setCell ⟨blk, off + i, none⟩ (eD x)).setCell ⟨blk, off + j, none⟩ (eD y)) := by
  obtain ⟨n, rfl⟩ := h
  subst hx hy
  exact ⟨n, putRow_swp eD _ blk off d i j hi hj⟩
theorem Rw9.drew {w w' : World} {blk off : Nat} {d : Array Int} (h : Rw9 w blk off d w') : Rw9 w blk off d w'.drew := h.drewN 1
/-- What a load reads, what is not frozen. -/
theorem Rw9.fam {w w' : World} {blk off : Nat} {d d' : Array Int} (h : Holds eD w blk off d) (hr : Rw9 w blk off d' w') (hs : d'.size = d.size) :
    ∃ G : Nat → Int, (∀ t, G t = d'[t]!) ∧ (∀ t, t < d.size → w'.cell? ⟨blk, off + t, none⟩ = some (.int .i32 (G t))) ∧ ∀ t, t < d.size → w'.frozen? ⟨blk, off + t, none⟩ = false :=
  ⟨fun t => d'[t]!, fun _ => rfl, fun t ht => (hr.holds h hs t (by omega)).1, fun t ht => (hr.holds h hs t (by omega)).2⟩

set_option maxRecDepth 20000 in
theorem isNaN9 (x : Int) (w : World) : Calls Tryz.prog 148 #[.int .i32 x] w fun e w' => e = .returned (.bool false) ∧ w' = w := by
  go_enter Tryz.func148, Tryz.ntmps148
  go_wp2
  go_ret
  exact ⟨rfl, rfl⟩
set_option maxRecDepth 20000 in
theorem Less9 (x y : Int) (w : World) : Calls Tryz.prog 213 #[.int .i32 x, .int .i32 y] w fun e w' => e = .returned (.bool (ltInt x y)) ∧ w' = w := by
  go_enter Tryz.func213, Tryz.ntmps213
  go_wp2_with (go_at_call 148; refine (isNaN9 _ _).mono ?_; rintro e w' ⟨rfl, rfl⟩)
  go_ret
  exact ⟨rfl, rfl⟩
end Go.Proofs.YtpbfipeinblfgaaGreatDoor
namespace Go.Proofs.YtpbfipeinblfgaaGreatDoor
open Go.RowKit
open Go.Sort (putRow Holds swp ltInt PermIn SortedIn size_swp insInner insOuter insertionSort)

theorem insI_go {a j : Nat} {d : Array Int} (hj : a < j) (hl : ltInt d[j]! d[j - 1]! = true) : insInner ltInt a j d = insInner ltInt a (j - 1) (swp d j (j - 1)) := by
  cases j with
  | zero => omega
  | succ k =>
    rw [insInner]
    rw [Nat.add_sub_cancel] at hl
    rw [Nat.add_sub_cancel, hl, if_pos (by simp; omega)]
theorem insI_stop {a j : Nat} {d : Array Int} (h : j ≤ a ∨ ltInt d[j]! d[j - 1]! = false) : insInner ltInt a j d = d := by
  cases j with
  | zero => rfl
  | succ k =>
    rw [insInner, if_neg]
    rw [Nat.add_sub_cancel] at h
    rcases h with h | h
    · simp; omega
    · rw [h]; simp
theorem insO_go {a b i : Nat} {d : Array Int} (h : i < b) : insOuter ltInt a b i d = insOuter ltInt a b (i + 1) (insInner ltInt a i d) := by rw [insOuter, if_pos h]
theorem insO_stop {a b i : Nat} {d : Array Int} (h : ¬ i < b) : insOuter ltInt a b i d = d := by rw [insOuter, if_neg h]

def OuRel (d : Array Int) (a b blk off : Nat) (w : World) (i : Value) (w' : World) : Prop :=
  ∃ k : Nat, ∃ e : Array Int, i = .int .i64 k ∧ a < k ∧ k ≤ b + 1 ∧ e.size = d.size ∧ Rw9 w blk off e w' ∧ insOuter ltInt a b k e = insOuter ltInt a b (a + 1) d
def InRel (d e : Array Int) (a k blk off : Nat) (w : World) (j : Value) (w' : World) : Prop :=
  ∃ q : Nat, ∃ f : Array Int, j = .int .i64 q ∧ a ≤ q ∧ q ≤ k ∧ f.size = d.size ∧ Rw9 w blk off f w' ∧ insInner ltInt a q f = insInner ltInt a k e

set_option maxRecDepth 20000 in
set_option maxHeartbeats 4000000 in
theorem Ins9 (blk off cap a b : Nat) (d : Array Int) (w : World) (hH : Holds eD w blk off d) (hab : a ≤ b) (hb : b ≤ d.size) (hsz : d.size ≤ 1000000) :
    Calls Tryz.prog 235 #[.slice (some ⟨blk, off, none⟩) d.size cap, .int .i64 a, .int .i64 b] w fun e w' => e = .returned (.tuple #[]) ∧ Rw9 w blk off (insertionSort ltInt d a b) w' := by
  have HH := Lib.hid hH
  clear hH
  go_enter Tryz.func235, Tryz.ntmps235
  go_wp2
  go_loopw [6] (OuRel d a b blk off w) (fun i _ => b + 1 - (intOf i).toNat)
  case atStart => exact ⟨a + 1, d, by go_num, by omega, by omega, rfl, Rw9.refl HH.out, rfl⟩
  case round =>
    obtain ⟨k, e, rfl, hk1, hk2, hes, hR, hO⟩ := hrel
    have HR := Lib.hid hR
    have HO := Lib.hid hO
    clear hR hO
    go_wp2
    · have hlt : k < b := by assumption
      go_loopw [7] (InRel d e a k blk off w) (fun j _ => (intOf j).toNat)
      case atStart => exact ⟨k, e, rfl, by omega, Nat.le_refl _, hes, HR.out, rfl⟩
      case round =>
        obtain ⟨q, f, rfl, hq1, hq2, hfs, hR2, hI⟩ := hrel
        obtain ⟨G, hG, hc, hf⟩ := hR2.fam HH.out hfs
        have HR2 := Lib.hid hR2
        have HI := Lib.hid hI
        have HG := Lib.hid hG
        clear hR2 hI hG
        have OUT : Hid ((q ≤ a ∨ ltInt f[q]! f[q - 1]! = false) → insOuter ltInt a b (k + 1) f = insOuter ltInt a b (a + 1) d) := Lib.hid fun hs => by
          rw [← HO.out, insO_go hlt, ← HI.out, insI_stop hs]
        clear HO
        go_wp2
        by_cases hja : a < q
        · go_quiet (first | (go_at_call 213; refine Calls.quiet_of_same (Less9 _ _ _)))
          go_wp2
          · have hl : ltInt (G q) (G (q - 1)) = true := by assumption
            go_region
            all_goals go_wp2
            go_roundw
            case rel => exact ⟨q - 1, swp f q (q - 1), by congr 1; omega, by omega, by omega, by rw [size_swp]; exact hfs, (HR2.out.drewN _).swap (i := q) (j := q - 1) (by omega) (by omega) (HG.out _) (HG.out _), by rw [← HI.out, insI_go hja (by rw [← HG.out, ← HG.out]; exact hl)]⟩
            case measure => simp [intOf]; omega
          · have hl : ltInt (G q) (G (q - 1)) = false := by assumption
            go_roundw
            case rel => exact ⟨k + 1, f, by go_num, by omega, by omega, hfs, HR2.out.drewN _, OUT.out (.inr (by rw [← HG.out, ← HG.out]; exact hl))⟩
            case measure => simp [intOf]; omega
        · go_quiet (first | (go_at_call 213; refine Calls.quiet_of_same (Less9 _ _ _)))
          go_wp2
          go_roundw
          case rel => exact ⟨k + 1, f, by go_num, by omega, by omega, hfs, HR2.out.drewN _, OUT.out (.inl (by omega))⟩
          case measure => simp [intOf]; omega
    · have hge : ¬ k < b := by assumption
      go_end0
      refine ⟨rfl, ?_⟩
      have e1 : insertionSort ltInt d a b = e := by unfold insertionSort; rw [← HO.out, insO_stop hge]
      rw [e1]
      exact HR.out
end Go.Proofs.YtpbfipeinblfgaaGreatDoor
namespace Go.Proofs.YtpbfipeinblfgaaGreatDoor
open Go.RowKit
open Go.Sort (putRow Holds swp ltInt PermIn SortedIn size_swp permIn_trans permIn_refl swp_permIn siftDown heapBuild heapPop heapSort)

def RvRel (d : Array Int) (a b blk off : Nat) (w : World) (i j : Value) (w' : World) : Prop :=
  ∃ p q : Nat, ∃ e : Array Int, i = .int .i64 p ∧ j = .int .i64 q ∧ a ≤ p ∧ q < b ∧ PermIn a b d e ∧ Rw9 w blk off e w'
set_option maxRecDepth 20000 in
set_option maxHeartbeats 4000000 in
theorem Rev9 (blk off cap a b : Nat) (d : Array Int) (w : World) (hH : Holds eD w blk off d) (hab : a < b) (hb : b ≤ d.size) (hsz : d.size ≤ 1000000) :
    Calls Tryz.prog 239 #[.slice (some ⟨blk, off, none⟩) d.size cap, .int .i64 a, .int .i64 b] w fun e w' => e = .returned (.tuple #[]) ∧ ∃ d', PermIn a b d d' ∧ Rw9 w blk off d' w' := by
  have HH := Lib.hid hH
  clear hH
  go_enter Tryz.func239, Tryz.ntmps239
  go_wp2
  go_loopw [6, 7] (RvRel d a b blk off w) (fun i j _ => (intOf j - intOf i).toNat)
  case atStart => exact ⟨a, b - 1, d, by go_num, by congr 1; omega, Nat.le_refl _, by omega, permIn_refl _ _ _, Rw9.refl HH.out⟩
  case round =>
    obtain ⟨p, q, e, rfl, rfl, hp, hq, hP, hR⟩ := hrel
    have hes : e.size = d.size := hP.1
    obtain ⟨G, hG, hc, hf⟩ := hR.fam HH.out hes
    have HR := Lib.hid hR
    have HP := Lib.hid hP
    have HG := Lib.hid hG
    clear hR hP hG
    go_wp2
    · have hpq : p < q := by assumption
      go_region
      all_goals go_wp2
      go_roundw
      case rel => exact ⟨p + 1, q - 1, swp e p q, by go_num, by congr 1; omega, by omega, by omega, permIn_trans _ _ _ _ _ HP.out (swp_permIn _ _ _ _ _ hp (by omega) (by omega) hq (by omega)), (HR.out.drewN 1).swap (i := p) (j := q) (by omega) (by omega) (HG.out _) (HG.out _)⟩
      case measure => simp [intOf]; omega
    · go_end0
      exact ⟨rfl, e, HP.out, HR.out⟩

theorem sd_stop {hi first r : Nat} {d : Array Int} (h : hi ≤ 2 * r + 1) : siftDown ltInt hi first r d = d := by rw [siftDown, dif_pos h]
theorem sd_two {hi first r c : Nat} {d : Array Int} (hc : c = 2 * r + 1 + 1) (h : c < hi) (hl : ltInt d[first + (2 * r + 1)]! d[first + c]! = true) :
    siftDown ltInt hi first r d = if ltInt d[first + r]! d[first + c]! then siftDown ltInt hi first c (swp d (first + r) (first + c)) else d := by
  subst hc
  rw [siftDown, dif_neg (by omega), if_pos (by rw [Nat.add_assoc]; rw [← Nat.add_assoc (2 * r) 1 1] at hl; simp only [Nat.add_assoc] at hl ⊢; rw [hl]; simp; omega)]
  by_cases h2 : ltInt d[first + r]! d[first + (2 * r + 2)]! = true
  · rw [if_neg (by rw [h2]; simp), dif_pos (by omega), if_pos h2]
  · rw [if_pos (by simpa using h2), if_neg h2]
theorem sd_one {hi first r c : Nat} {d : Array Int} (hc : c = 2 * r + 1) (h : c < hi) (hl : ¬ c + 1 < hi ∨ ltInt d[first + c]! d[first + (c + 1)]! = false) :
    siftDown ltInt hi first r d = if ltInt d[first + r]! d[first + c]! then siftDown ltInt hi first c (swp d (first + r) (first + c)) else d := by
  subst hc
  rw [siftDown, dif_neg (by omega), if_neg (by
    rcases hl with hl | hl
    · simp; omega
    · simp only [Nat.add_assoc] at hl ⊢
      rw [hl]; simp)]
  by_cases h2 : ltInt d[first + r]! d[first + (2 * r + 1)]! = true
  · rw [if_neg (by rw [h2]; simp), if_pos h2]
  · rw [if_pos (by simpa using h2), if_neg h2]

def SdRel (d : Array Int) (hi first lo blk off : Nat) (w : World) (i : Value) (w' : World) : Prop :=
  ∃ r : Nat, ∃ e : Array Int, i = .int .i64 r ∧ (r = lo ∨ r < hi) ∧ e.size = d.size ∧ Rw9 w blk off e w' ∧ siftDown ltInt hi first r e = siftDown ltInt hi first lo d
set_option maxRecDepth 20000 in
set_option maxHeartbeats 4000000 in
theorem Sift9 (blk off cap lo hi first : Nat) (d : Array Int) (w : World) (hH : Holds eD w blk off d) (hlo : lo ≤ d.size) (hb : first + hi ≤ d.size) (hsz : d.size ≤ 1000000) :
    Calls Tryz.prog 251 #[.slice (some ⟨blk, off, none⟩) d.size cap, .int .i64 lo, .int .i64 hi, .int .i64 first] w fun e w' => e = .returned (.tuple #[]) ∧ Rw9 w blk off (siftDown ltInt hi first lo d) w' := by
  have HH := Lib.hid hH
  clear hH
  go_enter Tryz.func251, Tryz.ntmps251
  go_wp2
  go_loopw [8] (SdRel d hi first lo blk off w) (fun i _ => hi + lo - (intOf i).toNat)
  case atStart => exact ⟨lo, d, rfl, .inl rfl, rfl, Rw9.refl HH.out, rfl⟩
  case round =>
    obtain ⟨r, e, rfl, hr, hes, hR, hO⟩ := hrel
    obtain ⟨G, hG, hc, hf⟩ := hR.fam HH.out hes
    have hrs : r ≤ d.size := by omega
    have HR := Lib.hid hR
    have HO := Lib.hid hO
    have HG := Lib.hid hG
    clear hR hO hG
    go_wp2
    · have hge : (hi : Int) ≤ 2 * (r : Int) + 1 := by assumption
      go_end0
      refine ⟨rfl, ?_⟩
      rw [← HO.out, sd_stop (by omega)]
      exact HR.out
    · obtain ⟨c, hcr⟩ : ∃ c : Nat, c = 2 * r + 1 := ⟨_, rfl⟩
      have hch : c < hi := by omega
      have hrc : r < c := by omega
      have hc9 : c ≤ 1000000 := by omega
      have hf9 : first ≤ 1000000 := by omega
      have hh9 : hi ≤ 1000000 := by omega
      rw [show (2 * (r : Int) + 1) = (c : Int) by omega]
      have w1 : IntKind.i64.wrap ((c : Int) + 1) = (c : Int) + 1 := by rw [IntKind.wrap_i64]; omega
      obtain ⟨p, hp⟩ : ∃ p : Nat, p = first + c := ⟨_, rfl⟩
      have hp1 : p < d.size := by omega
      have w2 : IntKind.i64.wrap ((first : Int) + (c : Int)) = (p : Int) := by rw [IntKind.wrap_i64]; omega
      have w3 : IntKind.i64.wrap ((p : Int) + 1) = (p : Int) + 1 := by rw [IntKind.wrap_i64]; omega
      have HP := Lib.hid hp
      have HC := Lib.hid hcr
      clear hp
      clear hcr
      obtain ⟨s, hs⟩ : ∃ s : Nat, s = first + r := ⟨_, rfl⟩
      have hs1 : s < d.size := by omega
      have hsp : s < p := by have := HP.out; omega
      have w4 : IntKind.i64.wrap ((first : Int) + (r : Int)) = (s : Int) := by rw [IntKind.wrap_i64]; omega
      have w5 : IntKind.i64.wrap ((first : Int) + ((c : Int) + 1)) = (p : Int) + 1 := by have := HP.out; rw [IntKind.wrap_i64]; omega
      have HS := Lib.hid hs
      clear hs
      by_cases h2 : (c : Int) + 1 < (hi : Int)
      · have hp2 : p + 1 < d.size := by have := HP.out; omega
        go_quiet (first | (go_at_call 213; refine Calls.quiet_of_same (Less9 _ _ _)))
        go_wp2
        · have hl : ltInt (G p) (G (p + 1)) = true := by assumption
          have EQ := Lib.hid (sd_two (d := e) (first := first) (r := r) (c := c + 1) (hi := hi) (by rw [HC.out]) (by omega) (by rw [show first + (2 * r + 1) = p by rw [HP.out, HC.out], show first + (c + 1) = p + 1 by rw [HP.out, Nat.add_assoc], ← HG.out, ← HG.out]; exact hl))
          obtain ⟨w5, hw5⟩ : ∃ W, W = wr.drewN nq := ⟨_, rfl⟩
          have hR5 := HR.out.drewN nq
          have hc5 : ∀ t, t < d.size → w5.cell? ⟨blk, off + t, none⟩ = some (.int .i32 (G t)) := by rw [hw5]; exact hc
          have hf5 : ∀ t, t < d.size → w5.frozen? ⟨blk, off + t, none⟩ = false := by rw [hw5]; exact hf
          rw [← hw5] at hR5 ⊢
          have HR5 := Lib.hid hR5
          clear hR5 hw5 hc hf HR
          go_quiet (first | (go_at_call 213; refine Calls.quiet_of_same (Less9 _ _ _)))
          go_wp2
          · have hl3 : (!ltInt (G s) (G (p + 1))) = true := by assumption
            have hl2 : ltInt (G s) (G (p + 1)) = false := by simpa using hl3
            try simp only [Exit.inBlock, Exit.then]
            refine bodyPost_ret (results_none rfl _ _ _) rfl ?_
            refine ⟨rfl, ?_⟩
            rw [← HO.out, EQ.out, if_neg (by rw [← HS.out, show first + (c + 1) = p + 1 by rw [HP.out, Nat.add_assoc], ← HG.out, ← HG.out, hl2]; exact Bool.false_ne_true)]
            exact (HR5.out.drewN _)
          · have hl3 : (!ltInt (G s) (G (p + 1))) = false := by assumption
            have hl2 : ltInt (G s) (G (p + 1)) = true := by simpa using hl3
            go_region
            all_goals go_wp2
            go_roundw
            case rel =>
              refine ⟨c + 1, swp e s (p + 1), by go_num, .inr (by omega), by rw [size_swp]; exact hes, (HR5.out.drewN _).swap (i := s) (j := p + 1) (by omega) (by omega) (HG.out _) (HG.out _), ?_⟩
              rw [← HO.out, EQ.out, if_pos (by rw [← HS.out, show first + (c + 1) = p + 1 by rw [HP.out, Nat.add_assoc], ← HG.out, ← HG.out]; exact hl2), ← HS.out, show first + (c + 1) = p + 1 by rw [HP.out, Nat.add_assoc]]
            case measure => simp [intOf]; omega
        · have hl : ltInt (G p) (G (p + 1)) = false := by assumption
          have EQ := Lib.hid (sd_one (d := e) (first := first) (r := r) (c := c) (hi := hi) HC.out hch (.inr (by rw [show first + c = p by rw [HP.out], show first + (c + 1) = p + 1 by rw [HP.out, Nat.add_assoc], ← HG.out, ← HG.out]; exact hl)))
          obtain ⟨w5, hw5⟩ : ∃ W, W = wr.drewN nq := ⟨_, rfl⟩
          have hR5 := HR.out.drewN nq
          have hc5 : ∀ t, t < d.size → w5.cell? ⟨blk, off + t, none⟩ = some (.int .i32 (G t)) := by rw [hw5]; exact hc
          have hf5 : ∀ t, t < d.size → w5.frozen? ⟨blk, off + t, none⟩ = false := by rw [hw5]; exact hf
          rw [← hw5] at hR5 ⊢
          have HR5 := Lib.hid hR5
          clear hR5 hw5 hc hf HR
          go_quiet (first | (go_at_call 213; refine Calls.quiet_of_same (Less9 _ _ _)))
          go_wp2
          · have hl3 : (!ltInt (G s) (G (p))) = true := by assumption
            have hl2 : ltInt (G s) (G (p)) = false := by simpa using hl3
            try simp only [Exit.inBlock, Exit.then]
            refine bodyPost_ret (results_none rfl _ _ _) rfl ?_
            refine ⟨rfl, ?_⟩
            rw [← HO.out, EQ.out, if_neg (by rw [← HS.out, show first + (c) = p by rw [HP.out], ← HG.out, ← HG.out, hl2]; exact Bool.false_ne_true)]
            exact (HR5.out.drewN _)
          · have hl3 : (!ltInt (G s) (G (p))) = false := by assumption
            have hl2 : ltInt (G s) (G (p)) = true := by simpa using hl3
            go_region
            all_goals go_wp2
            go_roundw
            case rel =>
              refine ⟨c, swp e s (p), by go_num, .inr (by omega), by rw [size_swp]; exact hes, (HR5.out.drewN _).swap (i := s) (j := p) (by omega) (by omega) (HG.out _) (HG.out _), ?_⟩
              rw [← HO.out, EQ.out, if_pos (by rw [← HS.out, show first + (c) = p by rw [HP.out], ← HG.out, ← HG.out]; exact hl2), ← HS.out, show first + (c) = p by rw [HP.out]]
            case measure => simp [intOf]; omega
      · go_quiet (first | (go_at_call 213; refine Calls.quiet_of_same (Less9 _ _ _)))
        go_wp2
        have EQ := Lib.hid (sd_one (d := e) (first := first) (r := r) (c := c) (hi := hi) HC.out hch (.inl (by omega)))
        obtain ⟨w5, hw5⟩ : ∃ W, W = wr.drewN nq := ⟨_, rfl⟩
        have hR5 := HR.out.drewN nq
        have hc5 : ∀ t, t < d.size → w5.cell? ⟨blk, off + t, none⟩ = some (.int .i32 (G t)) := by rw [hw5]; exact hc
        have hf5 : ∀ t, t < d.size → w5.frozen? ⟨blk, off + t, none⟩ = false := by rw [hw5]; exact hf
        rw [← hw5] at hR5 ⊢
        have HR5 := Lib.hid hR5
        clear hR5 hw5 hc hf HR
        go_quiet (first | (go_at_call 213; refine Calls.quiet_of_same (Less9 _ _ _)))
        go_wp2
        · have hl3 : (!ltInt (G s) (G (p))) = true := by assumption
          have hl2 : ltInt (G s) (G (p)) = false := by simpa using hl3
          try simp only [Exit.inBlock, Exit.then]
          refine bodyPost_ret (results_none rfl _ _ _) rfl ?_
          refine ⟨rfl, ?_⟩
          rw [← HO.out, EQ.out, if_neg (by rw [← HS.out, show first + (c) = p by rw [HP.out], ← HG.out, ← HG.out, hl2]; exact Bool.false_ne_true)]
          exact (HR5.out.drewN _)
        · have hl3 : (!ltInt (G s) (G (p))) = false := by assumption
          have hl2 : ltInt (G s) (G (p)) = true := by simpa using hl3
          go_region
          all_goals go_wp2
          go_roundw
          case rel =>
            refine ⟨c, swp e s (p), by go_num, .inr (by omega), by rw [size_swp]; exact hes, (HR5.out.drewN _).swap (i := s) (j := p) (by omega) (by omega) (HG.out _) (HG.out _), ?_⟩
            rw [← HO.out, EQ.out, if_pos (by rw [← HS.out, show first + (c) = p by rw [HP.out], ← HG.out, ← HG.out]; exact hl2), ← HS.out, show first + (c) = p by rw [HP.out]]
          case measure => simp [intOf]; omega

end Go.Proofs.YtpbfipeinblfgaaGreatDoor
namespace Go.Proofs.YtpbfipeinblfgaaGreatDoor
open Go.RowKit
open Go.Sort (putRow Holds swp ltInt PermIn SortedIn size_swp permIn_trans permIn_refl swp_permIn siftDown heapBuild heapPop heapSort)

theorem Sift9n (n blk off cap lo hi first : Nat) (d : Array Int) (w : World) (hn : d.size = n) (hH : Holds eD w blk off d) (hlo : lo ≤ n) (hb : first + hi ≤ n) (hsz : n ≤ 1000000) :
    Calls Tryz.prog 251 #[.slice (some ⟨blk, off, none⟩) n cap, .int .i64 lo, .int .i64 hi, .int .i64 first] w fun e w' => e = .returned (.tuple #[]) ∧ Rw9 w blk off (siftDown ltInt hi first lo d) w' := by
  subst hn
  exact Sift9 blk off cap lo hi first d w hH hlo hb hsz
def HbRel (d : Array Int) (hi a k0 blk off : Nat) (w : World) (i : Value) (w' : World) : Prop :=
  ∃ k : Nat, ∃ e : Array Int, i = .int .i64 ((k : Int) - 1) ∧ k ≤ k0 ∧ e.size = d.size ∧ Rw9 w blk off e w' ∧ heapBuild ltInt hi a k e = heapBuild ltInt hi a k0 d
def HpRel (d T : Array Int) (hi a blk off : Nat) (w : World) (i : Value) (w' : World) : Prop :=
  ∃ k : Nat, ∃ e : Array Int, i = .int .i64 ((k : Int) - 1) ∧ k ≤ hi ∧ e.size = d.size ∧ Rw9 w blk off e w' ∧ heapPop ltInt a k e = T
theorem siftDown_size (hi first : Nat) : ∀ (n r : Nat) (d : Array Int), hi - r ≤ n → (siftDown ltInt hi first r d).size = d.size := by
  intro n
  induction n with
  | zero => intro r d h; rw [sd_stop (by omega)]
  | succ n ih =>
    intro r d h
    by_cases h1 : 2 * r + 1 < hi
    · by_cases h2 : 2 * r + 1 + 1 < hi ∧ ltInt d[first + (2 * r + 1)]! d[first + (2 * r + 1 + 1)]! = true
      · rw [sd_two rfl h2.1 h2.2]
        split
        · rw [ih _ _ (by omega), size_swp]
        · rfl
      · rw [sd_one rfl h1 (by
          by_cases h3 : 2 * r + 1 + 1 < hi
          · right
            cases h4 : ltInt d[first + (2 * r + 1)]! d[first + (2 * r + 1 + 1)]! with
            | false => rfl
            | true => exact absurd ⟨h3, h4⟩ h2
          · exact .inl h3)]
        split
        · rw [ih _ _ (by omega), size_swp]
        · rfl
    · rw [sd_stop (by omega)]
set_option maxRecDepth 20000 in
set_option maxHeartbeats 4000000 in
theorem Heap9 (blk off cap a b : Nat) (d : Array Int) (w : World) (hH : Holds eD w blk off d) (hab : a < b) (hb : b ≤ d.size) (hsz : d.size ≤ 1000000) :
    Calls Tryz.prog 236 #[.slice (some ⟨blk, off, none⟩) d.size cap, .int .i64 a, .int .i64 b] w fun e w' => e = .returned (.tuple #[]) ∧ Rw9 w blk off (heapSort ltInt d a b) w' := by
  have HH := Lib.hid hH
  clear hH
  have hE : heapSort ltInt d a b = heapPop ltInt a (b - a) (heapBuild ltInt (b - a) a ((b - a - 1) / 2 + 1) d) := rfl
  rw [hE]
  clear hE
  obtain ⟨hi, hhi⟩ : ∃ hi : Nat, hi = b - a := ⟨_, rfl⟩
  rw [← hhi]
  have ehi : (b : Int) - (a : Int) = (hi : Int) := by omega
  obtain ⟨k0, hk0⟩ : ∃ k0 : Nat, k0 = (hi - 1) / 2 + 1 := ⟨_, rfl⟩
  rw [← hk0]
  have w1 : IntKind.i64.wrap ((b : Int) - (a : Int)) = (hi : Int) := by rw [IntKind.wrap_i64]; omega
  have w2 : IntKind.i64.wrap (((hi : Int) - 1).tdiv 2) = (k0 : Int) - 1 := by
    rw [Int.tdiv_eq_ediv_of_nonneg (by omega), IntKind.wrap_i64]
    omega
  have hk0b : k0 ≤ hi := by omega
  have hih : a + hi ≤ d.size := by omega
  have hi1 : hi ≤ 1000000 := by omega
  have HHI := Lib.hid hhi
  have HK0 := Lib.hid hk0
  clear hhi hk0 ehi
  go_enter Tryz.func236, Tryz.ntmps236
  go_wp2
  clear w1 w2
  go_loopw [9] (HbRel d hi a k0 blk off w) (fun i _ => (intOf i + 1).toNat)
  case atStart => exact ⟨k0, d, rfl, Nat.le_refl _, rfl, Rw9.refl HH.out, rfl⟩
  case round =>
    obtain ⟨k, e, rfl, hk, hes, hR, hO⟩ := hrel
    have HR := Lib.hid hR
    have HO := Lib.hid hO
    clear hR hO
    rcases k with _ | k
    · have HO2 : Hid (heapPop ltInt a hi e = heapPop ltInt a hi (heapBuild ltInt hi a k0 d)) := Lib.hid (congrArg _ (show e = _ from HO.out))
      clear HO
      have HR0 := Lib.hid HR.out
      clear HR
      rw [show ((0 : Nat) : Int) - 1 = -1 from rfl]
      go_wp2
      go_loopw [10] (HpRel d (heapPop ltInt a hi (heapBuild ltInt hi a k0 d)) hi a blk off w) (fun i _ => (intOf i + 1).toNat)
      case atStart => exact ⟨hi, e, rfl, Nat.le_refl _, hes, HR0.out, HO2.out⟩
      case round =>
        clear HO2 HR0 hes
        obtain ⟨k, e, rfl, hk, hes, hR, hO⟩ := hrel
        obtain ⟨G, hG, hc, hf⟩ := hR.fam HH.out hes
        have HR := Lib.hid hR
        have HG := Lib.hid hG
        have HO := Lib.hid hO
        clear hR hG hO
        rcases k with _ | k
        · have HO3 : Hid (e = heapPop ltInt a hi (heapBuild ltInt hi a k0 d)) := Lib.hid HO.out
          go_wp2
          go_end0
          refine ⟨rfl, ?_⟩
          rw [← HO3.out]
          exact HR.out
        · have w3 : IntKind.i64.wrap ((a : Int) + (k : Int)) = ((a + k : Nat) : Int) := by rw [IntKind.wrap_i64]; omega
          obtain ⟨p, hp⟩ : ∃ p : Nat, p = a + k := ⟨_, rfl⟩
          rw [← hp] at w3
          have hp1 : p < d.size := by omega
          have ha1 : a < d.size := by omega
          rw [show ((k + 1 : Nat) : Int) - 1 = (k : Int) by omega]
          have hO4 : heapPop ltInt a k (siftDown ltInt k a 0 (swp e a p)) = heapPop ltInt a hi (heapBuild ltInt hi a k0 d) := by rw [hp]; exact HO.out
          have HO4 := Lib.hid hO4
          have HP := Lib.hid hp
          clear hO4 HO hp
          obtain ⟨v9, hv9⟩ := cell?_setCell_some (w := wr) (p := ⟨blk, off + a, none⟩) (x := .int .i32 (G p)) (q := ⟨blk, off + p, none⟩) (hc p hp1)
          go_wp2
          go_region
          go_wp2_with fail
          have hR5 := (HR.out.swap (i := a) (j := p) (by omega) (by omega) (HG.out _) (HG.out _)).drew
          obtain ⟨w5, hw5⟩ : ∃ W, W = ((wr.setCell ⟨blk, off + a, none⟩ (eD (G p))).setCell ⟨blk, off + p, none⟩ (eD (G a))).drew := ⟨_, rfl⟩
          rw [← hw5] at hR5 ⊢
          have hes5 : (swp e a p).size = d.size := by rw [size_swp]; exact hes
          have hHe := Lib.hid (hR5.holds HH.out hes5)
          have hC := Sift9n d.size blk off cap 0 k a (swp e a p) w5 hes5 hHe.out (Nat.zero_le _) (by omega) hsz
          refine hC.mono ?_
          rintro x w6 ⟨rfl, hr6⟩
          have HR6 := Lib.hid (hR5.trans hr6 (siftDown_size _ _ _ _ _ (Nat.le_refl _)))
          have HES := Lib.hid hes5
          clear hr6 hC hHe hR5 hw5 HR hes hes5 w3 hv9 hc hf
          go_wp2_with fail
          go_roundw
          case rel => exact ⟨k, siftDown ltInt k a 0 (swp e a p), rfl, by omega, by rw [siftDown_size _ _ _ _ _ (Nat.le_refl _), HES.out], HR6.out, HO4.out⟩
          case measure => simp [intOf]
    · rw [show ((k + 1 : Nat) : Int) - 1 = (k : Int) by omega]
      have hO4 : heapBuild ltInt hi a k (siftDown ltInt hi a k e) = heapBuild ltInt hi a k0 d := HO.out
      have HO4 := Lib.hid hO4
      clear hO4 HO
      have hkd : k ≤ d.size := by omega
      have hHe := Lib.hid (HR.out.holds HH.out hes)
      have hC := Sift9n d.size blk off cap k hi a e wr hes hHe.out hkd hih hsz
      go_wp2_with fail
      refine hC.mono ?_
      rintro x w2 ⟨rfl, hr2⟩
      have HR2 := Lib.hid (HR.out.trans hr2 (siftDown_size _ _ _ _ _ (Nat.le_refl _)))
      have HES := Lib.hid hes
      clear hr2 hkd hHe HR hes hC
      go_wp2_with fail
      go_roundw
      case rel => exact ⟨k, siftDown ltInt hi a k e, rfl, by omega, by rw [siftDown_size _ _ _ _ _ (Nat.le_refl _), HES.out], HR2.out, HO4.out⟩
      case measure => simp [intOf]
end Go.Proofs.YtpbfipeinblfgaaGreatDoor
namespace Go.Proofs.YtpbfipeinblfgaaGreatDoor
open Go.RowKit
open Go.Sort (putRow Holds swp ltInt holds_putRow holds_ahead putRow_self putRow_ahead ahead_ahead cell?_putRow cell?_putRow_other frozen?_putRow grow)

/-- A counter's box, n draws on. -/
def Rs9 (w : World) (sb : Nat) (s : Int) (w' : World) : Prop := ∃ n, w' = putRow (Value.int .i64) (Go.Sort.ahead w n) sb 0 #[s]
abbrev Ct9 (w : World) (sb : Nat) (s : Int) : Prop := Holds (Value.int .i64) w sb 0 #[s]
theorem Ct9.cell {w : World} {sb : Nat} {s : Int} (h : Ct9 w sb s) : w.cell? ⟨sb, 0, none⟩ = some (.int .i64 s) ∧ w.frozen? ⟨sb, 0, none⟩ = false := by simpa using h 0 (by simp)
theorem Rs9.count {w w' : World} {sb : Nat} {s s' : Int} (h : Ct9 w sb s) (hr : Rs9 w sb s' w') : Ct9 w' sb s' := by
  obtain ⟨n, rfl⟩ := hr
  exact holds_putRow _ _ _ _ #[s] #[s'] (holds_ahead _ _ _ _ _ _ h) rfl
theorem Rs9.row {w w' : World} {sb blk off : Nat} {s' : Int} {d : Array Int} (h : Holds eD w blk off d) (hr : Rs9 w sb s' w') (hne : sb ≠ blk) : Holds eD w' blk off d := by
  obtain ⟨n, rfl⟩ := hr
  exact fun j hj => ⟨by rw [cell?_putRow_other _ _ _ _ _ _ (.inl (Ne.symm hne))]; exact (h j hj).1, by rw [frozen?_putRow]; exact (h j hj).2⟩
theorem Rs9.trans {w w' w'' : World} {sb : Nat} {s s' : Int} (h : Rs9 w sb s w') (h' : Rs9 w' sb s' w'') : Rs9 w sb s' w'' := by
  obtain ⟨n, rfl⟩ := h
  obtain ⟨m, rfl⟩ := h'
  exact ⟨n + m, Go.Sort.putRow_ahead_putRow _ _ _ _ _ _ _ _ rfl⟩
theorem Rs9.same {w : World} {sb : Nat} {s : Int} (h : Ct9 w sb s) (q : Nat) : Rs9 w sb s (w.drewN q) := ⟨q, by rw [putRow_self _ _ _ _ _ (holds_ahead _ _ _ _ _ _ h)]; rfl⟩
theorem Rs9.set_ {w : World} {sb : Nat} {s : Int} (h : Ct9 w sb s) (q : Nat) (t : Int) : Rs9 w sb t ((w.drewN q).setCell ⟨sb, 0, none⟩ (.int .i64 t)) := ⟨q, by
  have e := Go.Sort.putRow_set (Value.int .i64) (w.drewN q) sb 0 #[s] 0 t (by simp)
  rw [putRow_self _ _ _ _ _ (show Holds (Value.int .i64) (w.drewN q) sb 0 #[s] from h)] at e
  exact e⟩

set_option maxRecDepth 20000 in
theorem Order9 (n blk off cap a b sb : Nat) (s : Int) (d : Array Int) (w : World) (hn : d.size = n) (hH : Holds eD w blk off d) (ha : a < n) (hb : b < n) (_ : n ≤ 1000000) (hS : Ct9 w sb s) (hs : 0 ≤ s ∧ s ≤ 1000) :
    Calls Tryz.prog 255 #[.slice (some ⟨blk, off, none⟩) n cap, .int .i64 a, .int .i64 b, .pointer (some ⟨sb, 0, none⟩)] w fun e w' =>
      ∃ x y : Nat, ∃ t : Int, e = .returned (.tuple #[.int .i64 x, .int .i64 y]) ∧ (x = a ∧ y = b ∨ x = b ∧ y = a) ∧ s ≤ t ∧ t ≤ s + 1 ∧ Rs9 w sb t w' := by
  obtain ⟨c0, f0⟩ := hS.cell
  obtain ⟨G, hG, hc, hf⟩ := (Rw9.refl hH).fam hH rfl
  rw [hn] at hc hf
  have HS := Lib.hid hS
  clear hG hH hS
  go_enter Tryz.func255, Tryz.ntmps255
  go_wp2
  go_quiet (first | (go_at_call 213; refine Calls.quiet_of_same (Less9 _ _ _)))
  go_wp2
  · go_ret2
    exact ⟨b, a, s + 1, rfl, .inr ⟨rfl, rfl⟩, by omega, by omega, Rs9.set_ HS.out _ _⟩
  · go_ret2
    exact ⟨a, b, s, rfl, .inl ⟨rfl, rfl⟩, by omega, by omega, Rs9.same HS.out _⟩
set_option maxRecDepth 20000 in
theorem Median9 (n blk off cap a b c sb : Nat) (s : Int) (d : Array Int) (w : World) (hn : d.size = n) (hH : Holds eD w blk off d) (ha : a < n) (hb : b < n) (hcc : c < n) (hsz : n ≤ 1000000) (hS : Ct9 w sb s) (hs : 0 ≤ s ∧ s ≤ 900) (hne : sb ≠ blk) :
    Calls Tryz.prog 253 #[.slice (some ⟨blk, off, none⟩) n cap, .int .i64 a, .int .i64 b, .int .i64 c, .pointer (some ⟨sb, 0, none⟩)] w fun e w' =>
      ∃ x : Nat, ∃ t : Int, e = .returned (.int .i64 x) ∧ (x = a ∨ x = b ∨ x = c) ∧ s ≤ t ∧ t ≤ s + 3 ∧ Rs9 w sb t w' := by
  have HH := Lib.hid hH
  have HS := Lib.hid hS
  clear hH hS
  go_enter Tryz.func253, Tryz.ntmps253
  go_wp2_with fail
  refine (Order9 n blk off cap a b sb s d w hn HH.out ha hb hsz HS.out (by omega)).mono ?_
  rintro e w1 ⟨x1, y1, t1, rfl, hxy, ht1, ht2, hr1⟩
  have HR1 := Lib.hid hr1
  have hx1 : x1 < n := by omega
  have hy1 : y1 < n := by omega
  have HX1 := Lib.hid hxy
  clear hr1 hxy
  go_wp2_with fail
  refine (Order9 n blk off cap y1 c sb t1 d w1 hn (HR1.out.row HH.out hne) hy1 hcc hsz (HR1.out.count HS.out) (by omega)).mono ?_
  rintro e w2 ⟨x2, y2, t2, rfl, hxy, ht3, ht4, hr2⟩
  have HR2 := Lib.hid (HR1.out.trans hr2)
  have hx2 : x2 < n := by omega
  have HX2 := Lib.hid hxy
  clear hr2 hxy
  go_wp2_with fail
  refine (Order9 n blk off cap x1 x2 sb t2 d w2 hn (HR2.out.row HH.out hne) hx1 hx2 hsz (HR2.out.count HS.out) (by omega)).mono ?_
  rintro e w3 ⟨x3, y3, t3, rfl, hxy, ht5, ht6, hr3⟩
  have HR3 := Lib.hid (HR2.out.trans hr3)
  have HX3 := Lib.hid hxy
  clear hr3 hxy
  go_wp2_with fail
  go_ret
  have h1 := HX1.out
  have h2 := HX2.out
  have h3 := HX3.out
  exact ⟨y3, t3, rfl, by omega, by omega, by omega, HR3.out⟩
set_option maxRecDepth 20000 in
theorem MedAdj9 (n blk off cap a sb : Nat) (s : Int) (d : Array Int) (w : World) (hn : d.size = n) (hH : Holds eD w blk off d) (ha : 1 ≤ a) (hb : a + 1 < n) (hsz : n ≤ 1000000) (hS : Ct9 w sb s) (hs : 0 ≤ s ∧ s ≤ 900) (hne : sb ≠ blk) :
    Calls Tryz.prog 252 #[.slice (some ⟨blk, off, none⟩) n cap, .int .i64 a, .pointer (some ⟨sb, 0, none⟩)] w fun e w' =>
      ∃ x : Nat, ∃ t : Int, e = .returned (.int .i64 x) ∧ (a ≤ x + 1 ∧ x ≤ a + 1) ∧ s ≤ t ∧ t ≤ s + 3 ∧ Rs9 w sb t w' := by
  obtain ⟨k, rfl⟩ : ∃ k, a = k + 1 := ⟨a - 1, by omega⟩
  have HH := Lib.hid hH
  have HS := Lib.hid hS
  clear hH hS
  go_enter Tryz.func252, Tryz.ntmps252
  go_wp2_with fail
  refine (Median9 n blk off cap k (k + 1) (k + 1 + 1) sb s d w hn HH.out (by omega) (by omega) (by omega) hsz HS.out hs hne).mono ?_
  rintro e w1 ⟨x1, t1, rfl, hxy, ht1, ht2, hr1⟩
  have HR1 := Lib.hid hr1
  clear hr1
  go_wp2_with fail
  go_ret
  exact ⟨x1, t1, rfl, by omega, by omega, by omega, HR1.out⟩
end Go.Proofs.YtpbfipeinblfgaaGreatDoor
namespace Go.Proofs.YtpbfipeinblfgaaGreatDoor
open Go.RowKit
open Go.Sort (putRow Holds swp ltInt holds_putRow holds_ahead putRow_self putRow_ahead ahead_ahead cell?_putRow cell?_putRow_other frozen?_putRow grow)

theorem Rs9.grown {w w' : World} {o : Obj} {t : Int} (h : Rs9 (w.alloc o) w.heap.size t w') : ∃ n os, w' = grow (Go.Sort.ahead w n) os := by
  obtain ⟨n, rfl⟩ := h
  rw [Go.Sort.alloc_eq_grow, Go.Sort.ahead_grow]
  obtain ⟨os', _, e⟩ := Go.Sort.putRow_grow_new (Value.int .i64) (Go.Sort.ahead w n) #[o] w.heap.size 0 #[t] (Nat.le_refl _)
  exact ⟨n, os', e⟩
theorem ct9_new (w : World) (s : Int) : Ct9 (w.alloc (.cells #[.int .i64 s] 3)) w.heap.size s := fun j hj => by
  have hb := Blk.new w 3 #[.int .i64 s]
  have : j = 0 := by simpa using hj
  subst this
  exact ⟨by rw [hb.cell]; rfl, hb.frozen _⟩
theorem row9_alloc {w : World} {blk off : Nat} {d : Array Int} (h : Holds eD w blk off d) (hb : blk < w.heap.size) (o : Obj) : Holds eD (w.alloc o) blk off d := by
  rw [Go.Sort.alloc_eq_grow]
  exact Go.Sort.holds_grow _ _ _ _ _ _ hb h

set_option maxRecDepth 20000 in
set_option maxHeartbeats 4000000 in
theorem Pivot9 (n blk off cap a b : Nat) (d : Array Int) (w : World) (hn : d.size = n) (hH : Holds eD w blk off d) (hblk : blk < w.heap.size) (hab : a + 12 < b) (hb : b ≤ n) (hsz : n ≤ 1000000) :
    Calls Tryz.prog 238 #[.slice (some ⟨blk, off, none⟩) n cap, .int .i64 a, .int .i64 b] w fun e w' =>
      ∃ p : Nat, ∃ h : Int, e = .returned (.tuple #[.int .i64 p, .int .i64 h]) ∧ a ≤ p ∧ p < b ∧ ∃ q os, w' = grow (Go.Sort.ahead w q) os := by
  obtain ⟨L, hL⟩ : ∃ L : Nat, L = b - a := ⟨_, rfl⟩
  obtain ⟨m, hm⟩ : ∃ m : Nat, m = L / 4 := ⟨_, rfl⟩
  obtain ⟨i, hi⟩ : ∃ i : Nat, i = a + m := ⟨_, rfl⟩
  obtain ⟨j, hj⟩ : ∃ j : Nat, j = a + m * 2 := ⟨_, rfl⟩
  obtain ⟨k, hk⟩ : ∃ k : Nat, k = a + m * 3 := ⟨_, rfl⟩
  have w1 : IntKind.i64.wrap ((b : Int) - (a : Int)) = (L : Int) := by rw [IntKind.wrap_i64]; omega
  have E2 := Lib.hid (show (L : Int) / 4 = (m : Int) by omega)
  have E3 := Lib.hid (show (a : Int) + (m : Int) = (i : Int) by omega)
  have E4 := Lib.hid (show (a : Int) + (m : Int) * 2 = (j : Int) by omega)
  have E5 := Lib.hid (show (a : Int) + (m : Int) * 3 = (k : Int) by omega)
  have hL8 : ¬ (L : Int) < 8 := by omega
  have hin : i < n ∧ 1 ≤ i ∧ i + 1 < n := by omega
  have hjn : j < n ∧ 1 ≤ j ∧ j + 1 < n := by omega
  have hkn : k < n ∧ 1 ≤ k ∧ k + 1 < n := by omega
  have hp1 : a ≤ i ∧ i < b ∧ a ≤ j ∧ j < b ∧ a ≤ k ∧ k < b := by omega
  have hp2 : 50 ≤ L → a + 1 ≤ i ∧ i + 1 < b ∧ a + 1 ≤ j ∧ j + 1 < b ∧ a + 1 ≤ k ∧ k + 1 < b := by omega
  have HP1 := Lib.hid hp1
  have HP2 := Lib.hid hp2
  have HH := Lib.hid (row9_alloc hH hblk (.cells #[.int .i64 0] 3))
  have HS := Lib.hid (ct9_new w 0)
  have hne : w.heap.size ≠ blk := by omega
  have hL9 : L ≤ 1000000 := by omega
  have hm9 : m ≤ 1000000 := by omega
  clear hL hm hi hj hk hp1 hp2 hH hblk
  go_enter Tryz.func238, Tryz.ntmps238
  go_wp2_with fail
  all_goals rw [E2.out, E3.out, E4.out, E5.out]
  all_goals clear w1
  · have hL50 : 50 ≤ L := by omega
    have hp2 := HP2.out hL50
    have HP3 := Lib.hid hp2
    clear hp2 HP2 HP1
    refine (MedAdj9 n blk off cap i w.heap.size 0 d _ hn HH.out hin.2.1 hin.2.2 hsz HS.out (by omega) hne).mono ?_
    rintro e w1 ⟨x1, t1, rfl, hx1, ht1, ht1', hr1⟩
    have HR1 := Lib.hid hr1
    clear hr1
    go_wp2_with fail
    refine (MedAdj9 n blk off cap j w.heap.size t1 d _ hn (HR1.out.row HH.out hne) hjn.2.1 hjn.2.2 hsz (HR1.out.count HS.out) (by omega) hne).mono ?_
    rintro e w2 ⟨x2, t2, rfl, hx2, ht2, ht2', hr2⟩
    have HR2 := Lib.hid (HR1.out.trans hr2)
    clear hr2
    go_wp2_with fail
    refine (MedAdj9 n blk off cap k w.heap.size t2 d _ hn (HR2.out.row HH.out hne) hkn.2.1 hkn.2.2 hsz (HR2.out.count HS.out) (by omega) hne).mono ?_
    rintro e w3 ⟨x3, t3, rfl, hx3, ht3, ht3', hr3⟩
    have HR3 := Lib.hid (HR2.out.trans hr3)
    clear hr3
    go_wp2_with fail
    refine (Median9 n blk off cap x1 x2 x3 w.heap.size t3 d _ hn (HR3.out.row HH.out hne) (by omega) (by omega) (by omega) hsz (HR3.out.count HS.out) (by omega) hne).mono ?_
    rintro e w4 ⟨x4, t4, rfl, hx4, ht4, ht4', hr4⟩
    have HR4 := Lib.hid (HR3.out.trans hr4)
    have hc4 := (HR4.out.count HS.out).cell.1
    have hx5 : a ≤ x4 ∧ x4 < b := by have := HP3.out; omega
    clear hr4 hx4 hx3 hx2 hx1
    go_wp2
    all_goals (go_ret2; exact ⟨x4, _, rfl, hx5.1, hx5.2, HR4.out.grown⟩)
  · clear HP2
    refine (Median9 n blk off cap i j k w.heap.size 0 d _ hn HH.out hin.1 hjn.1 hkn.1 hsz HS.out (by omega) hne).mono ?_
    rintro e w4 ⟨x4, t4, rfl, hx4, ht4, ht4', hr4⟩
    have HR4 := Lib.hid hr4
    have hc4 := (HR4.out.count HS.out).cell.1
    have hx5 : a ≤ x4 ∧ x4 < b := by have := HP1.out; omega
    clear hr4 hx4
    go_wp2
    all_goals (go_ret2; exact ⟨x4, _, rfl, hx5.1, hx5.2, HR4.out.grown⟩)
end Go.Proofs.YtpbfipeinblfgaaGreatDoor
