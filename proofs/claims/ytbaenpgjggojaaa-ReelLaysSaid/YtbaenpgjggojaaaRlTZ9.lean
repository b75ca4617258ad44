/-
slices.Chunk's iterator at parts of 254 bytes. Conditions: its two boxes are kept by the rounds.
-/
import Derived.RangeFuncNested
import Derived.RangeFuncBound
import Derived.RangeFuncCalls
import Derived.RangeFuncLeaves
import Derived.Shelf.Abstract
import Derived.Shelf.RegionOpen
import Derived.WalkKit
import Derived.OwnWalkIn
import Derived.TacticsInMore
import Derived.LoopNIn
import Derived.LoopIn
import Derived.Test.YtbaenpgjggojaaaMemZ9
namespace Go.Proofs.Ytbaenpgjggojaaa
open Go.RowKit Go.Shelf
attribute [local go_sem] Oper.semAt_some

/-- What a round keeps: all below a place but some blocks. -/
def KeepN (n₀ : Nat) (av : Nat → Prop) (A B : World) : Prop := A.heap.size ≤ B.heap.size ∧ ∀ i, i < n₀ → ¬ av i → B.heap[i]? = A.heap[i]?
theorem KeepN.refl (n₀ : Nat) (av : Nat → Prop) (A : World) : KeepN n₀ av A A := ⟨Nat.le_refl _, fun _ _ _ => rfl⟩
theorem KeepN.trans {n₀ : Nat} {av : Nat → Prop} {A B C : World} (h : KeepN n₀ av A B) (k : KeepN n₀ av B C) : KeepN n₀ av A C :=
  ⟨Nat.le_trans h.1 k.1, fun i hi ha => (k.2 i hi ha).trans (h.2 i hi ha)⟩
theorem KeepN.cell {n₀ : Nat} {av : Nat → Prop} {A B : World} (h : KeepN n₀ av A B) {p : Addr} (hp : p.block < n₀) (ha : ¬ av p.block) : B.cell? p = A.cell? p := World.cell?_of_block (h.2 p.block hp ha)
theorem below_keepN {n₀ : Nat} {av : Nat → Prop} {A B : World} (h : Below n₀ A B) : KeepN n₀ av A B := ⟨h.size, fun i hi _ => h.block i hi⟩
def partV (b m x : Nat) : Array Value := #[.slice (some ⟨b, 254 * x, none⟩) (min 254 (m - 254 * x)) (min 254 (m - 254 * x))]
set_option maxRecDepth 100000 in
set_option maxHeartbeats 2000000 in
theorem chunk1_in (n l Bs Bn n₀ b m K : Nat) (av : Nat → Prop) (hn : 1 ≤ n) (J Jx : List Nat → World → Prop)
    (hY : ∀ pre x W, J pre W → pre.length < K → YieldAt Fence.wide (n - 1) Try.prog l (partV b m x) W fun e W' =>
      (e = .returned (.bool true) ∧ J (pre ++ [x]) W' ∧ KeepN n₀ av W W') ∨ (e = .returned (.bool false) ∧ Jx (pre ++ [x]) W'))
    (W : World) (hBs : W.cell? ⟨Bs, 0, none⟩ = some (.slice (some ⟨b, 0, none⟩) m m)) (hBn : W.cell? ⟨Bn, 0, none⟩ = some (.int .i64 254)) (hs : Bs < n₀ ∧ ¬ av Bs) (hb : Bn < n₀ ∧ ¬ av Bn)
    (hJd : ∀ s A, J s A → J s A.drew) (hK1 : 254 * K < m + 254) (hK2 : m ≤ 254 * K) (hm : m ≤ 1000000) (h0 : J [] W) :
    CallsIn Fence.wide n Try.prog 61 #[.func (.yield l) #[] #[], .pointer (some ⟨Bs, 0, none⟩), .pointer (some ⟨Bn, 0, none⟩)] W fun e W' => (∃ v, e = .returned v) ∧
      ((∃ ys, ys = List.range K ∧ J ys W') ∨ (∃ pre, True ∧ Jx pre W')) := by
  refine callsIn_of_wp Try.func61 rfl trivial ?_ rfl
  simp only [Try.ntmps61, List.size_toArray, List.length_cons, List.length_nil, Nat.reduceAdd, Nat.reduceSub, Array.replicate_succ, Array.replicate_zero, List.push_toArray, List.append_toArray, List.nil_append, List.cons_append]
  gi_wp2
  gi_loopw [4, 5] (fun i _ wr => ∃ k : Nat, k ≤ K ∧ i = .int .i64 ((254 * k : Nat) : Int) ∧ J (List.range k) wr ∧ KeepN n₀ av W wr)
    (fun i _ _ => 254 * K - (intOf i).toNat)
  case atStart => exact ⟨0, Nat.zero_le _, rfl, h0, KeepN.refl _ _ _⟩
  case round =>
    obtain ⟨k, hk, rfl, hJs, hnx⟩ := hrel
    have hc1 := (hnx.cell (p := ⟨Bs, 0, none⟩) hs.1 hs.2).trans hBs
    have hc2 := (hnx.cell (p := ⟨Bn, 0, none⟩) hb.1 hb.2).trans hBn
    obtain ⟨t, ht⟩ : ∃ t, 254 * k = t := ⟨_, rfl⟩
    rw [ht]
    have htb : (t : Int) ≤ 1000254 := by omega
    have hmb : (m : Int) ≤ 1000000 := by omega
    by_cases hlt : t < m
    · have hlt2 : (t : Int) < (m : Int) := by omega
      have hkK : k < K := by omega
      obtain ⟨fn, tmps, assign, body, hy, hR⟩ := hY _ k wr.drew (hJd _ _ hJs) (by rw [List.length_range]; exact hkK)
      unfold partV at hy
      obtain ⟨L, hL⟩ : ∃ L, min 254 (m - t) = L := ⟨_, rfl⟩
      rw [ht, hL] at hy
      have hLi : (if ((m - t : Nat) : Int) < 254 then ((m - t : Nat) : Int) else 254) = (L : Int) := by split <;> omega
      have hL1 : (L : Int) ≤ 254 := by omega
      have hL2 : (t : Int) + (L : Int) ≤ (m : Int) := by omega
      have hL3 : ((t : Int) + (L : Int)).toNat = t + L := by omega
      have hL4 : t + L - t = L := by omega
      have hL5 : (t : Int) ≤ (t : Int) + (L : Int) := by omega
      have hL6 : (0 : Int) ≤ (t : Int) + (L : Int) := by omega
      have hL7 : ¬ (L = 0) := by omega
      have hL8 : t + L ≤ m := by omega
      have hdr1 : wr.drew.cell? ⟨Bs, 0, none⟩ = some (.slice (some ⟨b, 0, none⟩) m m) := hc1
      have hdr2 : wr.drew.cell? ⟨Bn, 0, none⟩ = some (.int .i64 254) := hc2
      gi_wp2
      gi_region
      gi_wp2
      refine hR.mono ?_
      rintro e W3 (⟨rfl, hJ3, hk3⟩ | ⟨rfl, hJx3⟩)
      · have hnx3 := hnx.trans (KeepN.trans (B := wr.drew) ⟨Nat.le_refl _, fun _ _ _ => rfl⟩ hk3)
        have hc3 := (hnx3.cell (p := ⟨Bn, 0, none⟩) hb.1 hb.2).trans hBn
        have ht2 : ((t : Nat) : Int) + 254 = ((254 * (k + 1) : Nat) : Int) := by omega
        gi_wp2
        go_roundw
        case rel => exact ⟨k + 1, by omega, congrArg (Value.int .i64) (by omega), by rw [List.range_succ]; exact hJ3, hnx3⟩
        case measure => simp [intOf]; omega
      · gi_wp2
        refine bodyPost_ret (results_none rfl _ _ _) rfl ?_
        exact ⟨⟨_, rfl⟩, .inr ⟨_, trivial, hJx3⟩⟩
    · obtain rfl : k = K := by omega
      have hlt2 : ¬ (t : Int) < (m : Int) := by omega
      gi_wp2
      go_end0
      exact ⟨⟨_, rfl⟩, .inl hJs⟩
/-- slices.Chunk's iterator at a slice of m bytes: K parts, in order. -/
theorem chunk_stops (n Bs Bn b m K : Nat) (av : Nat → Prop) (hn : 1 ≤ n) (w : World) (hBs : w.cell? ⟨Bs, 0, none⟩ = some (.slice (some ⟨b, 0, none⟩) m m)) (hBn : w.cell? ⟨Bn, 0, none⟩ = some (.int .i64 254))
    (hs : Bs < w.heap.size ∧ ¬ av Bs) (hb : Bn < w.heap.size ∧ ¬ av Bn) (hK1 : 254 * K < m + 254) (hK2 : m ≤ 254 * K) (hm : m ≤ 1000000) :
    SeqStopsK Fence.wide n Try.prog 61 #[.pointer (some ⟨Bs, 0, none⟩), .pointer (some ⟨Bn, 0, none⟩)] (partV b m) (KeepN w.heap.size av) (fun xs => xs = List.range K) (fun _ => True) K w := fun l J Jx W hW hJ _ hY h0 =>
  chunk1_in n l Bs Bn w.heap.size b m K av hn J Jx hY W ((hW.cell (p := ⟨Bs, 0, none⟩) hs.1).trans hBs) ((hW.cell (p := ⟨Bn, 0, none⟩) hb.1).trans hBn) hs hb
    (fun s A h => hJ s A A.drew none h (grown_drew (grown_refl A none)) (fun r e => by cases e)) hK1 hK2 hm h0
set_option maxHeartbeats 1000000 in
/-- slices.Chunk at a slice of m bytes and 254. -/
theorem Chunk_any (A : Option Addr) (m c : Nat) (w : World) :
    Calls Try.prog 39 #[.slice A m c, .int .i64 254] w fun e w' => e = .returned (.func (.func 61) #[] #[.pointer (some ⟨w.heap.size, 0, none⟩), .pointer (some ⟨w.heap.size + 1, 0, none⟩)]) ∧
      w' = (w.alloc (.cells #[.slice A m c] 35)).alloc (.cells #[.int .i64 254] 3) := by
  go_enter Try.func39, Try.ntmps39
  go_wp2
  go_ret
  exact ⟨rfl, rfl⟩
end Go.Proofs.Ytbaenpgjggojaaa
