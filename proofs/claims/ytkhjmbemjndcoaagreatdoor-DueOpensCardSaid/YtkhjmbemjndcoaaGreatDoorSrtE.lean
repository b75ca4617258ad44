/-
  The library's sort over days, VI: the choice of the pivot. Conditions: the row lies there, and is not short.
-/
import Derived.Test.YtkhjmbemjndcoaaGreatDoorSrtD
import Derived.IntWalk
namespace Go.Proofs.YtkhjmbemjndcoaaGreatDoor
open Go.RowKit
open Go.Sort (putRow Holds swp ltInt holds_putRow holds_ahead putRow_self putRow_ahead ahead_ahead cell?_putRow cell?_putRow_other frozen?_putRow grow)

theorem Rs9.grown {w w' : World} {o : Obj} {t : Int} (h : Rs9 (w.alloc o) w.heap.size t w') : ∃ n os, w' = grow (Go.Sort.ahead w n) os := by
  obtain ⟨n, rfl⟩ := h
  rw [Go.Sort.alloc_eq_grow, Go.Sort.ahead_grow]
  obtain ⟨os', _, e⟩ := Go.Sort.putRow_grow_new (Value.int .i64) (Go.Sort.ahead w n) #[o] w.heap.size 0 #[t] (Nat.le_refl _)
  exact ⟨n, os', e⟩
theorem ct9_new (w : World) (s : Int) : Ct9 (w.alloc (.cells #[.int .i64 s] 3)) w.heap.size s := fun j hj => by
  have hb := Blk.new w 3 #[.int .i64 s]
  have : j = 0 := by simpa using hj
  subst this
  exact ⟨by rw [hb.cell]; rfl, hb.frozen _⟩
theorem row9_alloc {w : World} {blk off : Nat} {d : Array Int} (h : Holds eD w blk off d) (hb : blk < w.heap.size) (o : Obj) : Holds eD (w.alloc o) blk off d := by
  rw [Go.Sort.alloc_eq_grow]
  exact Go.Sort.holds_grow _ _ _ _ _ _ hb h

set_option maxRecDepth 20000 in
set_option maxHeartbeats 4000000 in
theorem Pivot9 (n blk off cap a b : Nat) (d : Array Int) (w : World) (hn : d.size = n) (hH : Holds eD w blk off d) (hblk : blk < w.heap.size) (hab : a + 12 < b) (hb : b ≤ n) (hsz : n ≤ 1000000) :
    Calls Tryz.prog 66 #[.slice (some ⟨blk, off, none⟩) n cap, .int .i64 a, .int .i64 b] w fun e w' =>
      ∃ p : Nat, ∃ h : Int, e = .returned (.tuple #[.int .i64 p, .int .i64 h]) ∧ a ≤ p ∧ p < b ∧ ∃ q os, w' = grow (Go.Sort.ahead w q) os := by
  obtain ⟨L, hL⟩ : ∃ L : Nat, L = b - a := ⟨_, rfl⟩
  obtain ⟨m, hm⟩ : ∃ m : Nat, m = L / 4 := ⟨_, rfl⟩
  obtain ⟨i, hi⟩ : ∃ i : Nat, i = a + m := ⟨_, rfl⟩
  obtain ⟨j, hj⟩ : ∃ j : Nat, j = a + m * 2 := ⟨_, rfl⟩
  obtain ⟨k, hk⟩ : ∃ k : Nat, k = a + m * 3 := ⟨_, rfl⟩
  have w1 : IntKind.i64.wrap ((b : Int) - (a : Int)) = (L : Int) := by rw [IntKind.wrap_i64]; omega
  have E2 := Lib.hid (show (L : Int) / 4 = (m : Int) by omega)
  have E3 := Lib.hid (show (a : Int) + (m : Int) = (i : Int) by omega)
  have E4 := Lib.hid (show (a : Int) + (m : Int) * 2 = (j : Int) by omega)
  have E5 := Lib.hid (show (a : Int) + (m : Int) * 3 = (k : Int) by omega)
  have hL8 : ¬ (L : Int) < 8 := by omega
  have hin : i < n ∧ 1 ≤ i ∧ i + 1 < n := by omega
  have hjn : j < n ∧ 1 ≤ j ∧ j + 1 < n := by omega
  have hkn : k < n ∧ 1 ≤ k ∧ k + 1 < n := by omega
  have hp1 : a ≤ i ∧ i < b ∧ a ≤ j ∧ j < b ∧ a ≤ k ∧ k < b := by omega
  have hp2 : 50 ≤ L → a + 1 ≤ i ∧ i + 1 < b ∧ a + 1 ≤ j ∧ j + 1 < b ∧ a + 1 ≤ k ∧ k + 1 < b := by omega
  have HP1 := Lib.hid hp1
  have HP2 := Lib.hid hp2
  have HH := Lib.hid (row9_alloc hH hblk (.cells #[.int .i64 0] 3))
  have HS := Lib.hid (ct9_new w 0)
  have hne : w.heap.size ≠ blk := by omega
  have hL9 : L ≤ 1000000 := by omega
  have hm9 : m ≤ 1000000 := by omega
  clear hL hm hi hj hk hp1 hp2 hH hblk
  go_enter Tryz.func66, Tryz.ntmps66
  go_wp2_with fail
  all_goals rw [E2.out, E3.out, E4.out, E5.out]
  all_goals clear w1
  · have hL50 : 50 ≤ L := by omega
    have hp2 := HP2.out hL50
    have HP3 := Lib.hid hp2
    clear hp2 HP2 HP1
    refine (MedAdj9 n blk off cap i w.heap.size 0 d _ hn HH.out hin.2.1 hin.2.2 hsz HS.out (by omega) hne).mono ?_
    rintro e w1 ⟨x1, t1, rfl, hx1, ht1, ht1', hr1⟩
    have HR1 := Lib.hid hr1
    clear hr1
    go_wp2_with fail
    refine (MedAdj9 n blk off cap j w.heap.size t1 d _ hn (HR1.out.row HH.out hne) hjn.2.1 hjn.2.2 hsz (HR1.out.count HS.out) (by omega) hne).mono ?_
    rintro e w2 ⟨x2, t2, rfl, hx2, ht2, ht2', hr2⟩
    have HR2 := Lib.hid (HR1.out.trans hr2)
    clear hr2
    go_wp2_with fail
    refine (MedAdj9 n blk off cap k w.heap.size t2 d _ hn (HR2.out.row HH.out hne) hkn.2.1 hkn.2.2 hsz (HR2.out.count HS.out) (by omega) hne).mono ?_
    rintro e w3 ⟨x3, t3, rfl, hx3, ht3, ht3', hr3⟩
    have HR3 := Lib.hid (HR2.out.trans hr3)
    clear hr3
    go_wp2_with fail
    refine (Median9 n blk off cap x1 x2 x3 w.heap.size t3 d _ hn (HR3.out.row HH.out hne) (by omega) (by omega) (by omega) hsz (HR3.out.count HS.out) (by omega) hne).mono ?_
    rintro e w4 ⟨x4, t4, rfl, hx4, ht4, ht4', hr4⟩
    have HR4 := Lib.hid (HR3.out.trans hr4)
    have hc4 := (HR4.out.count HS.out).cell.1
    have hx5 : a ≤ x4 ∧ x4 < b := by have := HP3.out; omega
    clear hr4 hx4 hx3 hx2 hx1
    go_wp2
    all_goals (go_ret2; exact ⟨x4, _, rfl, hx5.1, hx5.2, HR4.out.grown⟩)
  · clear HP2
    refine (Median9 n blk off cap i j k w.heap.size 0 d _ hn HH.out hin.1 hjn.1 hkn.1 hsz HS.out (by omega) hne).mono ?_
    rintro e w4 ⟨x4, t4, rfl, hx4, ht4, ht4', hr4⟩
    have HR4 := Lib.hid hr4
    have hc4 := (HR4.out.count HS.out).cell.1
    have hx5 : a ≤ x4 ∧ x4 < b := by have := HP1.out; omega
    clear hr4 hx4
    go_wp2
    all_goals (go_ret2; exact ⟨x4, _, rfl, hx5.1, hx5.2, HR4.out.grown⟩)
end Go.Proofs.YtkhjmbemjndcoaaGreatDoor
