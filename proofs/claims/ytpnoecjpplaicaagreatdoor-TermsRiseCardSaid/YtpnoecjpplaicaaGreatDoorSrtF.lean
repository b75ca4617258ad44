/-
The library's sort over days, V: which element parts the row. Conditions: the row lies there.
The library's sort over days, VI: the choice of the pivot. Conditions: the row lies there, and is not short.
The library's sort over days, VII: how long a number is, numbers by chance, a row that is mixed. Conditions: the row lies there, and is not short.
-/
import Derived.Test.YtpnoecjpplaicaaGreatDoorSrtH
import Derived.Sort.Grow
import Derived.IntWalk
import Derived.Test.YtpnoecjpplaicaaGreatDoorCRdN
import Derived.Sort.Walk13a
import Derived.Laws.Bits64b
import Derived.Laws.BitsAllLaws
namespace Go.Proofs.YtpnoecjpplaicaaGreatDoor
open Go.RowKit
open Go.Sort (putRow Holds swp ltInt holds_putRow holds_ahead putRow_self putRow_ahead ahead_ahead cell?_putRow cell?_putRow_other frozen?_putRow grow)

/-- A counter's box, n draws on. -/
def Rs9 (w : World) (sb : Nat) (s : Int) (w' : World) : Prop := ∃ n, w' = putRow (Value.int .i64) (Go.Sort.ahead w n) sb 0 #[s]
abbrev Ct9 (w : World) (sb : Nat) (s : Int) : Prop := Holds (Value.int .i64) w sb 0 #[s]
theorem Ct9.cell {w : World} {sb : Nat} {s : Int} (h : Ct9 w sb s) : w.cell? ⟨sb, 0, none⟩ = some (.int .i64 s) ∧ w.frozen? ⟨sb, 0, none⟩ = false := by simpa using h 0 (by simp)
theorem Rs9.count {w w' : World} {sb : Nat} {s s' : Int} (h : Ct9 w sb s) (hr : Rs9 w sb s' w') : Ct9 w' sb s' := by
  obtain ⟨n, rfl⟩ := hr
  exact holds_putRow _ _ _ _ #[s] #[s'] (holds_ahead _ _ _ _ _ _ h) rfl
theorem Rs9.row {w w' : World} {sb blk off : Nat} {s' : Int} {d : Array Int} (h : Holds eD w blk off d) (hr : Rs9 w sb s' w') (hne : sb ≠ blk) : Holds eD w' blk off d := by
  obtain ⟨n, rfl⟩ := hr
  exact fun j hj => ⟨by rw [cell?_putRow_other _ _ _ _ _ _ (.inl (Ne.symm hne))]; exact (h j hj).1, by rw [frozen?_putRow]; exact (h j hj).2⟩
theorem Rs9.trans {w w' w'' : World} {sb : Nat} {s s' : Int} (h : Rs9 w sb s w') (h' : Rs9 w' sb s' w'') : Rs9 w sb s' w'' := by
  obtain ⟨n, rfl⟩ := h
  obtain ⟨m, rfl⟩ := h'
  exact ⟨n + m, Go.Sort.putRow_ahead_putRow _ _ _ _ _ _ _ _ rfl⟩
theorem Rs9.same {w : World} {sb : Nat} {s : Int} (h : Ct9 w sb s) (q : Nat) : Rs9 w sb s (w.drewN q) := ⟨q, by rw [putRow_self _ _ _ _ _ (holds_ahead _ _ _ _ _ _ h)]; rfl⟩
theorem Rs9.set_ {w : World} {sb : Nat} {s : Int} (h : Ct9 w sb s) (q : Nat) (t : Int) : Rs9 w sb t ((w.drewN q).setCell ⟨sb, 0, none⟩ (.int .i64 t)) := ⟨q, by
  have e := Go.Sort.putRow_set (Value.int .i64) (w.drewN q) sb 0 #[s] 0 t (by simp)
  rw [putRow_self _ _ _ _ _ (show Holds (Value.int .i64) (w.drewN q) sb 0 #[s] from h)] at e
  exact e⟩

set_option maxRecDepth 20000 in
theorem Order9 (n blk off cap a b sb : Nat) (s : Int) (d : Array Int) (w : World) (hn : d.size = n) (hH : Holds eD w blk off d) (ha : a < n) (hb : b < n) (hsz : n ≤ 1000000) (hS : Ct9 w sb s) (hs : 0 ≤ s ∧ s ≤ 1000) :
    Calls Tryz.prog 218 #[.slice (some ⟨blk, off, none⟩) n cap, .int .i64 a, .int .i64 b, .pointer (some ⟨sb, 0, none⟩)] w fun e w' =>
      ∃ x y : Nat, ∃ t : Int, e = .returned (.tuple #[.int .i64 x, .int .i64 y]) ∧ (x = a ∧ y = b ∨ x = b ∧ y = a) ∧ s ≤ t ∧ t ≤ s + 1 ∧ Rs9 w sb t w' := by
  obtain ⟨c0, f0⟩ := hS.cell
  obtain ⟨G, hG, hc, hf⟩ := (Rw9.refl hH).fam hH rfl
  rw [hn] at hc hf
  have HS := Lib.hid hS
  clear hG hH hS
  go_enter Tryz.func218, Tryz.ntmps218
  go_wp2
  go_quiet (first | (go_at_call 181; refine Calls.quiet_of_same (Less9 _ _ _)))
  go_wp2
  · go_ret2
    exact ⟨b, a, s + 1, rfl, .inr ⟨rfl, rfl⟩, by omega, by omega, Rs9.set_ HS.out _ _⟩
  · go_ret2
    exact ⟨a, b, s, rfl, .inl ⟨rfl, rfl⟩, by omega, by omega, Rs9.same HS.out _⟩
set_option maxRecDepth 20000 in
theorem Median9 (n blk off cap a b c sb : Nat) (s : Int) (d : Array Int) (w : World) (hn : d.size = n) (hH : Holds eD w blk off d) (ha : a < n) (hb : b < n) (hcc : c < n) (hsz : n ≤ 1000000) (hS : Ct9 w sb s) (hs : 0 ≤ s ∧ s ≤ 900) (hne : sb ≠ blk) :
    Calls Tryz.prog 216 #[.slice (some ⟨blk, off, none⟩) n cap, .int .i64 a, .int .i64 b, .int .i64 c, .pointer (some ⟨sb, 0, none⟩)] w fun e w' =>
      ∃ x : Nat, ∃ t : Int, e = .returned (.int .i64 x) ∧ (x = a ∨ x = b ∨ x = c) ∧ s ≤ t ∧ t ≤ s + 3 ∧ Rs9 w sb t w' := by
  have HH := Lib.hid hH
  have HS := Lib.hid hS
  clear hH hS
  go_enter Tryz.func216, Tryz.ntmps216
  go_wp2_with fail
  refine (Order9 n blk off cap a b sb s d w hn HH.out ha hb hsz HS.out (by omega)).mono ?_
  rintro e w1 ⟨x1, y1, t1, rfl, hxy, ht1, ht2, hr1⟩
  have HR1 := Lib.hid hr1
  have hx1 : x1 < n := by omega
  have hy1 : y1 < n := by omega
  have HX1 := Lib.hid hxy
  clear hr1 hxy
  go_wp2_with fail
  refine (Order9 n blk off cap y1 c sb t1 d w1 hn (HR1.out.row HH.out hne) hy1 hcc hsz (HR1.out.count HS.out) (by omega)).mono ?_
  rintro e w2 ⟨x2, y2, t2, rfl, hxy, ht3, ht4, hr2⟩
  have HR2 := Lib.hid (HR1.out.trans hr2)
  have hx2 : x2 < n := by omega
  have HX2 := Lib.hid hxy
  clear hr2 hxy
  go_wp2_with fail
  refine (Order9 n blk off cap x1 x2 sb t2 d w2 hn (HR2.out.row HH.out hne) hx1 hx2 hsz (HR2.out.count HS.out) (by omega)).mono ?_
  rintro e w3 ⟨x3, y3, t3, rfl, hxy, ht5, ht6, hr3⟩
  have HR3 := Lib.hid (HR2.out.trans hr3)
  have HX3 := Lib.hid hxy
  clear hr3 hxy
  go_wp2_with fail
  go_ret
  have h1 := HX1.out
  have h2 := HX2.out
  have h3 := HX3.out
  exact ⟨y3, t3, rfl, by omega, by omega, by omega, HR3.out⟩
set_option maxRecDepth 20000 in
theorem MedAdj9 (n blk off cap a sb : Nat) (s : Int) (d : Array Int) (w : World) (hn : d.size = n) (hH : Holds eD w blk off d) (ha : 1 ≤ a) (hb : a + 1 < n) (hsz : n ≤ 1000000) (hS : Ct9 w sb s) (hs : 0 ≤ s ∧ s ≤ 900) (hne : sb ≠ blk) :
    Calls Tryz.prog 215 #[.slice (some ⟨blk, off, none⟩) n cap, .int .i64 a, .pointer (some ⟨sb, 0, none⟩)] w fun e w' =>
      ∃ x : Nat, ∃ t : Int, e = .returned (.int .i64 x) ∧ (a ≤ x + 1 ∧ x ≤ a + 1) ∧ s ≤ t ∧ t ≤ s + 3 ∧ Rs9 w sb t w' := by
  obtain ⟨k, rfl⟩ : ∃ k, a = k + 1 := ⟨a - 1, by omega⟩
  have HH := Lib.hid hH
  have HS := Lib.hid hS
  clear hH hS
  go_enter Tryz.func215, Tryz.ntmps215
  go_wp2_with fail
  refine (Median9 n blk off cap k (k + 1) (k + 1 + 1) sb s d w hn HH.out (by omega) (by omega) (by omega) hsz HS.out hs hne).mono ?_
  rintro e w1 ⟨x1, t1, rfl, hxy, ht1, ht2, hr1⟩
  have HR1 := Lib.hid hr1
  clear hr1
  go_wp2_with fail
  go_ret
  exact ⟨x1, t1, rfl, by omega, by omega, by omega, HR1.out⟩
end Go.Proofs.YtpnoecjpplaicaaGreatDoor
namespace Go.Proofs.YtpnoecjpplaicaaGreatDoor
open Go.RowKit
open Go.Sort (putRow Holds swp ltInt holds_putRow holds_ahead putRow_self putRow_ahead ahead_ahead cell?_putRow cell?_putRow_other frozen?_putRow grow)

theorem Rs9.grown {w w' : World} {o : Obj} {t : Int} (h : Rs9 (w.alloc o) w.heap.size t w') : ∃ n os, w' = grow (Go.Sort.ahead w n) os := by
  obtain ⟨n, rfl⟩ := h
  rw [Go.Sort.alloc_eq_grow, Go.Sort.ahead_grow]
  obtain ⟨os', _, e⟩ := Go.Sort.putRow_grow_new (Value.int .i64) (Go.Sort.ahead w n) #[o] w.heap.size 0 #[t] (Nat.le_refl _)
  exact ⟨n, os', e⟩
theorem ct9_new (w : World) (s : Int) : Ct9 (w.alloc (.cells #[.int .i64 s] 3)) w.heap.size s := fun j hj => by
  have hb := Blk.new w 3 #[.int .i64 s]
  have : j = 0 := by simpa using hj
  subst this
  exact ⟨by rw [hb.cell]; rfl, hb.frozen _⟩
theorem row9_alloc {w : World} {blk off : Nat} {d : Array Int} (h : Holds eD w blk off d) (hb : blk < w.heap.size) (o : Obj) : Holds eD (w.alloc o) blk off d := by
  rw [Go.Sort.alloc_eq_grow]
  exact Go.Sort.holds_grow _ _ _ _ _ _ hb h

set_option maxRecDepth 20000 in
set_option maxHeartbeats 4000000 in
theorem Pivot9 (n blk off cap a b : Nat) (d : Array Int) (w : World) (hn : d.size = n) (hH : Holds eD w blk off d) (hblk : blk < w.heap.size) (hab : a + 12 < b) (hb : b ≤ n) (hsz : n ≤ 1000000) :
    Calls Tryz.prog 200 #[.slice (some ⟨blk, off, none⟩) n cap, .int .i64 a, .int .i64 b] w fun e w' =>
      ∃ p : Nat, ∃ h : Int, e = .returned (.tuple #[.int .i64 p, .int .i64 h]) ∧ a ≤ p ∧ p < b ∧ ∃ q os, w' = grow (Go.Sort.ahead w q) os := by
  obtain ⟨L, hL⟩ : ∃ L : Nat, L = b - a := ⟨_, rfl⟩
  obtain ⟨m, hm⟩ : ∃ m : Nat, m = L / 4 := ⟨_, rfl⟩
  obtain ⟨i, hi⟩ : ∃ i : Nat, i = a + m := ⟨_, rfl⟩
  obtain ⟨j, hj⟩ : ∃ j : Nat, j = a + m * 2 := ⟨_, rfl⟩
  obtain ⟨k, hk⟩ : ∃ k : Nat, k = a + m * 3 := ⟨_, rfl⟩
  have w1 : IntKind.i64.wrap ((b : Int) - (a : Int)) = (L : Int) := by rw [IntKind.wrap_i64]; omega
  have E2 := Lib.hid (show (L : Int) / 4 = (m : Int) by omega)
  have E3 := Lib.hid (show (a : Int) + (m : Int) = (i : Int) by omega)
  have E4 := Lib.hid (show (a : Int) + (m : Int) * 2 = (j : Int) by omega)
  have E5 := Lib.hid (show (a : Int) + (m : Int) * 3 = (k : Int) by omega)
  have hL8 : ¬ (L : Int) < 8 := by omega
  have hin : i < n ∧ 1 ≤ i ∧ i + 1 < n := by omega
  have hjn : j < n ∧ 1 ≤ j ∧ j + 1 < n := by omega
  have hkn : k < n ∧ 1 ≤ k ∧ k + 1 < n := by omega
  have hp1 : a ≤ i ∧ i < b ∧ a ≤ j ∧ j < b ∧ a ≤ k ∧ k < b := by omega
  have hp2 : 50 ≤ L → a + 1 ≤ i ∧ i + 1 < b ∧ a + 1 ≤ j ∧ j + 1 < b ∧ a + 1 ≤ k ∧ k + 1 < b := by omega
  have HP1 := Lib.hid hp1
  have HP2 := Lib.hid hp2
  have HH := Lib.hid (row9_alloc hH hblk (.cells #[.int .i64 0] 3))
  have HS := Lib.hid (ct9_new w 0)
  have hne : w.heap.size ≠ blk := by omega
  have hL9 : L ≤ 1000000 := by omega
  have hm9 : m ≤ 1000000 := by omega
  clear hL hm hi hj hk hp1 hp2 hH hblk
  go_enter Tryz.func200, Tryz.ntmps200
  go_wp2_with fail
  all_goals rw [E2.out, E3.out, E4.out, E5.out]
  all_goals clear w1
  · have hL50 : 50 ≤ L := by omega
    have hp2 := HP2.out hL50
    have HP3 := Lib.hid hp2
    clear hp2 HP2 HP1
    refine (MedAdj9 n blk off cap i w.heap.size 0 d _ hn HH.out hin.2.1 hin.2.2 hsz HS.out (by omega) hne).mono ?_
    rintro e w1 ⟨x1, t1, rfl, hx1, ht1, ht1', hr1⟩
    have HR1 := Lib.hid hr1
    clear hr1
    go_wp2_with fail
    refine (MedAdj9 n blk off cap j w.heap.size t1 d _ hn (HR1.out.row HH.out hne) hjn.2.1 hjn.2.2 hsz (HR1.out.count HS.out) (by omega) hne).mono ?_
    rintro e w2 ⟨x2, t2, rfl, hx2, ht2, ht2', hr2⟩
    have HR2 := Lib.hid (HR1.out.trans hr2)
    clear hr2
    go_wp2_with fail
    refine (MedAdj9 n blk off cap k w.heap.size t2 d _ hn (HR2.out.row HH.out hne) hkn.2.1 hkn.2.2 hsz (HR2.out.count HS.out) (by omega) hne).mono ?_
    rintro e w3 ⟨x3, t3, rfl, hx3, ht3, ht3', hr3⟩
    have HR3 := Lib.hid (HR2.out.trans hr3)
    clear hr3
    go_wp2_with fail
    refine (Median9 n blk off cap x1 x2 x3 w.heap.size t3 d _ hn (HR3.out.row HH.out hne) (by omega) (by omega) (by omega) hsz (HR3.out.count HS.out) (by omega) hne).mono ?_
    rintro e w4 ⟨x4, t4, rfl, hx4, ht4, ht4', hr4⟩
    have HR4 := Lib.hid (HR3.out.trans hr4)
    have hc4 := (HR4.out.count HS.out).cell.1
    have hx5 : a ≤ x4 ∧ x4 < b := by have := HP3.out; omega
    clear hr4 hx4 hx3 hx2 hx1
    go_wp2
    all_goals (go_ret2; exact ⟨x4, _, rfl, hx5.1, hx5.2, HR4.out.grown⟩)
  · clear HP2
    refine (Median9 n blk off cap i j k w.heap.size 0 d _ hn HH.out hin.1 hjn.1 hkn.1 hsz HS.out (by omega) hne).mono ?_
    rintro e w4 ⟨x4, t4, rfl, hx4, ht4, ht4', hr4⟩
    have HR4 := Lib.hid hr4
    have hc4 := (HR4.out.count HS.out).cell.1
    have hx5 : a ≤ x4 ∧ x4 < b := by have := HP1.out; omega
    clear hr4 hx4
    go_wp2
    all_goals (go_ret2; exact ⟨x4, _, rfl, hx5.1, hx5.2, HR4.out.grown⟩)
end Go.Proofs.YtpnoecjpplaicaaGreatDoor
namespace Go.Proofs.YtpnoecjpplaicaaGreatDoor
open Go.RowKit
open Go.Sort (putRow Holds swp ltInt PermIn holds_putRow holds_ahead putRow_self putRow_ahead ahead_ahead cell?_putRow cell?_putRow_other frozen?_putRow grow size_swp permIn_trans permIn_refl swp_permIn)

theorem bitAux (f : Nat) : ∀ x, x < 2 ^ f → x < 2 ^ Lib.bitLenAux f x ∧ (0 < x → 2 ^ Lib.bitLenAux f x ≤ 2 * x) := by
  induction f with
  | zero => intro x h; have : x = 0 := by simpa using h
            subst this; exact ⟨by decide, fun h => absurd h (by decide)⟩
  | succ f ih =>
    intro x h
    unfold Lib.bitLenAux
    by_cases h0 : x = 0
    · subst h0; rw [if_pos rfl]; exact ⟨by decide, fun h => absurd h (by decide)⟩
    · rw [if_neg h0, Nat.add_comm 1, Nat.pow_succ]
      obtain ⟨h1, h2⟩ := ih (x / 2) (by rw [Nat.pow_succ] at h; omega)
      refine ⟨by omega, fun _ => ?_⟩
      by_cases h3 : 0 < x / 2
      · have := h2 h3; omega
      · have h4 : x = 1 := by omega
        subst h4
        have e : ∀ g, Lib.bitLenAux g (1 / 2) = 0 := fun g => by cases g <;> rfl
        rw [e]; decide
theorem bit_two {x : Nat} (h : 0 < x) (hx : x ≤ 1000000) : 2 ^ Lib.bitLen x ≤ 2 * x := (bitAux 64 x (by omega)).2 h
theorem bit_le {x : Nat} (hx : x ≤ 1000000) : Lib.bitLen x ≤ 20 := by
  rcases Nat.eq_zero_or_pos x with rfl | h
  · decide
  · have h1 := bit_two h hx
    rcases Nat.lt_or_ge 20 (Lib.bitLen x) with h2 | h2
    · have : 2 ^ 21 ≤ 2 ^ Lib.bitLen x := Nat.pow_le_pow_right (by decide) h2
      omega
    · exact h2
set_option maxRecDepth 20000 in
theorem Len9 (x : Nat) (hx : x ≤ 1000000) (w : World) : Calls Tryz.prog 183 #[.int .u64 x] w fun e w' => e = .returned (.int .i64 (Lib.bitLen x)) ∧ w' = w := by
  have hC := bits_Len64 x w (by omega) (by omega)
  rw [Int.toNat_natCast] at hC
  go_enter Tryz.func183, Tryz.ntmps183
  go_wp2_with (go_at_call 123; refine hC.mono ?_; rintro e w' ⟨rfl, rfl⟩)
  all_goals go_ret
  all_goals exact ⟨rfl, rfl⟩
set_option maxRecDepth 20000 in
theorem Pow9 (x : Nat) (h0 : 0 < x) (hx : x ≤ 1000000) (w : World) : Calls Tryz.prog 213 #[.int .i64 x] w fun e w' => ∃ m : Nat, e = .returned (.int .u64 m) ∧ 1 ≤ m ∧ m ≤ 2 * x ∧ w' = w := by
  have hL := bit_two h0 hx
  have hL2 := bit_le hx
  have hp : 1 ≤ 2 ^ Lib.bitLen x := Nat.one_le_two_pow
  have hC := Len9 x hx w
  generalize Lib.bitLen x = k at hL hL2 hC hp
  go_enter Tryz.func213, Tryz.ntmps213
  go_wp2_with (go_at_call 183; refine hC.mono ?_; rintro e w' ⟨rfl, rfl⟩)
  have e1 : IntKind.u64.wrap (2 ^ k) = ((2 ^ k : Nat) : Int) := by
    generalize hq : 2 ^ k = q at hL hp
    have : ((2 : Int) ^ k) = ((q : Nat) : Int) := by rw [← hq]; push_cast; rfl
    rw [this, IntKind.wrap_u64]
    omega
  rw [e1]
  go_ret
  exact ⟨2 ^ k, rfl, hp, hL, rfl⟩
/-- A seed's box, n draws on. -/
def Ru9 (w : World) (sb : Nat) (s : Int) (w' : World) : Prop := ∃ n, w' = putRow (Value.int .u64) (Go.Sort.ahead w n) sb 0 #[s]
abbrev Cu9 (w : World) (sb : Nat) (s : Int) : Prop := Holds (Value.int .u64) w sb 0 #[s]
theorem Ru9.count {w w' : World} {sb : Nat} {s s' : Int} (h : Cu9 w sb s) (hr : Ru9 w sb s' w') : Cu9 w' sb s' := by
  obtain ⟨n, rfl⟩ := hr
  exact holds_putRow _ _ _ _ #[s] #[s'] (holds_ahead _ _ _ _ _ _ h) rfl
theorem Ru9.trans {w w' w'' : World} {sb : Nat} {s s' : Int} (h : Ru9 w sb s w') (h' : Ru9 w' sb s' w'') : Ru9 w sb s' w'' := by
  obtain ⟨n, rfl⟩ := h
  obtain ⟨m, rfl⟩ := h'
  exact ⟨n + m, Go.Sort.putRow_ahead_putRow _ _ _ _ _ _ _ _ rfl⟩
theorem Ru9.set_ {w : World} {sb : Nat} {s : Int} (h : Cu9 w sb s) (t : Int) : Ru9 w sb t (w.setCell ⟨sb, 0, none⟩ (.int .u64 t)).drew := ⟨1, by
  have e := Go.Sort.putRow_set (Value.int .u64) w sb 0 #[s] 0 t (by simp)
  rw [putRow_self _ _ _ _ _ h] at e
  rw [putRow_ahead, Nat.add_zero] at *
  exact congrArg World.drew e⟩
theorem Cu9.cell {w : World} {sb : Nat} {s : Int} (h : Cu9 w sb s) : w.cell? ⟨sb, 0, none⟩ = some (.int .u64 s) ∧ w.frozen? ⟨sb, 0, none⟩ = false := by simpa using h 0 (by simp)
theorem xor_in {a b : Int} (h1 : 0 ≤ a ∧ a < 18446744073709551616) (h2 : 0 ≤ b ∧ b < 18446744073709551616) : 0 ≤ bits .xor .u64 a b ∧ bits .xor .u64 a b < 18446744073709551616 := by
  rw [Go.u64_xor a b h1.1 h1.2 h2.1 h2.2]
  have : a.toNat ^^^ b.toNat < 2 ^ 64 := Nat.xor_lt_two_pow (by omega) (by omega)
  omega
theorem wrap_in (a : Int) : 0 ≤ IntKind.u64.wrap a ∧ IntKind.u64.wrap a < 18446744073709551616 := by rw [IntKind.wrap_u64]; omega
set_option maxRecDepth 20000 in
theorem Xor9 (sb : Nat) (s : Int) (w : World) (hS : Cu9 w sb s) (hs : 0 ≤ s ∧ s < 18446744073709551616) : Calls Tryz.prog 214 #[.pointer (some ⟨sb, 0, none⟩)] w fun e w' => ∃ v : Int, e = .returned (.int .u64 v) ∧ 0 ≤ v ∧ v < 18446744073709551616 ∧ Ru9 w sb v w' := by
  obtain ⟨c0, f0⟩ := hS.cell
  have HS0 := Lib.hid hS
  have B0 := Lib.hid hs
  clear hS hs
  go_enter Tryz.func214, Tryz.ntmps214
  go_wp2
  go_region
  obtain ⟨v1, hv1⟩ : ∃ v, v = bits .xor .u64 s (IntKind.u64.wrap (s * 8192)) := ⟨_, rfl⟩
  rw [← hv1]
  have B1 := Lib.hid (show 0 ≤ v1 ∧ v1 < 18446744073709551616 by rw [hv1]; exact xor_in B0.out (wrap_in _))
  have hr1 := Ru9.set_ HS0.out v1
  obtain ⟨w1, hw1⟩ : ∃ W, W = (w.setCell ⟨sb, 0, none⟩ (.int .u64 v1)).drew := ⟨_, rfl⟩
  rw [← hw1] at hr1 ⊢
  have HR1 := Lib.hid hr1
  obtain ⟨c1, f1⟩ := (hr1.count HS0.out).cell
  clear hv1 hw1 hr1 c0 f0 B0
  go_wp2
  go_region
  obtain ⟨v2, hv2⟩ : ∃ v, v = bits .xor .u64 v1 (v1 / 128) := ⟨_, rfl⟩
  rw [← hv2]
  have B2 := Lib.hid (show 0 ≤ v2 ∧ v2 < 18446744073709551616 by rw [hv2]; have := B1.out; exact xor_in this (by omega))
  have hr2 := Ru9.set_ (HR1.out.count HS0.out) v2
  obtain ⟨w2, hw2⟩ : ∃ W, W = (w1.setCell ⟨sb, 0, none⟩ (.int .u64 v2)).drew := ⟨_, rfl⟩
  rw [← hw2] at hr2 ⊢
  have HR2 := Lib.hid (HR1.out.trans hr2)
  obtain ⟨c2, f2⟩ := (HR2.out.count HS0.out).cell
  clear hv2 hw2 hr2 c1 f1 B1 HR1
  go_wp2
  go_region
  obtain ⟨v3, hv3⟩ : ∃ v, v = bits .xor .u64 v2 (IntKind.u64.wrap (v2 * 131072)) := ⟨_, rfl⟩
  rw [← hv3]
  have B3 := Lib.hid (show 0 ≤ v3 ∧ v3 < 18446744073709551616 by rw [hv3]; exact xor_in B2.out (wrap_in _))
  have hr3 := Ru9.set_ (HR2.out.count HS0.out) v3
  obtain ⟨w3, hw3⟩ : ∃ W, W = (w2.setCell ⟨sb, 0, none⟩ (.int .u64 v3)).drew := ⟨_, rfl⟩
  rw [← hw3] at hr3 ⊢
  have HR3 := Lib.hid (HR2.out.trans hr3)
  obtain ⟨c3, f3⟩ := (HR3.out.count HS0.out).cell
  clear hv3 hw3 hr3 c2 f2 B2 HR2
  go_wp2
  go_ret
  exact ⟨v3, rfl, B3.out.1, B3.out.2, HR3.out⟩
/-- The row in a world that has grown. -/
abbrev At9 (w : World) (blk off : Nat) (d : Array Int) (w' : World) : Prop := Go.Sort.At eD w blk off d w'
theorem At9.box {w w' w'' : World} {blk off sb : Nat} {d : Array Int} {v : Int} (h : At9 w blk off d w') (hr : Ru9 w' sb v w'') (hs : w.heap.size ≤ sb) : At9 w blk off d w'' := by
  obtain ⟨n, os, rfl⟩ := h
  obtain ⟨m, rfl⟩ := hr
  rw [Go.Sort.ahead_grow]
  obtain ⟨os', _, e⟩ := Go.Sort.putRow_grow_new (Value.int .u64) (Go.Sort.ahead (putRow eD (Go.Sort.ahead w n) blk off d) m) os sb 0 #[v] (by simpa using hs)
  exact ⟨n + m, os', by rw [e, putRow_ahead eD w n, ahead_ahead, ← putRow_ahead]⟩
theorem Cu9.past {w w' : World} {blk off sb : Nat} {d : Array Int} {v : Int} (h : Cu9 w sb v) (hr : Rw9 w blk off d w') (hne : sb ≠ blk) : Cu9 w' sb v := by
  obtain ⟨n, rfl⟩ := hr
  exact fun j hj => ⟨by rw [cell?_putRow_other _ _ _ _ _ _ (.inl hne)]; exact (h j hj).1, by rw [frozen?_putRow]; exact (h j hj).2⟩
theorem Ru9.row {w w' : World} {blk off sb : Nat} {d : Array Int} {v : Int} (h : Holds eD w blk off d) (hr : Ru9 w sb v w') (hne : sb ≠ blk) : Holds eD w' blk off d := by
  obtain ⟨n, rfl⟩ := hr
  exact fun j hj => ⟨by rw [cell?_putRow_other _ _ _ _ _ _ (.inl (Ne.symm hne))]; exact (h j hj).1, by rw [frozen?_putRow]; exact (h j hj).2⟩
theorem cu9_new (w : World) (s : Int) : Cu9 (w.alloc (.cells #[.int .u64 s] 298)) w.heap.size s := fun j hj => by
  have hb := Blk.new w 298 #[.int .u64 s]
  have : j = 0 := by simpa using hj
  subst this
  exact ⟨by rw [hb.cell]; rfl, hb.frozen _⟩
theorem and_low {v : Int} {m L : Nat} (h0 : 0 ≤ v ∧ v < 18446744073709551616) (h1 : 1 ≤ m) (h2 : m ≤ 2 * L) (hL : L ≤ 1000000) : ∃ x : Nat, bits .and .u64 v ((m : Int) - 1) = (x : Int) ∧ x < 2 * L := by
  rw [Go.u64_and v ((m : Int) - 1) h0.1 h0.2 (by omega) (by omega)]
  refine ⟨_, rfl, ?_⟩
  have := @Nat.and_le_right v.toNat ((m : Int) - 1).toNat
  omega
def BkRel (d : Array Int) (a b q sb blk off : Nat) (w : World) (i _j : Value) (w' : World) : Prop :=
  ∃ k : Nat, ∃ e : Array Int, ∃ v : Int, i = .int .i64 k ∧ a + q ≤ k + 1 ∧ k ≤ a + q + 2 ∧ PermIn a b d e ∧ (0 ≤ v ∧ v < 18446744073709551616) ∧ Cu9 w' sb v ∧ At9 w blk off e w'
set_option maxRecDepth 20000 in
set_option maxHeartbeats 4000000 in
theorem Break9 (n blk off cap a b : Nat) (d : Array Int) (w : World) (hn : d.size = n) (hH : Holds eD w blk off d) (hblk : blk < w.heap.size) (hab : a + 12 < b) (hb : b ≤ n) (hsz : n ≤ 1000000) :
    Calls Tryz.prog 199 #[.slice (some ⟨blk, off, none⟩) n cap, .int .i64 a, .int .i64 b] w fun e w' =>
      e = .returned (.tuple #[]) ∧ ∃ d', PermIn a b d d' ∧ At9 w blk off d' w' := by
  obtain ⟨L, hL⟩ : ∃ L : Nat, L = b - a := ⟨_, rfl⟩
  obtain ⟨m, hm⟩ : ∃ m : Nat, m = L / 4 := ⟨_, rfl⟩
  have w1 : IntKind.i64.wrap ((b : Int) - (a : Int)) = (L : Int) := by rw [IntKind.wrap_i64]; omega
  have E2 : (L : Int) / 4 = (m : Int) := by omega
  have hL8 : 8 ≤ L := by omega
  have hL9 : L ≤ 1000000 := by omega
  have hm9 : m ≤ 1000000 := by omega
  have hm1 : 2 ≤ m := by omega
  have hmL : a + m * 2 + 2 < b := by omega
  have haL : a + L = b := by omega
  have hne : w.heap.size ≠ blk := by omega
  have HA := Lib.hid (Go.Sort.At.refl hH)
  have HH := Lib.hid hH
  have HB := Lib.hid hblk
  have HU := Lib.hid (cu9_new w (L : Int))
  clear hL hm hH hblk
  go_enter Tryz.func199, Tryz.ntmps199
  go_wp2_with fail
  refine (Pow9 L (by omega) hL9 _).mono ?_
  rintro e w' ⟨M, rfl, hM1, hM2, rfl⟩
  have HAl : Hid (At9 w blk off d (w.alloc (.cells #[.int .u64 (L : Int)] 298))) := Lib.hid ⟨0, #[Obj.cells #[.int .u64 (L : Int)] 298], by rw [Go.Sort.ahead_zero, putRow_self _ _ _ _ _ HH.out, Go.Sort.alloc_eq_grow]⟩
  obtain ⟨w9, hw9⟩ : ∃ W, W = w.alloc (.cells #[.int .u64 (L : Int)] 298) := ⟨_, rfl⟩
  rw [← hw9] at HAl HU ⊢
  clear hw9
  obtain ⟨k0, hk0⟩ : ∃ k0 : Nat, k0 + 1 = a + m * 2 := ⟨a + m * 2 - 1, by omega⟩
  have E4 := Lib.hid (show (a : Int) + (m : Int) * 2 - 1 = (k0 : Int) by omega)
  have HK := Lib.hid hk0
  clear hk0
  obtain ⟨sb, hsb⟩ : ∃ sb, sb = w.heap.size := ⟨_, rfl⟩
  rw [← hsb] at HU hne ⊢
  have HSB := Lib.hid (show w.heap.size ≤ sb by omega)
  clear hsb w1
  go_wp2_with fail
  rw [E4.out]
  go_loopw [9, 10] (BkRel d a b (m * 2) sb blk off w) (fun i _ _ => (a + m * 2 + 3 : Int) - intOf i |>.toNat)
  case atStart => exact ⟨k0, d, (L : Int), rfl, by have := HK.out; omega, by have := HK.out; omega, permIn_refl _ _ _, by omega, HU.out, HAl.out⟩
  case round =>
    obtain ⟨k, e, v, rfl, hk1, hk2, hP, hv, hU, hA⟩ := hrel
    have hes : e.size = n := hP.1.trans hn
    have HP := Lib.hid hP
    have HU2 := Lib.hid hU
    have HA2 := Lib.hid hA
    have HV := Lib.hid hv
    clear hP hU hA hv
    go_wp2_with fail
    · refine (Xor9 sb v _ HU2.out HV.out).mono ?_
      rintro x w5 ⟨v2, rfl, hv1, hv2, hr⟩
      obtain ⟨y, hy, hy2⟩ := and_low ⟨hv1, hv2⟩ hM1 hM2 hL9
      have HA3 := Lib.hid (HA2.out.box hr HSB.out)
      have HU3 := Lib.hid (hr.count HU2.out)
      have HV2 := Lib.hid (And.intro hv1 hv2)
      clear hr hv1 hv2 HU2 HA2 HV
      go_wp2_with fail
      · obtain ⟨z, hz⟩ : ∃ z : Nat, y = L + z := ⟨y - L, by omega⟩
        rw [show (y : Int) - (L : Int) = (z : Int) by omega]
        have hzL : z < L := by omega
        obtain ⟨p, hp⟩ : ∃ p : Nat, p = a + z := ⟨_, rfl⟩
        have hpb : p < b := by omega
        have hpn : p < n := by omega
        have hkn : k < n := by omega
        have hkb : k < b := by omega
        have hak : a ≤ k := by omega
        have hap : a ≤ p := by omega
        have w6 : IntKind.i64.wrap ((a : Int) + (z : Int)) = (p : Int) := by rw [IntKind.wrap_i64]; omega
        obtain ⟨hH5, hb5⟩ := HA3.out.holds HH.out (by rw [hes, hn]) HB.out
        obtain ⟨G, hG, hc, hf⟩ := (Rw9.refl hH5).fam hH5 rfl
        rw [hes] at hc hf
        obtain ⟨v9, hv9⟩ := cell?_setCell_some (w := w5) (p := ⟨blk, off + k, none⟩) (x := .int .i32 (G p)) (q := ⟨blk, off + p, none⟩) (hc p hpn)
        have HH5 := Lib.hid hH5
        have HG := Lib.hid hG
        clear hH5 hG hp
        go_wp2_with fail
        go_region
        have hR6 := ((Rw9.refl HH5.out).swap (i := k) (j := p) (by omega) (by omega) (HG.out _) (HG.out _)).drew
        obtain ⟨w7, hw7⟩ : ∃ W, W = ((w5.setCell ⟨blk, off + k, none⟩ (eD (G p))).setCell ⟨blk, off + p, none⟩ (eD (G k))).drew := ⟨_, rfl⟩
        rw [← hw7] at hR6 ⊢
        have HA4 := Lib.hid (HA3.out.step HB.out (size_swp _ _ _) hR6)
        have HU4 := Lib.hid (HU3.out.past hR6 hne)
        have HP4 := Lib.hid (permIn_trans _ _ _ _ _ HP.out (swp_permIn _ _ _ _ _ hak hkb hap hpb (by omega)))
        clear hw7 hR6 hv9 hc hf w6 HH5 HG
        go_wp2_with fail
        go_roundw
        case rel => exact ⟨k + 1, swp e k p, v2, by go_num, by omega, by omega, HP4.out, HV2.out, HU4.out, HA4.out⟩
        case measure => simp [intOf]; omega
      · obtain ⟨z, hz⟩ : ∃ z : Nat, y = z := ⟨y, rfl⟩
        have hzL : z < L := by omega
        subst hz
        obtain ⟨p, hp⟩ : ∃ p : Nat, p = a + y := ⟨_, rfl⟩
        have hpb : p < b := by omega
        have hpn : p < n := by omega
        have hkn : k < n := by omega
        have hkb : k < b := by omega
        have hak : a ≤ k := by omega
        have hap : a ≤ p := by omega
        have w6 : IntKind.i64.wrap ((a : Int) + (y : Int)) = (p : Int) := by rw [IntKind.wrap_i64]; omega
        obtain ⟨hH5, hb5⟩ := HA3.out.holds HH.out (by rw [hes, hn]) HB.out
        obtain ⟨G, hG, hc, hf⟩ := (Rw9.refl hH5).fam hH5 rfl
        rw [hes] at hc hf
        obtain ⟨v9, hv9⟩ := cell?_setCell_some (w := w5) (p := ⟨blk, off + k, none⟩) (x := .int .i32 (G p)) (q := ⟨blk, off + p, none⟩) (hc p hpn)
        have HH5 := Lib.hid hH5
        have HG := Lib.hid hG
        clear hH5 hG hp
        go_wp2_with fail
        go_region
        have hR6 := ((Rw9.refl HH5.out).swap (i := k) (j := p) (by omega) (by omega) (HG.out _) (HG.out _)).drew
        obtain ⟨w7, hw7⟩ : ∃ W, W = ((w5.setCell ⟨blk, off + k, none⟩ (eD (G p))).setCell ⟨blk, off + p, none⟩ (eD (G k))).drew := ⟨_, rfl⟩
        rw [← hw7] at hR6 ⊢
        have HA4 := Lib.hid (HA3.out.step HB.out (size_swp _ _ _) hR6)
        have HU4 := Lib.hid (HU3.out.past hR6 hne)
        have HP4 := Lib.hid (permIn_trans _ _ _ _ _ HP.out (swp_permIn _ _ _ _ _ hak hkb hap hpb (by omega)))
        clear hw7 hR6 hv9 hc hf w6 HH5 HG
        go_wp2_with fail
        go_roundw
        case rel => exact ⟨k + 1, swp e k p, v2, by go_num, by omega, by omega, HP4.out, HV2.out, HU4.out, HA4.out⟩
        case measure => simp [intOf]; omega
    · go_end0
      exact ⟨rfl, e, HP.out, HA2.out⟩
end Go.Proofs.YtpnoecjpplaicaaGreatDoor
