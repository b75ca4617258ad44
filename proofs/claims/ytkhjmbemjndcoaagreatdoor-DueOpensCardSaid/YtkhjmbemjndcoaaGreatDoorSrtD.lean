/-
  The library's sort over days, V: which element parts the row. Conditions: the row lies there.
-/
import Derived.Test.YtkhjmbemjndcoaaGreatDoorSrtH
import Derived.Sort.Grow
namespace Go.Proofs.YtkhjmbemjndcoaaGreatDoor
open Go.RowKit
open Go.Sort (putRow Holds swp ltInt holds_putRow holds_ahead putRow_self putRow_ahead ahead_ahead cell?_putRow cell?_putRow_other frozen?_putRow grow)

/-- A counter's box, n draws on. -/
def Rs9 (w : World) (sb : Nat) (s : Int) (w' : World) : Prop := ∃ n, w' = putRow (Value.int .i64) (Go.Sort.ahead w n) sb 0 #[s]
abbrev Ct9 (w : World) (sb : Nat) (s : Int) : Prop := Holds (Value.int .i64) w sb 0 #[s]
theorem Ct9.cell {w : World} {sb : Nat} {s : Int} (h : Ct9 w sb s) : w.cell? ⟨sb, 0, none⟩ = some (.int .i64 s) ∧ w.frozen? ⟨sb, 0, none⟩ = false := by simpa using h 0 (by simp)
theorem Rs9.count {w w' : World} {sb : Nat} {s s' : Int} (h : Ct9 w sb s) (hr : Rs9 w sb s' w') : Ct9 w' sb s' := by
  obtain ⟨n, rfl⟩ := hr
  exact holds_putRow _ _ _ _ #[s] #[s'] (holds_ahead _ _ _ _ _ _ h) rfl
theorem Rs9.row {w w' : World} {sb blk off : Nat} {s' : Int} {d : Array Int} (h : Holds eD w blk off d) (hr : Rs9 w sb s' w') (hne : sb ≠ blk) : Holds eD w' blk off d := by
  obtain ⟨n, rfl⟩ := hr
  exact fun j hj => ⟨by rw [cell?_putRow_other _ _ _ _ _ _ (.inl (Ne.symm hne))]; exact (h j hj).1, by rw [frozen?_putRow]; exact (h j hj).2⟩
theorem Rs9.trans {w w' w'' : World} {sb : Nat} {s s' : Int} (h : Rs9 w sb s w') (h' : Rs9 w' sb s' w'') : Rs9 w sb s' w'' := by
  obtain ⟨n, rfl⟩ := h
  obtain ⟨m, rfl⟩ := h'
  exact ⟨n + m, Go.Sort.putRow_ahead_putRow _ _ _ _ _ _ _ _ rfl⟩
theorem Rs9.same {w : World} {sb : Nat} {s : Int} (h : Ct9 w sb s) (q : Nat) : Rs9 w sb s (w.drewN q) := ⟨q, by rw [putRow_self _ _ _ _ _ (holds_ahead _ _ _ _ _ _ h)]; rfl⟩
theorem Rs9.set_ {w : World} {sb : Nat} {s : Int} (h : Ct9 w sb s) (q : Nat) (t : Int) : Rs9 w sb t ((w.drewN q).setCell ⟨sb, 0, none⟩ (.int .i64 t)) := ⟨q, by
  have e := Go.Sort.putRow_set (Value.int .i64) (w.drewN q) sb 0 #[s] 0 t (by simp)
  rw [putRow_self _ _ _ _ _ (show Holds (Value.int .i64) (w.drewN q) sb 0 #[s] from h)] at e
  exact e⟩

set_option maxRecDepth 20000 in
theorem Order9 (n blk off cap a b sb : Nat) (s : Int) (d : Array Int) (w : World) (hn : d.size = n) (hH : Holds eD w blk off d) (ha : a < n) (hb : b < n) (hsz : n ≤ 1000000) (hS : Ct9 w sb s) (hs : 0 ≤ s ∧ s ≤ 1000) :
    Calls Tryz.prog 88 #[.slice (some ⟨blk, off, none⟩) n cap, .int .i64 a, .int .i64 b, .pointer (some ⟨sb, 0, none⟩)] w fun e w' =>
      ∃ x y : Nat, ∃ t : Int, e = .returned (.tuple #[.int .i64 x, .int .i64 y]) ∧ (x = a ∧ y = b ∨ x = b ∧ y = a) ∧ s ≤ t ∧ t ≤ s + 1 ∧ Rs9 w sb t w' := by
  obtain ⟨c0, f0⟩ := hS.cell
  obtain ⟨G, hG, hc, hf⟩ := (Rw9.refl hH).fam hH rfl
  rw [hn] at hc hf
  have HS := Lib.hid hS
  clear hG hH hS
  go_enter Tryz.func88, Tryz.ntmps88
  go_wp2
  go_quiet (first | (go_at_call 53; refine Calls.quiet_of_same (Less9 _ _ _)))
  go_wp2
  · go_ret2
    exact ⟨b, a, s + 1, rfl, .inr ⟨rfl, rfl⟩, by omega, by omega, Rs9.set_ HS.out _ _⟩
  · go_ret2
    exact ⟨a, b, s, rfl, .inl ⟨rfl, rfl⟩, by omega, by omega, Rs9.same HS.out _⟩
set_option maxRecDepth 20000 in
theorem Median9 (n blk off cap a b c sb : Nat) (s : Int) (d : Array Int) (w : World) (hn : d.size = n) (hH : Holds eD w blk off d) (ha : a < n) (hb : b < n) (hcc : c < n) (hsz : n ≤ 1000000) (hS : Ct9 w sb s) (hs : 0 ≤ s ∧ s ≤ 900) (hne : sb ≠ blk) :
    Calls Tryz.prog 81 #[.slice (some ⟨blk, off, none⟩) n cap, .int .i64 a, .int .i64 b, .int .i64 c, .pointer (some ⟨sb, 0, none⟩)] w fun e w' =>
      ∃ x : Nat, ∃ t : Int, e = .returned (.int .i64 x) ∧ (x = a ∨ x = b ∨ x = c) ∧ s ≤ t ∧ t ≤ s + 3 ∧ Rs9 w sb t w' := by
  have HH := Lib.hid hH
  have HS := Lib.hid hS
  clear hH hS
  go_enter Tryz.func81, Tryz.ntmps81
  go_wp2_with fail
  refine (Order9 n blk off cap a b sb s d w hn HH.out ha hb hsz HS.out (by omega)).mono ?_
  rintro e w1 ⟨x1, y1, t1, rfl, hxy, ht1, ht2, hr1⟩
  have HR1 := Lib.hid hr1
  have hx1 : x1 < n := by omega
  have hy1 : y1 < n := by omega
  have HX1 := Lib.hid hxy
  clear hr1 hxy
  go_wp2_with fail
  refine (Order9 n blk off cap y1 c sb t1 d w1 hn (HR1.out.row HH.out hne) hy1 hcc hsz (HR1.out.count HS.out) (by omega)).mono ?_
  rintro e w2 ⟨x2, y2, t2, rfl, hxy, ht3, ht4, hr2⟩
  have HR2 := Lib.hid (HR1.out.trans hr2)
  have hx2 : x2 < n := by omega
  have HX2 := Lib.hid hxy
  clear hr2 hxy
  go_wp2_with fail
  refine (Order9 n blk off cap x1 x2 sb t2 d w2 hn (HR2.out.row HH.out hne) hx1 hx2 hsz (HR2.out.count HS.out) (by omega)).mono ?_
  rintro e w3 ⟨x3, y3, t3, rfl, hxy, ht5, ht6, hr3⟩
  have HR3 := Lib.hid (HR2.out.trans hr3)
  have HX3 := Lib.hid hxy
  clear hr3 hxy
  go_wp2_with fail
  go_ret
  have h1 := HX1.out
  have h2 := HX2.out
  have h3 := HX3.out
  exact ⟨y3, t3, rfl, by omega, by omega, by omega, HR3.out⟩
set_option maxRecDepth 20000 in
theorem MedAdj9 (n blk off cap a sb : Nat) (s : Int) (d : Array Int) (w : World) (hn : d.size = n) (hH : Holds eD w blk off d) (ha : 1 ≤ a) (hb : a + 1 < n) (hsz : n ≤ 1000000) (hS : Ct9 w sb s) (hs : 0 ≤ s ∧ s ≤ 900) (hne : sb ≠ blk) :
    Calls Tryz.prog 80 #[.slice (some ⟨blk, off, none⟩) n cap, .int .i64 a, .pointer (some ⟨sb, 0, none⟩)] w fun e w' =>
      ∃ x : Nat, ∃ t : Int, e = .returned (.int .i64 x) ∧ (a ≤ x + 1 ∧ x ≤ a + 1) ∧ s ≤ t ∧ t ≤ s + 3 ∧ Rs9 w sb t w' := by
  obtain ⟨k, rfl⟩ : ∃ k, a = k + 1 := ⟨a - 1, by omega⟩
  have HH := Lib.hid hH
  have HS := Lib.hid hS
  clear hH hS
  go_enter Tryz.func80, Tryz.ntmps80
  go_wp2_with fail
  refine (Median9 n blk off cap k (k + 1) (k + 1 + 1) sb s d w hn HH.out (by omega) (by omega) (by omega) hsz HS.out hs hne).mono ?_
  rintro e w1 ⟨x1, t1, rfl, hxy, ht1, ht2, hr1⟩
  have HR1 := Lib.hid hr1
  clear hr1
  go_wp2_with fail
  go_ret
  exact ⟨x1, t1, rfl, by omega, by omega, by omega, HR1.out⟩
end Go.Proofs.YtkhjmbemjndcoaaGreatDoor
