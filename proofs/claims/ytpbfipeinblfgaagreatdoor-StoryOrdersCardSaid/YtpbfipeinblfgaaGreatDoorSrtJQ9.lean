/-
The library's sort over days, VII: how long a number is, numbers by chance, a row that is mixed. Conditions: the row lies there, and is not short.
The library's sort over days, VIII: the parting. Conditions: the row lies there.
The library's sort over days, IX: the parting, with a pivot. Conditions: the row lies there.
The library's sort over days, X: a row that is nearly sorted. Conditions: the row lies there.
-/
import Derived.Test.YtpbfipeinblfgaaGreatDoorSrtEQ9
import Derived.Test.YtpbfipeinblfgaaGreatDoorLenQ9
import Derived.Sort.Walk13a
import Derived.Laws.Bits64b
import Derived.Laws.BitsAllLaws
import Derived.Deep.CutBlock
namespace Go.Proofs.YtpbfipeinblfgaaGreatDoor
open Go.RowKit
open Go.Sort (putRow Holds swp ltInt PermIn holds_putRow holds_ahead putRow_self putRow_ahead ahead_ahead cell?_putRow cell?_putRow_other frozen?_putRow grow size_swp permIn_trans permIn_refl swp_permIn)

theorem bitAux (f : Nat) : ∀ x, x < 2 ^ f → x < 2 ^ Lib.bitLenAux f x ∧ (0 < x → 2 ^ Lib.bitLenAux f x ≤ 2 * x) := by
  induction f with
  | zero => intro x h; have : x = 0 := by simpa using h
            subst this; exact ⟨by decide, fun h => absurd h (by decide)⟩
  | succ f ih =>
    intro x h
    unfold Lib.bitLenAux
    by_cases h0 : x = 0
    · subst h0; rw [if_pos rfl]; exact ⟨by decide, fun h => absurd h (by decide)⟩
    · rw [if_neg h0, Nat.add_comm 1, Nat.pow_succ]
      obtain ⟨h1, h2⟩ := ih (x / 2) (by rw [Nat.pow_succ] at h; omega)
      refine ⟨by omega, fun _ => ?_⟩
      by_cases h3 : 0 < x / 2
      · have := h2 h3; omega
      · have h4 : x = 1 := by omega
        subst h4
        have e : ∀ g, Lib.bitLenAux g (1 / 2) = 0 := fun g => by cases g <;> rfl
        rw [e]; decide
theorem bit_two {x : Nat} (h : 0 < x) (hx : x ≤ 1000000) : 2 ^ Lib.bitLen x ≤ 2 * x := (bitAux 64 x (by omega)).2 h
theorem bit_le {x : Nat} (hx : x ≤ 1000000) : Lib.bitLen x ≤ 20 := by
  rcases Nat.eq_zero_or_pos x with rfl | h
  · decide
  · have h1 := bit_two h hx
    rcases Nat.lt_or_ge 20 (Lib.bitLen x) with h2 | h2
    · have : 2 ^ 21 ≤ 2 ^ Lib.bitLen x := Nat.pow_le_pow_right (by decide) h2
      omega
    · exact h2
set_option maxRecDepth 20000 in
theorem Len9 (x : Nat) (hx : x ≤ 1000000) (w : World) : Calls Tryz.prog 190 #[.int .u64 x] w fun e w' => e = .returned (.int .i64 (Lib.bitLen x)) ∧ w' = w := by
  have hC := bits_Len64 x w (by omega) (by omega)
  rw [Int.toNat_natCast] at hC
  go_enter Tryz.func190, Tryz.ntmps190
  go_wp2_with (go_at_call 208; refine hC.mono ?_; rintro e w' ⟨rfl, rfl⟩)
  all_goals go_ret
  all_goals exact ⟨rfl, rfl⟩
set_option maxRecDepth 20000 in
theorem Pow9 (x : Nat) (h0 : 0 < x) (hx : x ≤ 1000000) (w : World) : Calls Tryz.prog 245 #[.int .i64 x] w fun e w' => ∃ m : Nat, e = .returned (.int .u64 m) ∧ 1 ≤ m ∧ m ≤ 2 * x ∧ w' = w := by
  have hL := bit_two h0 hx
  have hL2 := bit_le hx
  have hp : 1 ≤ 2 ^ Lib.bitLen x := Nat.one_le_two_pow
  have hC := Len9 x hx w
  generalize Lib.bitLen x = k at hL hL2 hC hp
  go_enter Tryz.func245, Tryz.ntmps245
  go_wp2_with (go_at_call 190; refine hC.mono ?_; rintro e w' ⟨rfl, rfl⟩)
  have e1 : IntKind.u64.wrap (2 ^ k) = ((2 ^ k : Nat) : Int) := by
    generalize hq : 2 ^ k = q at hL hp
    have : ((2 : Int) ^ k) = ((q : Nat) : Int) := by rw [← hq]; push_cast; rfl
    rw [this, IntKind.wrap_u64]
    omega
  rw [e1]
  go_ret
  exact ⟨2 ^ k, rfl, hp, hL, rfl⟩
/-- A seed's box, n draws on. -/
def Ru9 (w : World) (sb : Nat) (s : Int) (w' : World) : Prop := ∃ n, w' = putRow (Value.int .u64) (Go.Sort.ahead w n) sb 0 #[s]
abbrev Cu9 (w : World) (sb : Nat) (s : Int) : Prop := Holds (Value.int .u64) w sb 0 #[s]
theorem Ru9.count {w w' : World} {sb : Nat} {s s' : Int} (h : Cu9 w sb s) (hr : Ru9 w sb s' w') : Cu9 w' sb s' := by
  obtain ⟨n, rfl⟩ := hr
  exact holds_putRow _ _ _ _ #[s] #[s'] (holds_ahead _ _ _ _ _ _ h) rfl
theorem Ru9.trans {w w' w'' : World} {sb : Nat} {s s' : Int} (h : Ru9 w sb s w') (h' : Ru9 w' sb s' w'') : Ru9 w sb s' w'' := by
  obtain ⟨n, rfl⟩ := h
  obtain ⟨m, rfl⟩ := h'
  exact ⟨n + m, Go.Sort.putRow_ahead_putRow _ _ _ _ _ _ _ _ rfl⟩
theorem Ru9.set_ {w : World} {sb : Nat} {s : Int} (h : Cu9 w sb s) (t : Int) : Ru9 w sb t (w.setCell ⟨sb, 0, none⟩ (.int .u64 t)).drew := ⟨1, by
  have e := Go.Sort.putRow_set (Value.int .u64) w sb 0 #[s] 0 t (by simp)
  rw [putRow_self _ _ _ _ _ h] at e
  rw [putRow_ahead, Nat.add_zero] at *
  exact congrArg World.drew e⟩
theorem Cu9.cell {w : World} {sb : Nat} {s : Int} (h : Cu9 w sb s) : w.cell? ⟨sb, 0, none⟩ = some (.int .u64 s) ∧ w.frozen? ⟨sb, 0, none⟩ = false := by simpa using h 0 (by simp)
theorem xor_in {a b : Int} (h1 : 0 ≤ a ∧ a < 18446744073709551616) (h2 : 0 ≤ b ∧ b < 18446744073709551616) : 0 ≤ bits .xor .u64 a b ∧ bits .xor .u64 a b < 18446744073709551616 := by
  rw [Go.u64_xor a b h1.1 h1.2 h2.1 h2.2]
  have : a.toNat ^^^ b.toNat < 2 ^ 64 := Nat.xor_lt_two_pow (by omega) (by omega)
  omega
theorem wrap_in (a : Int) : 0 ≤ IntKind.u64.wrap a ∧ IntKind.u64.wrap a < 18446744073709551616 := by rw [IntKind.wrap_u64]; omega
set_option maxRecDepth 20000 in
theorem Xor9 (sb : Nat) (s : Int) (w : World) (hS : Cu9 w sb s) (hs : 0 ≤ s ∧ s < 18446744073709551616) : Calls Tryz.prog 246 #[.pointer (some ⟨sb, 0, none⟩)] w fun e w' => ∃ v : Int, e = .returned (.int .u64 v) ∧ 0 ≤ v ∧ v < 18446744073709551616 ∧ Ru9 w sb v w' := by
  obtain ⟨c0, f0⟩ := hS.cell
  have HS0 := Lib.hid hS
  have B0 := Lib.hid hs
  clear hS hs
  go_enter Tryz.func246, Tryz.ntmps246
  go_wp2
  go_region
  obtain ⟨v1, hv1⟩ : ∃ v, v = bits .xor .u64 s (IntKind.u64.wrap (s * 8192)) := ⟨_, rfl⟩
  rw [← hv1]
  have B1 := Lib.hid (show 0 ≤ v1 ∧ v1 < 18446744073709551616 by rw [hv1]; exact xor_in B0.out (wrap_in _))
  have hr1 := Ru9.set_ HS0.out v1
  obtain ⟨w1, hw1⟩ : ∃ W, W = (w.setCell ⟨sb, 0, none⟩ (.int .u64 v1)).drew := ⟨_, rfl⟩
  rw [← hw1] at hr1 ⊢
  have HR1 := Lib.hid hr1
  obtain ⟨c1, f1⟩ := (hr1.count HS0.out).cell
  clear hv1 hw1 hr1 c0 f0 B0
  go_wp2
  go_region
  obtain ⟨v2, hv2⟩ : ∃ v, v = bits .xor .u64 v1 (v1 / 128) := ⟨_, rfl⟩
  rw [← hv2]
  have B2 := Lib.hid (show 0 ≤ v2 ∧ v2 < 18446744073709551616 by rw [hv2]; have := B1.out; exact xor_in this (by omega))
  have hr2 := Ru9.set_ (HR1.out.count HS0.out) v2
  obtain ⟨w2, hw2⟩ : ∃ W, W = (w1.setCell ⟨sb, 0, none⟩ (.int .u64 v2)).drew := ⟨_, rfl⟩
  rw [← hw2] at hr2 ⊢
  have HR2 := Lib.hid (HR1.out.trans hr2)
  obtain ⟨c2, f2⟩ := (HR2.out.count HS0.out).cell
  clear hv2 hw2 hr2 c1 f1 B1 HR1
  go_wp2
  go_region
  obtain ⟨v3, hv3⟩ : ∃ v, v = bits .xor .u64 v2 (IntKind.u64.wrap (v2 * 131072)) := ⟨_, rfl⟩
  rw [← hv3]
  have B3 := Lib.hid (show 0 ≤ v3 ∧ v3 < 18446744073709551616 by rw [hv3]; exact xor_in B2.out (wrap_in _))
  have hr3 := Ru9.set_ (HR2.out.count HS0.out) v3
  obtain ⟨w3, hw3⟩ : ∃ W, W = (w2.setCell ⟨sb, 0, none⟩ (.int .u64 v3)).drew := ⟨_, rfl⟩
  rw [← hw3] at hr3 ⊢
  have HR3 := Lib.hid (HR2.out.trans hr3)
  obtain ⟨c3, f3⟩ := (HR3.out.count HS0.out).cell
  clear hv3 hw3 hr3 c2 f2 B2 HR2
  go_wp2
  go_ret
  exact ⟨v3, rfl, B3.out.1, B3.out.2, HR3.out⟩
/-- The row in a world that has grown. -/
abbrev At9 (w : World) (blk off : Nat) (d : Array Int) (w' : World) : Prop := Go.Sort.At eD w blk off d w'
theorem At9.box {w w' w'' : World} {blk off sb : Nat} {d : Array Int} {v : Int} (h : At9 w blk off d w') (hr : Ru9 w' sb v w'') (hs : w.heap.size ≤ sb) : At9 w blk off d w'' := by
  obtain ⟨n, os, rfl⟩ := h
  obtain ⟨m, rfl⟩ := hr
  rw [Go.Sort.ahead_grow]
  obtain ⟨os', _, e⟩ := Go.Sort.putRow_grow_new (Value.int .u64) (Go.Sort.ahead (putRow eD (Go.Sort.ahead w n) blk off d) m) os sb 0 #[v] (by simpa using hs)
  exact ⟨n + m, os', by rw [e, putRow_ahead eD w n, ahead_ahead, ← putRow_ahead]⟩
theorem Cu9.past {w w' : World} {blk off sb : Nat} {d : Array Int} {v : Int} (h : Cu9 w sb v) (hr : Rw9 w blk off d w') (hne : sb ≠ blk) : Cu9 w' sb v := by
  obtain ⟨n, rfl⟩ := hr
  exact fun j hj => ⟨by rw [cell?_putRow_other _ _ _ _ _ _ (.inl hne)]; exact (h j hj).1, by rw [frozen?_putRow]; exact (h j hj).2⟩
theorem Ru9.row {w w' : World} {blk off sb : Nat} {d : Array Int} {v : Int} (h : Holds eD w blk off d) (hr : Ru9 w sb v w') (hne : sb ≠ blk) : Holds eD w' blk off d := by
  obtain ⟨n, rfl⟩ := hr
  exact fun j hj => ⟨by rw [cell?_putRow_other _ _ _ _ _ _ (.inl (Ne.symm hne))]; exact (h j hj).1, by rw [frozen?_putRow]; exact (h j hj).2⟩
theorem cu9_new (w : World) (s : Int) : Cu9 (w.alloc (.cells #[.int .u64 s] 327)) w.heap.size s := fun j hj => by
  have hb := Blk.new w 327 #[.int .u64 s]
  have : j = 0 := by simpa using hj
  subst this
  exact ⟨by rw [hb.cell]; rfl, hb.frozen _⟩
theorem and_low {v : Int} {m L : Nat} (h0 : 0 ≤ v ∧ v < 18446744073709551616) (h1 : 1 ≤ m) (h2 : m ≤ 2 * L) (hL : L ≤ 1000000) : ∃ x : Nat, bits .and .u64 v ((m : Int) - 1) = (x : Int) ∧ x < 2 * L := by
  rw [Go.u64_and v ((m : Int) - 1) h0.1 h0.2 (by omega) (by omega)]
  refine ⟨_, rfl, ?_⟩
  have := @Nat.and_le_right v.toNat ((m : Int) - 1).toNat
  omega
def BkRel (d : Array Int) (a b q sb blk off : Nat) (w : World) (i _j : Value) (w' : World) : Prop :=
  ∃ k : Nat, ∃ e : Array Int, ∃ v : Int, i = .int .i64 k ∧ a + q ≤ k + 1 ∧ k ≤ a + q + 2 ∧ PermIn a b d e ∧ (0 ≤ v ∧ v < 18446744073709551616) ∧ Cu9 w' sb v ∧ At9 w blk off e w'
set_option maxRecDepth 20000 in
set_option maxHeartbeats 4000000 in
theorem Break9 (n blk off cap a b : Nat) (d : Array Int) (w : World) (hn : d.size = n) (hH : Holds eD w blk off d) (hblk : blk < w.heap.size) (hab : a + 12 < b) (hb : b ≤ n) (hsz : n ≤ 1000000) :
    Calls Tryz.prog 237 #[.slice (some ⟨blk, off, none⟩) n cap, .int .i64 a, .int .i64 b] w fun e w' =>
      e = .returned (.tuple #[]) ∧ ∃ d', PermIn a b d d' ∧ At9 w blk off d' w' := by
  obtain ⟨L, hL⟩ : ∃ L : Nat, L = b - a := ⟨_, rfl⟩
  obtain ⟨m, hm⟩ : ∃ m : Nat, m = L / 4 := ⟨_, rfl⟩
  have w1 : IntKind.i64.wrap ((b : Int) - (a : Int)) = (L : Int) := by rw [IntKind.wrap_i64]; omega
  have E2 : (L : Int) / 4 = (m : Int) := by omega
  have hL8 : 8 ≤ L := by omega
  have hL9 : L ≤ 1000000 := by omega
  have hm9 : m ≤ 1000000 := by omega
  have hm1 : 2 ≤ m := by omega
  have hmL : a + m * 2 + 2 < b := by omega
  have haL : a + L = b := by omega
  have hne : w.heap.size ≠ blk := by omega
  have HA := Lib.hid (Go.Sort.At.refl hH)
  have HH := Lib.hid hH
  have HB := Lib.hid hblk
  have HU := Lib.hid (cu9_new w (L : Int))
  clear hL hm hH hblk
  go_enter Tryz.func237, Tryz.ntmps237
  go_wp2_with fail
  refine (Pow9 L (by omega) hL9 _).mono ?_
  rintro e w' ⟨M, rfl, hM1, hM2, rfl⟩
  have HAl : Hid (At9 w blk off d (w.alloc (.cells #[.int .u64 (L : Int)] 327))) := Lib.hid ⟨0, #[Obj.cells #[.int .u64 (L : Int)] 327], by rw [Go.Sort.ahead_zero, putRow_self _ _ _ _ _ HH.out, Go.Sort.alloc_eq_grow]⟩
  obtain ⟨w9, hw9⟩ : ∃ W, W = w.alloc (.cells #[.int .u64 (L : Int)] 327) := ⟨_, rfl⟩
  rw [← hw9] at HAl HU ⊢
  clear hw9
  obtain ⟨k0, hk0⟩ : ∃ k0 : Nat, k0 + 1 = a + m * 2 := ⟨a + m * 2 - 1, by omega⟩
  have E4 := Lib.hid (show (a : Int) + (m : Int) * 2 - 1 = (k0 : Int) by omega)
  have HK := Lib.hid hk0
  clear hk0
  obtain ⟨sb, hsb⟩ : ∃ sb, sb = w.heap.size := ⟨_, rfl⟩
  rw [← hsb] at HU hne ⊢
  have HSB := Lib.hid (show w.heap.size ≤ sb by omega)
  clear hsb w1
  go_wp2_with fail
  rw [E4.out]
  go_loopw [9, 10] (BkRel d a b (m * 2) sb blk off w) (fun i _ _ => (a + m * 2 + 3 : Int) - intOf i |>.toNat)
  case atStart => exact ⟨k0, d, (L : Int), rfl, by have := HK.out; omega, by have := HK.out; omega, permIn_refl _ _ _, by omega, HU.out, HAl.out⟩
  case round =>
    obtain ⟨k, e, v, rfl, hk1, hk2, hP, hv, hU, hA⟩ := hrel
    have hes : e.size = n := hP.1.trans hn
    have HP := Lib.hid hP
    have HU2 := Lib.hid hU
    have HA2 := Lib.hid hA
    have HV := Lib.hid hv
    clear hP hU hA hv
    go_wp2_with fail
    · refine (Xor9 sb v _ HU2.out HV.out).mono ?_
      rintro x w5 ⟨v2, rfl, hv1, hv2, hr⟩
      obtain ⟨y, hy, hy2⟩ := and_low ⟨hv1, hv2⟩ hM1 hM2 hL9
      have HA3 := Lib.hid (HA2.out.box hr HSB.out)
      have HU3 := Lib.hid (hr.count HU2.out)
      have HV2 := Lib.hid (And.intro hv1 hv2)
      clear hr hv1 hv2 HU2 HA2 HV
      go_wp2_with fail
      · obtain ⟨z, hz⟩ : ∃ z : Nat, y = L + z := ⟨y - L, by omega⟩
        rw [show (y : Int) - (L : Int) = (z : Int) by omega]
        have hzL : z < L := by omega
        obtain ⟨p, hp⟩ : ∃ p : Nat, p = a + z := ⟨_, rfl⟩
        have hpb : p < b := by omega
        have hpn : p < n := by omega
        have hkn : k < n := by omega
        have hkb : k < b := by omega
        have hak : a ≤ k := by omega
        have hap : a ≤ p := by omega
        have w6 : IntKind.i64.wrap ((a : Int) + (z : Int)) = (p : Int) := by rw [IntKind.wrap_i64]; omega
        obtain ⟨hH5, hb5⟩ := HA3.out.holds HH.out (by rw [hes, hn]) HB.out
        obtain ⟨G, hG, hc, hf⟩ := (Rw9.refl hH5).fam hH5 rfl
        rw [hes] at hc hf
        obtain ⟨v9, hv9⟩ := cell?_setCell_some (w := w5) (p := ⟨blk, off + k, none⟩) (x := .int .i32 (G p)) (q := ⟨blk, off + p, none⟩) (hc p hpn)
        have HH5 := Lib.hid hH5
        have HG := Lib.hid hG
        clear hH5 hG hp
        go_wp2_with fail
        go_region
        have hR6 := ((Rw9.refl HH5.out).swap (i := k) (j := p) (by omega) (by omega) (HG.out _) (HG.out _)).drew
        obtain ⟨w7, hw7⟩ : ∃ W, W = ((w5.setCell ⟨blk, off + k, none⟩ (eD (G p))).setCell ⟨blk, off + p, none⟩ (eD (G k))).drew := ⟨_, rfl⟩
        rw [← hw7] at hR6 ⊢
        have HA4 := Lib.hid (HA3.out.step HB.out (size_swp _ _ _) hR6)
        have HU4 := Lib.hid (HU3.out.past hR6 hne)
        have HP4 := Lib.hid (permIn_trans _ _ _ _ _ HP.out (swp_permIn _ _ _ _ _ hak hkb hap hpb (by omega)))
        clear hw7 hR6 hv9 hc hf w6 HH5 HG
        go_wp2_with fail
        go_roundw
        case rel => exact ⟨k + 1, swp e k p, v2, by go_num, by omega, by omega, HP4.out, HV2.out, HU4.out, HA4.out⟩
        case measure => simp [intOf]; omega
      · obtain ⟨z, hz⟩ : ∃ z : Nat, y = z := ⟨y, rfl⟩
        have hzL : z < L := by omega
        subst hz
        obtain ⟨p, hp⟩ : ∃ p : Nat, p = a + y := ⟨_, rfl⟩
        have hpb : p < b := by omega
        have hpn : p < n := by omega
        have hkn : k < n := by omega
        have hkb : k < b := by omega
        have hak : a ≤ k := by omega
        have hap : a ≤ p := by omega
        have w6 : IntKind.i64.wrap ((a : Int) + (y : Int)) = (p : Int) := by rw [IntKind.wrap_i64]; omega
        obtain ⟨hH5, hb5⟩ := HA3.out.holds HH.out (by rw [hes, hn]) HB.out
        obtain ⟨G, hG, hc, hf⟩ := (Rw9.refl hH5).fam hH5 rfl
        rw [hes] at hc hf
        obtain ⟨v9, hv9⟩ := cell?_setCell_some (w := w5) (p := ⟨blk, off + k, none⟩) (x := .int .i32 (G p)) (q := ⟨blk, off + p, none⟩) (hc p hpn)
        have HH5 := Lib.hid hH5
        have HG := Lib.hid hG
        clear hH5 hG hp
        go_wp2_with fail
        go_region
        have hR6 := ((Rw9.refl HH5.out).swap (i := k) (j := p) (by omega) (by omega) (HG.out _) (HG.out _)).drew
        obtain ⟨w7, hw7⟩ : ∃ W, W = ((w5.setCell ⟨blk, off + k, none⟩ (eD (G p))).setCell ⟨blk, off + p, none⟩ (eD (G k))).drew := ⟨_, rfl⟩
        rw [← hw7] at hR6 ⊢
        have HA4 := Lib.hid (HA3.out.step HB.out (size_swp _ _ _) hR6)
        have HU4 := Lib.hid (HU3.out.past hR6 hne)
        have HP4 := Lib.hid (permIn_trans _ _ _ _ _ HP.out (swp_permIn _ _ _ _ _ hak hkb hap hpb (by omega)))
        clear hw7 hR6 hv9 hc hf w6 HH5 HG
        go_wp2_with fail
        go_roundw
        case rel => exact ⟨k + 1, swp e k p, v2, by go_num, by omega, by omega, HP4.out, HV2.out, HU4.out, HA4.out⟩
        case measure => simp [intOf]; omega
    · go_end0
      exact ⟨rfl, e, HP.out, HA2.out⟩
end Go.Proofs.YtpbfipeinblfgaaGreatDoor
namespace Go.Proofs.YtpbfipeinblfgaaGreatDoor
open Go.RowKit
open Go.Sort (putRow Holds swp ltInt PermIn size_swp scanUp scanDown partEqLoop partLoop partitionEqual partition)

theorem up_go {p : Int → Bool} {d : Array Int} {j i : Nat} (h : i ≤ j) (hp : p d[i]! = true) : scanUp p d j i = scanUp p d j (i + 1) := by rw [scanUp, if_pos (by simp [h, hp])]
theorem up_end {p : Int → Bool} {d : Array Int} {j i : Nat} (h : ¬ i ≤ j ∨ p d[i]! = false) : scanUp p d j i = i := by rw [scanUp, if_neg (by rcases h with h | h <;> simp [h])]
theorem down_go {p : Int → Bool} {d : Array Int} {i j : Nat} (h : i ≤ j + 1) (hp : p d[j + 1]! = true) : scanDown p d i (j + 1) = scanDown p d i j := by rw [scanDown, if_pos (by simp [h, hp])]
theorem down_end {p : Int → Bool} {d : Array Int} {i j : Nat} (h : ¬ i ≤ j ∨ p d[j]! = false) : scanDown p d i j = j := by
  cases j with
  | zero => rfl
  | succ k => rw [scanDown, if_neg (by rcases h with h | h <;> simp [h])]
/-- Where the two scans stop. -/
theorem scans {p q : Int → Bool} (hq : ∀ x, q x = !p x) {d : Array Int} {i j i2 j2 : Nat} (h0 : 0 < i) (hij : i ≤ j + 1) (e1 : i2 = scanUp p d j i) (e2 : j2 = scanDown q d i2 j) :
    i ≤ i2 ∧ i2 ≤ j + 1 ∧ j2 ≤ j ∧ i2 ≤ j2 + 1 ∧ (i2 ≤ j2 → i2 < j2) := by
  obtain ⟨u1, u2, _, u4⟩ := Go.Sort.scanUp_spec p d j _ i rfl
  rw [← e1] at u1 u2 u4
  obtain ⟨v1, v2, _, v4⟩ := Go.Sort.scanDown_spec q d i2 j
  rw [← e2] at v1 v2 v4
  have hu := u2 hij
  refine ⟨u1, hu, v1, v2 hu, fun h => ?_⟩
  rcases Nat.lt_or_ge i2 j2 with h' | h'
  · exact h'
  · have e : i2 = j2 := by omega
    have f1 := u4 (by omega)
    have f2 := v4 h (by omega)
    rw [hq, ← e, f1] at f2
    cases f2
theorem pe_break {e : Array Int} {a i j i2 j2 : Nat} (h1 : i2 = scanUp (fun x => (!ltInt e[a]! x)) e j i) (h2 : j2 = scanDown (fun x => ltInt e[a]! x) e i2 j) (h : j2 < i2) : partEqLoop ltInt a i j e = (i2, e) := by
  subst h1; subst h2; rw [Go.Sort.partEqLoop_eq, if_pos h]
theorem pe_go {e : Array Int} {a i j i2 j2 : Nat} (h1 : i2 = scanUp (fun x => (!ltInt e[a]! x)) e j i) (h2 : j2 = scanDown (fun x => ltInt e[a]! x) e i2 j) (h : ¬ j2 < i2) : partEqLoop ltInt a i j e = partEqLoop ltInt a (i2 + 1) (j2 - 1) (swp e i2 j2) := by
  subst h1; subst h2; rw [Go.Sort.partEqLoop_eq, if_neg h]
theorem pl_break {e : Array Int} {a i j i2 j2 : Nat} (h1 : i2 = scanUp (fun x => ltInt x e[a]!) e j i) (h2 : j2 = scanDown (fun x => (!ltInt x e[a]!)) e i2 j) (h : j2 < i2) : partLoop ltInt a i j e = (j2, e) := by
  subst h1; subst h2; rw [Go.Sort.partLoop_eq, if_pos h]
theorem pl_go {e : Array Int} {a i j i2 j2 : Nat} (h1 : i2 = scanUp (fun x => ltInt x e[a]!) e j i) (h2 : j2 = scanDown (fun x => (!ltInt x e[a]!)) e i2 j) (h : ¬ j2 < i2) : partLoop ltInt a i j e = partLoop ltInt a (i2 + 1) (j2 - 1) (swp e i2 j2) := by
  subst h1; subst h2; rw [Go.Sort.partLoop_eq, if_neg h]
def UpRel (p : Int → Bool) (e : Array Int) (i j : Nat) (w : World) (x : Value) (w' : World) : Prop := ∃ k q : Nat, x = .int .i64 k ∧ i ≤ k ∧ k ≤ j + 1 ∧ w' = w.drewN q ∧ scanUp p e j k = scanUp p e j i
def DnRel (p : Int → Bool) (e : Array Int) (i j : Nat) (w : World) (x : Value) (w' : World) : Prop := ∃ k q : Nat, x = .int .i64 k ∧ i ≤ k + 1 ∧ k ≤ j ∧ w' = w.drewN q ∧ scanDown p e i k = scanDown p e i j

def PeRel (d : Array Int) (a b pivot blk off n : Nat) (w : World) (x y : Value) (w' : World) : Prop :=
  ∃ i j : Nat, ∃ e : Array Int, x = .int .i64 i ∧ y = .int .i64 j ∧ a < i ∧ i ≤ j + 1 ∧ j < b ∧ e.size = n ∧ Rw9 w blk off e w' ∧ partEqLoop ltInt a i j e = partEqLoop ltInt a (a + 1) (b - 1) (swp d a pivot)
set_option maxRecDepth 20000 in
set_option maxHeartbeats 4000000 in
theorem PartEq9 (n blk off cap a b pivot : Nat) (d : Array Int) (w : World) (hn : d.size = n) (hH : Holds eD w blk off d) (hap : a ≤ pivot) (hpb : pivot < b) (hb : b ≤ n) (hsz : n ≤ 1000000) :
    Calls Tryz.prog 241 #[.slice (some ⟨blk, off, none⟩) n cap, .int .i64 a, .int .i64 b, .int .i64 pivot] w fun e w' =>
      e = .returned (.int .i64 ((partitionEqual ltInt d a b pivot).1 : Nat)) ∧ Rw9 w blk off (partitionEqual ltInt d a b pivot).2 w' := by
  have hE : partitionEqual ltInt d a b pivot = partEqLoop ltInt a (a + 1) (b - 1) (swp d a pivot) := rfl
  rw [hE]
  clear hE
  obtain ⟨T, hT⟩ : ∃ T, T = partEqLoop ltInt a (a + 1) (b - 1) (swp d a pivot) := ⟨_, rfl⟩
  rw [← hT]
  have HT := Lib.hid hT
  obtain ⟨G, hG, hc, hf⟩ := (Rw9.refl hH).fam hH rfl
  rw [hn] at hc hf
  have han : a < n := by omega
  have hpn : pivot < n := by omega
  obtain ⟨v9, hv9⟩ := cell?_setCell_some (w := w) (p := ⟨blk, off + a, none⟩) (x := .int .i32 (G pivot)) (q := ⟨blk, off + pivot, none⟩) (hc pivot hpn)
  have HH := Lib.hid hH
  have HG := Lib.hid hG
  clear hH hG hT
  go_enter Tryz.func241, Tryz.ntmps241
  go_wp2
  go_region
  have hR0 := ((Rw9.refl HH.out).swap (i := a) (j := pivot) (by omega) (by omega) (HG.out _) (HG.out _)).drew
  obtain ⟨w0, hw0⟩ : ∃ W, W = ((w.setCell ⟨blk, off + a, none⟩ (eD (G pivot))).setCell ⟨blk, off + pivot, none⟩ (eD (G a))).drew := ⟨_, rfl⟩
  rw [← hw0] at hR0 ⊢
  have HR0 := Lib.hid hR0
  clear hw0 hR0 hc hf HG hv9
  go_wp2_with fail
  go_loopw [9, 10] (PeRel d a b pivot blk off n w) (fun x y _ => (intOf y).toNat + 1 - (intOf x).toNat)
  case atStart => exact ⟨a + 1, b - 1, swp d a pivot, by go_num, by congr 1; omega, by omega, by omega, by omega, by rw [size_swp]; exact hn, HR0.out, rfl⟩
  case round =>
    obtain ⟨i, j, e, rfl, rfl, hai, hij, hjb, hes, hR, hO⟩ := hrel
    obtain ⟨G, hG, hc, hf⟩ := hR.fam HH.out (hes.trans hn.symm)
    rw [hn] at hc hf
    have HR := Lib.hid hR
    have HG := Lib.hid hG
    have HO := Lib.hid hO
    have hjn : j < n := by omega
    clear hR hG hO HR0
    obtain ⟨W, hWr⟩ : ∃ W, W = wr := ⟨_, rfl⟩
    rw [← hWr] at HR hc hf ⊢
    clear hWr
    go_upto_block 2 with fail
    go_cut [9] from 29 to 45 (fun x wx => x = .int .i64 ((scanUp (fun x => (!ltInt e[a]! x)) e j i : Nat) : Int) ∧ ∃ q, wx = W.drewN q)
    case first =>
      go_wp2_with fail
      go_loopw [9] (UpRel (fun x => (!ltInt e[a]! x)) e i j W) (fun x _ => j + 1 - (intOf x).toNat)
      case atStart => exact ⟨i, 0, rfl, Nat.le_refl _, hij, rfl, rfl⟩
      case round =>
        obtain ⟨k, q, rfl, hk1, hk2, hw, hs⟩ := hrel
        have hcw : ∀ t, t < n → wr.cell? ⟨blk, off + t, none⟩ = some (.int .i32 (G t)) := by rw [hw]; exact hc
        have HW := Lib.hid hw
        have HS := Lib.hid hs
        clear hw hs hc hf
        go_wp2_with fail
        by_cases hle : k ≤ j
        · have hkn : k < n := by omega
          go_quiet (first | (go_at_call 213; refine Calls.quiet_of_same (Less9 _ _ _)))
          go_wp2
          · have hl0 : (!ltInt (G a) (G k)) = true := by assumption
            have hl : ltInt (G a) (G k) = false := by simpa using hl0
            go_roundw
            case rel => exact ⟨k + 1, q + nq, by go_num, by omega, by omega, by rw [HW.out, World.drewN_drewN], by rw [← HS.out, up_go hle (by show (!ltInt e[a]! e[k]!) = true; rw [← HG.out, ← HG.out, hl]; rfl)]⟩
            case measure => simp [intOf]; omega
          · have hl0 : (!ltInt (G a) (G k)) = false := by assumption
            have hl : ltInt (G a) (G k) = true := by simpa using hl0
            go_meet
            case rel => exact ⟨by rw [← HS.out, up_end (.inr (by show (!ltInt e[a]! e[k]!) = false; rw [← HG.out, ← HG.out, hl]; rfl))], q + nq, by rw [HW.out, World.drewN_drewN]⟩
        · go_quiet (first | (go_at_call 213; refine Calls.quiet_of_same (Less9 _ _ _)))
          go_wp2
          go_meet
          case rel => exact ⟨by rw [← HS.out, up_end (.inl hle)], q + nq, by rw [HW.out, World.drewN_drewN]⟩
    case rest =>
      obtain ⟨rfl, q9, hq9⟩ := hcut
      have hR9 := HR.out.drewN q9
      have hc9 : ∀ t, t < n → wc.cell? ⟨blk, off + t, none⟩ = some (.int .i32 (G t)) := by rw [hq9]; exact hc
      have hf9 : ∀ t, t < n → wc.frozen? ⟨blk, off + t, none⟩ = false := by rw [hq9]; exact hf
      rw [← hq9] at hR9
      have HR9 := Lib.hid hR9
      clear hR9 hq9 hc hf HR
      obtain ⟨i2, hi2⟩ : ∃ i2, i2 = scanUp (fun x => (!ltInt e[a]! x)) e j i := ⟨_, rfl⟩
      rw [← hi2]
      have hi3 : i ≤ i2 ∧ i2 ≤ j + 1 := by
        obtain ⟨u1, u2, _, _⟩ := Go.Sort.scanUp_spec (fun x => (!ltInt e[a]! x)) e j _ i rfl
        rw [← hi2] at u1 u2
        exact ⟨u1, u2 hij⟩
      obtain ⟨hi4, hi5⟩ := hi3
      have HI2 := Lib.hid hi2
      clear hi2
      rename World => W2
      have hc := hc9
      have hf := hf9
      have HR := HR9
      clear hc9 hf9 HR9
      go_upto_block 4 with fail
      go_cut [10] from 46 to 61 (fun x wx => x = .int .i64 ((scanDown (fun x => ltInt e[a]! x) e i2 j : Nat) : Int) ∧ ∃ q, wx = W2.drewN q)
      case first =>
        go_wp2_with fail
        go_loopw [10] (DnRel (fun x => ltInt e[a]! x) e i2 j W2) (fun x _ => (intOf x).toNat)
        case atStart => exact ⟨j, 0, rfl, by omega, Nat.le_refl _, rfl, rfl⟩
        case round =>
          obtain ⟨k, q, rfl, hk1, hk2, hw, hs⟩ := hrel
          have hcw : ∀ t, t < n → wr.cell? ⟨blk, off + t, none⟩ = some (.int .i32 (G t)) := by rw [hw]; exact hc
          have HW := Lib.hid hw
          have HS := Lib.hid hs
          clear hw hs hc hf
          go_wp2_with fail
          by_cases hle : i2 ≤ k
          · obtain ⟨k, rfl⟩ : ∃ k', k = k' + 1 := ⟨k - 1, by omega⟩
            have hkn : k + 1 < n := by omega
            have hle9 : (i2 : Int) ≤ (k : Int) + 1 := by omega
            go_quiet (first | (go_at_call 213; refine Calls.quiet_of_same (Less9 _ _ _)))
            go_wp2
            · have hl : ltInt (G a) (G (k + 1)) = true := by assumption
              go_roundw
              case rel => exact ⟨k, q + nq, by first | rfl | (congr 1; omega), by omega, by omega, by rw [HW.out, World.drewN_drewN], by rw [← HS.out, down_go hle (by show ltInt e[a]! e[k + 1]! = true; rw [← HG.out, ← HG.out, hl])]⟩
              case measure => simp [intOf]
            · have hl : ltInt (G a) (G (k + 1)) = false := by assumption
              go_meet
              case rel => exact ⟨by rw [← HS.out, down_end (.inr (by show ltInt e[a]! e[k + 1]! = false; rw [← HG.out, ← HG.out, hl]))], q + nq, by rw [HW.out, World.drewN_drewN]⟩
          · go_quiet (first | (go_at_call 213; refine Calls.quiet_of_same (Less9 _ _ _)))
            go_wp2
            go_meet
            case rel => exact ⟨by rw [← HS.out, down_end (.inl hle)], q + nq, by rw [HW.out, World.drewN_drewN]⟩
      case rest =>
        obtain ⟨rfl, q9, hq9⟩ := hcut
        have hR9 := HR.out.drewN q9
        have hc9 : ∀ t, t < n → wc.cell? ⟨blk, off + t, none⟩ = some (.int .i32 (G t)) := by rw [hq9]; exact hc
        have hf9 : ∀ t, t < n → wc.frozen? ⟨blk, off + t, none⟩ = false := by rw [hq9]; exact hf
        rw [← hq9] at hR9
        have HR9 := Lib.hid hR9
        clear hR9 hq9 hc hf HR
        obtain ⟨j2, hj2⟩ : ∃ j2, j2 = scanDown (fun x => ltInt e[a]! x) e i2 j := ⟨_, rfl⟩
        rw [← hj2]
        obtain ⟨s1, s2, s3, s4, s5⟩ := scans (p := fun x => (!ltInt e[a]! x)) (q := fun x => ltInt e[a]! x) (fun x => by simp) (show 0 < i by omega) hij HI2.out hj2
        have HJ2 := Lib.hid hj2
        clear hj2
        rename World => W3
        have hc := hc9
        have hf := hf9
        have HR := HR9
        clear hc9 hf9 HR9
        by_cases hle : j2 < i2
        · go_wp2_with fail
          go_ret
          rw [HT.out, ← HO.out, pe_break HI2.out HJ2.out hle]
          exact ⟨rfl, HR.out⟩
        · have hlt := s5 (by omega)
          have hi2n : i2 < n := by omega
          have hj2n : j2 < n := by omega
          go_wp2_with fail
          go_region
          have hR0 := (HR.out.swap (i := i2) (j := j2) (by omega) (by omega) (HG.out _) (HG.out _)).drew
          obtain ⟨w9, hw9⟩ : ∃ W, W = ((W3.setCell ⟨blk, off + i2, none⟩ (eD (G j2))).setCell ⟨blk, off + j2, none⟩ (eD (G i2))).drew := ⟨_, rfl⟩
          rw [← hw9] at hR0
          have HR5 := Lib.hid hR0
          clear hR0
          first | rw [← hw9] | (rw [show ((W3.drew.setCell ⟨blk, off + i2, none⟩ (eD (G j2))).setCell ⟨blk, off + j2, none⟩ (eD (G i2))) = w9 from hw9.symm])
          clear hw9 hc hf
          go_wp2_with fail
          go_roundw
          case rel => exact ⟨i2 + 1, j2 - 1, swp e i2 j2, by go_num, by congr 1; omega, by omega, by omega, by omega, by rw [size_swp]; exact hes, HR5.out, by rw [← pe_go HI2.out HJ2.out hle]; exact HO.out⟩
          case measure => simp [intOf]; omega
end Go.Proofs.YtpbfipeinblfgaaGreatDoor
namespace Go.Proofs.YtpbfipeinblfgaaGreatDoor
open Go.RowKit
open Go.Sort (putRow Holds swp ltInt PermIn size_swp scanUp scanDown partLoop partition)
def PtRel (T : Nat × Array Int) (a b blk off n : Nat) (w : World) (x y : Value) (w' : World) : Prop :=
  ∃ i j : Nat, ∃ e : Array Int, x = .int .i64 i ∧ y = .int .i64 j ∧ a < i ∧ i ≤ j + 1 ∧ j < b ∧ e.size = n ∧ Rw9 w blk off e w' ∧ partLoop ltInt a i j e = T
set_option maxRecDepth 20000 in
set_option maxHeartbeats 8000000 in
theorem Part9 (n blk off cap a b pivot : Nat) (d : Array Int) (w : World) (hn : d.size = n) (hH : Holds eD w blk off d) (hap : a ≤ pivot) (hpb : pivot < b) (hb : b ≤ n) (hsz : n ≤ 1000000) :
    Calls Tryz.prog 242 #[.slice (some ⟨blk, off, none⟩) n cap, .int .i64 a, .int .i64 b, .int .i64 pivot] w fun e w' =>
      ∃ q : Bool, e = .returned (.tuple #[.int .i64 ((partition ltInt d a b pivot).1 : Nat), .bool q]) ∧ Rw9 w blk off (partition ltInt d a b pivot).2.2 w' := by
  rw [Go.Sort.partition_fst, Go.Sort.partition_arr]
  obtain ⟨T, hT⟩ : ∃ T, partLoop ltInt a (a + 1) (b - 1) (swp d a pivot) = T := ⟨_, rfl⟩
  rw [hT]
  obtain ⟨G, hG, hc, hf⟩ := (Rw9.refl hH).fam hH rfl
  rw [hn] at hc hf
  have han : a < n := by omega
  have hpn : pivot < n := by omega
  obtain ⟨v9, hv9⟩ := cell?_setCell_some (w := w) (p := ⟨blk, off + a, none⟩) (x := .int .i32 (G pivot)) (q := ⟨blk, off + pivot, none⟩) (hc pivot hpn)
  have HH := Lib.hid hH
  have HG := Lib.hid hG
  have HT := Lib.hid hT
  clear hH hG hT
  go_enter Tryz.func242, Tryz.ntmps242
  go_wp2
  go_region
  have hR0 := ((Rw9.refl HH.out).swap (i := a) (j := pivot) (by omega) (by omega) (HG.out _) (HG.out _)).drew
  obtain ⟨W, hw0⟩ : ∃ W, W = ((w.setCell ⟨blk, off + a, none⟩ (eD (G pivot))).setCell ⟨blk, off + pivot, none⟩ (eD (G a))).drew := ⟨_, rfl⟩
  rw [← hw0] at hR0 ⊢
  obtain ⟨i, hi⟩ : ∃ i : Nat, i = a + 1 := ⟨_, rfl⟩
  obtain ⟨j, hj⟩ : ∃ j : Nat, j + 1 = b := ⟨b - 1, by omega⟩
  obtain ⟨e, he⟩ : ∃ e, e = swp d a pivot := ⟨_, rfl⟩
  rw [← he] at hR0
  have HO : Hid (partLoop ltInt a i j e = T) := Lib.hid (by rw [hi, he, show j = b - 1 by omega]; exact HT.out)
  have hes : e.size = n := by rw [he, size_swp]; exact hn
  have hai : a < i := by omega
  have hij : i ≤ j + 1 := by omega
  have hjb : j < b := by omega
  have hjn : j < n := by omega
  have HIJ := Lib.hid (show ((a : Int) + 1 = (i : Int)) ∧ ((b : Int) - 1 = (j : Int)) by omega)
  clear hw0 hc hf HG hv9 hi hj he HT
  obtain ⟨G, hG, hc, hf⟩ := hR0.fam HH.out (hes.trans hn.symm)
  rw [hn] at hc hf
  have HR := Lib.hid hR0
  have HG := Lib.hid hG
  clear hR0 hG
  go_upto_block 0 with fail
  rw [HIJ.out.1, HIJ.out.2]
  go_cut [10] from 30 to 45 (fun x wx => x = .int .i64 ((scanUp (fun x => ltInt x e[a]!) e j i : Nat) : Int) ∧ ∃ q, wx = W.drewN q)
  case first =>
    go_wp2_with fail
    go_loopw [10] (UpRel (fun x => ltInt x e[a]!) e i j W) (fun x _ => j + 1 - (intOf x).toNat)
    case atStart => exact ⟨i, 0, rfl, Nat.le_refl _, hij, rfl, rfl⟩
    case round =>
      obtain ⟨k, q, rfl, hk1, hk2, hw, hs⟩ := hrel
      have hcw : ∀ t, t < n → wr.cell? ⟨blk, off + t, none⟩ = some (.int .i32 (G t)) := by rw [hw]; exact hc
      have HW := Lib.hid hw
      have HS := Lib.hid hs
      clear hw hs hc hf
      go_wp2_with fail
      by_cases hle : k ≤ j
      · have hkn : k < n := by omega
        go_quiet (first | (go_at_call 213; refine Calls.quiet_of_same (Less9 _ _ _)))
        go_wp2
        · have hl : ltInt (G k) (G a) = true := by assumption
          go_roundw
          case rel => exact ⟨k + 1, q + nq, by go_num, by omega, by omega, by rw [HW.out, World.drewN_drewN], by rw [← HS.out, up_go hle (by show ltInt e[k]! e[a]! = true; rw [← HG.out, ← HG.out, hl])]⟩
          case measure => simp [intOf]; omega
        · have hl : ltInt (G k) (G a) = false := by assumption
          go_meet
          case rel => exact ⟨by rw [← HS.out, up_end (.inr (by show ltInt e[k]! e[a]! = false; rw [← HG.out, ← HG.out, hl]))], q + nq, by rw [HW.out, World.drewN_drewN]⟩
      · go_quiet (first | (go_at_call 213; refine Calls.quiet_of_same (Less9 _ _ _)))
        go_wp2
        go_meet
        case rel => exact ⟨by rw [← HS.out, up_end (.inl hle)], q + nq, by rw [HW.out, World.drewN_drewN]⟩
  case rest =>
    obtain ⟨rfl, q9, hq9⟩ := hcut
    have hR9 := HR.out.drewN q9
    have hc9 : ∀ t, t < n → wc.cell? ⟨blk, off + t, none⟩ = some (.int .i32 (G t)) := by rw [hq9]; exact hc
    have hf9 : ∀ t, t < n → wc.frozen? ⟨blk, off + t, none⟩ = false := by rw [hq9]; exact hf
    rw [← hq9] at hR9
    have HR9 := Lib.hid hR9
    clear hR9 hq9 hc hf HR
    obtain ⟨i2, hi2⟩ : ∃ i2, i2 = scanUp (fun x => ltInt x e[a]!) e j i := ⟨_, rfl⟩
    rw [← hi2]
    have hi3 : i ≤ i2 ∧ i2 ≤ j + 1 := by
      obtain ⟨u1, u2, _, _⟩ := Go.Sort.scanUp_spec (fun x => ltInt x e[a]!) e j _ i rfl
      rw [← hi2] at u1 u2
      exact ⟨u1, u2 hij⟩
    obtain ⟨hi4, hi5⟩ := hi3
    have HI2 := Lib.hid hi2
    clear hi2
    rename World => W2
    have hc := hc9
    have hf := hf9
    have HR := HR9
    clear hc9 hf9 HR9
    go_upto_block 2 with fail
    go_cut [11] from 46 to 62 (fun x wx => x = .int .i64 ((scanDown (fun x => (!ltInt x e[a]!)) e i2 j : Nat) : Int) ∧ ∃ q, wx = W2.drewN q)
    case first =>
      go_wp2_with fail
      go_loopw [11] (DnRel (fun x => (!ltInt x e[a]!)) e i2 j W2) (fun x _ => (intOf x).toNat)
      case atStart => exact ⟨j, 0, rfl, by omega, Nat.le_refl _, rfl, rfl⟩
      case round =>
        obtain ⟨k, q, rfl, hk1, hk2, hw, hs⟩ := hrel
        have hcw : ∀ t, t < n → wr.cell? ⟨blk, off + t, none⟩ = some (.int .i32 (G t)) := by rw [hw]; exact hc
        have HW := Lib.hid hw
        have HS := Lib.hid hs
        clear hw hs hc hf
        go_wp2_with fail
        by_cases hle : i2 ≤ k
        · obtain ⟨k, rfl⟩ : ∃ k', k = k' + 1 := ⟨k - 1, by omega⟩
          have hkn : k + 1 < n := by omega
          have hle9 : (i2 : Int) ≤ (k : Int) + 1 := by omega
          go_quiet (first | (go_at_call 213; refine Calls.quiet_of_same (Less9 _ _ _)))
          go_wp2
          · have hl0 : (!ltInt (G (k + 1)) (G a)) = true := by assumption
            have hl : ltInt (G (k + 1)) (G a) = false := by simpa using hl0
            go_roundw
            case rel => exact ⟨k, q + nq, by first | rfl | (congr 1; omega), by omega, by omega, by rw [HW.out, World.drewN_drewN], by rw [← HS.out, down_go hle (by show (!ltInt e[k + 1]! e[a]!) = true; rw [← HG.out, ← HG.out, hl]; rfl)]⟩
            case measure => simp [intOf]
          · have hl0 : (!ltInt (G (k + 1)) (G a)) = false := by assumption
            have hl : ltInt (G (k + 1)) (G a) = true := by simpa using hl0
            go_meet
            case rel => exact ⟨by rw [← HS.out, down_end (.inr (by show (!ltInt e[k + 1]! e[a]!) = false; rw [← HG.out, ← HG.out, hl]; rfl))], q + nq, by rw [HW.out, World.drewN_drewN]⟩
        · go_quiet (first | (go_at_call 213; refine Calls.quiet_of_same (Less9 _ _ _)))
          go_wp2
          go_meet
          case rel => exact ⟨by rw [← HS.out, down_end (.inl hle)], q + nq, by rw [HW.out, World.drewN_drewN]⟩
    case rest =>
      obtain ⟨rfl, q9, hq9⟩ := hcut
      have hR9 := HR.out.drewN q9
      have hc9 : ∀ t, t < n → wc.cell? ⟨blk, off + t, none⟩ = some (.int .i32 (G t)) := by rw [hq9]; exact hc
      have hf9 : ∀ t, t < n → wc.frozen? ⟨blk, off + t, none⟩ = false := by rw [hq9]; exact hf
      rw [← hq9] at hR9
      have HR9 := Lib.hid hR9
      clear hR9 hq9 hc hf HR
      obtain ⟨j2, hj2⟩ : ∃ j2, j2 = scanDown (fun x => (!ltInt x e[a]!)) e i2 j := ⟨_, rfl⟩
      rw [← hj2]
      obtain ⟨s1, s2, s3, s4, s5⟩ := scans (p := fun x => ltInt x e[a]!) (q := fun x => (!ltInt x e[a]!)) (fun x => by simp) (show 0 < i by omega) hij HI2.out hj2
      have HJ2 := Lib.hid hj2
      clear hj2
      rename World => W3
      have hc := hc9
      have hf := hf9
      have HR := HR9
      clear hc9 hf9 HR9
      have hj2n : j2 < n := by omega
      have haj : a ≤ j2 := by omega
      by_cases hle : j2 < i2
      · obtain ⟨v9, hv9⟩ := cell?_setCell_some (w := W3) (p := ⟨blk, off + j2, none⟩) (x := .int .i32 (G a)) (q := ⟨blk, off + a, none⟩) (hc a han)
        go_wp2_with fail
        go_region
        have hR0 := (HR.out.swap (i := j2) (j := a) (by omega) (by omega) (HG.out _) (HG.out _)).drew
        have hT9 : T = (j2, e) := by rw [← HO.out, pl_break HI2.out HJ2.out hle]
        have HR5 := Lib.hid hR0
        have HT9 := Lib.hid hT9
        obtain ⟨w9, hw9⟩ : ∃ W, W = ((W3.setCell ⟨blk, off + j2, none⟩ (eD (G a))).setCell ⟨blk, off + a, none⟩ (eD (G j2))).drew := ⟨_, rfl⟩
        have HR5 := HR5.out
        rw [← hw9] at HR5 ⊢
        have HR6 := Lib.hid HR5
        clear hR0 hT9 HR5 hw9 hv9 hc hf
        go_wp2_with fail
        go_ret2
        rw [HT9.out]
        exact ⟨_, rfl, HR6.out⟩
      · have hlt := s5 (by omega)
        have hi2n : i2 < n := by omega
        go_wp2_with fail
        go_region
        have hR0 := (HR.out.swap (i := i2) (j := j2) (by omega) (by omega) (HG.out _) (HG.out _)).drew
        obtain ⟨w9, hw9⟩ : ∃ W, W = ((W3.setCell ⟨blk, off + i2, none⟩ (eD (G j2))).setCell ⟨blk, off + j2, none⟩ (eD (G i2))).drew := ⟨_, rfl⟩
        rw [← hw9] at hR0
        have HR5 := Lib.hid hR0
        have HO5 : Hid (partLoop ltInt a (i2 + 1) (j2 - 1) (swp e i2 j2) = T) := Lib.hid (by rw [← pl_go HI2.out HJ2.out hle]; exact HO.out)
        clear hR0
        first | rw [← hw9] | rw [show ((W3.drew.setCell ⟨blk, off + i2, none⟩ (eD (G j2))).setCell ⟨blk, off + j2, none⟩ (eD (G i2))) = w9 from hw9.symm]
        clear hw9 hc hf
        go_wp2_with fail
        go_loopw [10, 11] (PtRel T a b blk off n w) (fun x y _ => (intOf y).toNat + 1 - (intOf x).toNat)
        case atStart => exact ⟨i2 + 1, j2 - 1, swp e i2 j2, by go_num, by congr 1; omega, by omega, by omega, by omega, by rw [size_swp]; exact hes, HR5.out, HO5.out⟩
        case round =>
          clear HR5 HO5 HI2 HJ2 HR HG HO hes hai hij hjb hjn hi4 hi5 s1 s2 s3 s4 s5 hlt hle hi2n hj2n haj
          obtain ⟨i, j, e, rfl, rfl, hai, hij, hjb, hes, hR, hO⟩ := hrel
          obtain ⟨G, hG, hc, hf⟩ := hR.fam HH.out (hes.trans hn.symm)
          rw [hn] at hc hf
          have HR := Lib.hid hR
          have HG := Lib.hid hG
          have HO := Lib.hid hO
          have hjn : j < n := by omega
          clear hR hG hO
          obtain ⟨W, hWr⟩ : ∃ W, W = wr := ⟨_, rfl⟩
          rw [← hWr] at HR hc hf ⊢
          clear hWr
          go_upto_block 6 with fail
          go_cut [10] from 99 to 114 (fun x wx => x = .int .i64 ((scanUp (fun x => ltInt x e[a]!) e j i : Nat) : Int) ∧ ∃ q, wx = W.drewN q)
          case first =>
            go_wp2_with fail
            go_loopw [10] (UpRel (fun x => ltInt x e[a]!) e i j W) (fun x _ => j + 1 - (intOf x).toNat)
            case atStart => exact ⟨i, 0, rfl, Nat.le_refl _, hij, rfl, rfl⟩
            case round =>
              obtain ⟨k, q, rfl, hk1, hk2, hw, hs⟩ := hrel
              have hcw : ∀ t, t < n → wr.cell? ⟨blk, off + t, none⟩ = some (.int .i32 (G t)) := by rw [hw]; exact hc
              have HW := Lib.hid hw
              have HS := Lib.hid hs
              clear hw hs hc hf
              go_wp2_with fail
              by_cases hle : k ≤ j
              · have hkn : k < n := by omega
                go_quiet (first | (go_at_call 213; refine Calls.quiet_of_same (Less9 _ _ _)))
                go_wp2
                · have hl : ltInt (G k) (G a) = true := by assumption
                  go_roundw
                  case rel => exact ⟨k + 1, q + nq, by go_num, by omega, by omega, by rw [HW.out, World.drewN_drewN], by rw [← HS.out, up_go hle (by show ltInt e[k]! e[a]! = true; rw [← HG.out, ← HG.out, hl])]⟩
                  case measure => simp [intOf]; omega
                · have hl : ltInt (G k) (G a) = false := by assumption
                  go_meet
                  case rel => exact ⟨by rw [← HS.out, up_end (.inr (by show ltInt e[k]! e[a]! = false; rw [← HG.out, ← HG.out, hl]))], q + nq, by rw [HW.out, World.drewN_drewN]⟩
              · go_quiet (first | (go_at_call 213; refine Calls.quiet_of_same (Less9 _ _ _)))
                go_wp2
                go_meet
                case rel => exact ⟨by rw [← HS.out, up_end (.inl hle)], q + nq, by rw [HW.out, World.drewN_drewN]⟩
          case rest =>
            obtain ⟨rfl, q9, hq9⟩ := hcut
            have hR9 := HR.out.drewN q9
            have hc9 : ∀ t, t < n → wc.cell? ⟨blk, off + t, none⟩ = some (.int .i32 (G t)) := by rw [hq9]; exact hc
            have hf9 : ∀ t, t < n → wc.frozen? ⟨blk, off + t, none⟩ = false := by rw [hq9]; exact hf
            rw [← hq9] at hR9
            have HR9 := Lib.hid hR9
            clear hR9 hq9 hc hf HR
            obtain ⟨i2, hi2⟩ : ∃ i2, i2 = scanUp (fun x => ltInt x e[a]!) e j i := ⟨_, rfl⟩
            rw [← hi2]
            have hi3 : i ≤ i2 ∧ i2 ≤ j + 1 := by
              obtain ⟨u1, u2, _, _⟩ := Go.Sort.scanUp_spec (fun x => ltInt x e[a]!) e j _ i rfl
              rw [← hi2] at u1 u2
              exact ⟨u1, u2 hij⟩
            obtain ⟨hi4, hi5⟩ := hi3
            have HI2 := Lib.hid hi2
            clear hi2
            rename World => W2
            have hc := hc9
            have hf := hf9
            have HR := HR9
            clear hc9 hf9 HR9
            go_upto_block 8 with fail
            go_cut [11] from 115 to 131 (fun x wx => x = .int .i64 ((scanDown (fun x => (!ltInt x e[a]!)) e i2 j : Nat) : Int) ∧ ∃ q, wx = W2.drewN q)
            case first =>
              go_wp2_with fail
              go_loopw [11] (DnRel (fun x => (!ltInt x e[a]!)) e i2 j W2) (fun x _ => (intOf x).toNat)
              case atStart => exact ⟨j, 0, rfl, by omega, Nat.le_refl _, rfl, rfl⟩
              case round =>
                obtain ⟨k, q, rfl, hk1, hk2, hw, hs⟩ := hrel
                have hcw : ∀ t, t < n → wr.cell? ⟨blk, off + t, none⟩ = some (.int .i32 (G t)) := by rw [hw]; exact hc
                have HW := Lib.hid hw
                have HS := Lib.hid hs
                clear hw hs hc hf
                go_wp2_with fail
                by_cases hle : i2 ≤ k
                · obtain ⟨k, rfl⟩ : ∃ k', k = k' + 1 := ⟨k - 1, by omega⟩
                  have hkn : k + 1 < n := by omega
                  have hle9 : (i2 : Int) ≤ (k : Int) + 1 := by omega
                  go_quiet (first | (go_at_call 213; refine Calls.quiet_of_same (Less9 _ _ _)))
                  go_wp2
                  · have hl0 : (!ltInt (G (k + 1)) (G a)) = true := by assumption
                    have hl : ltInt (G (k + 1)) (G a) = false := by simpa using hl0
                    go_roundw
                    case rel => exact ⟨k, q + nq, by first | rfl | (congr 1; omega), by omega, by omega, by rw [HW.out, World.drewN_drewN], by rw [← HS.out, down_go hle (by show (!ltInt e[k + 1]! e[a]!) = true; rw [← HG.out, ← HG.out, hl]; rfl)]⟩
                    case measure => simp [intOf]
                  · have hl0 : (!ltInt (G (k + 1)) (G a)) = false := by assumption
                    have hl : ltInt (G (k + 1)) (G a) = true := by simpa using hl0
                    go_meet
                    case rel => exact ⟨by rw [← HS.out, down_end (.inr (by show (!ltInt e[k + 1]! e[a]!) = false; rw [← HG.out, ← HG.out, hl]; rfl))], q + nq, by rw [HW.out, World.drewN_drewN]⟩
                · go_quiet (first | (go_at_call 213; refine Calls.quiet_of_same (Less9 _ _ _)))
                  go_wp2
                  go_meet
                  case rel => exact ⟨by rw [← HS.out, down_end (.inl hle)], q + nq, by rw [HW.out, World.drewN_drewN]⟩
            case rest =>
              obtain ⟨rfl, q9, hq9⟩ := hcut
              have hR9 := HR.out.drewN q9
              have hc9 : ∀ t, t < n → wc.cell? ⟨blk, off + t, none⟩ = some (.int .i32 (G t)) := by rw [hq9]; exact hc
              have hf9 : ∀ t, t < n → wc.frozen? ⟨blk, off + t, none⟩ = false := by rw [hq9]; exact hf
              rw [← hq9] at hR9
              have HR9 := Lib.hid hR9
              clear hR9 hq9 hc hf HR
              obtain ⟨j2, hj2⟩ : ∃ j2, j2 = scanDown (fun x => (!ltInt x e[a]!)) e i2 j := ⟨_, rfl⟩
              rw [← hj2]
              obtain ⟨s1, s2, s3, s4, s5⟩ := scans (p := fun x => ltInt x e[a]!) (q := fun x => (!ltInt x e[a]!)) (fun x => by simp) (show 0 < i by omega) hij HI2.out hj2
              have HJ2 := Lib.hid hj2
              clear hj2
              rename World => W3
              have hc := hc9
              have hf := hf9
              have HR := HR9
              clear hc9 hf9 HR9
              have hj2n : j2 < n := by omega
              have haj : a ≤ j2 := by omega
              by_cases hle : j2 < i2
              · obtain ⟨v9, hv9⟩ := cell?_setCell_some (w := W3) (p := ⟨blk, off + j2, none⟩) (x := .int .i32 (G a)) (q := ⟨blk, off + a, none⟩) (hc a han)
                go_wp2_with fail
                go_region
                have hR0 := (HR.out.swap (i := j2) (j := a) (by omega) (by omega) (HG.out _) (HG.out _)).drew
                have hT9 : T = (j2, e) := by rw [← HO.out, pl_break HI2.out HJ2.out hle]
                have HR5 := Lib.hid hR0
                have HT9 := Lib.hid hT9
                obtain ⟨w9, hw9⟩ : ∃ W, W = ((W3.setCell ⟨blk, off + j2, none⟩ (eD (G a))).setCell ⟨blk, off + a, none⟩ (eD (G j2))).drew := ⟨_, rfl⟩
                have HR5 := HR5.out
                rw [← hw9] at HR5 ⊢
                have HR6 := Lib.hid HR5
                clear hR0 hT9 HR5 hw9 hv9 hc hf
                go_wp2_with fail
                go_ret2
                rw [HT9.out]
                exact ⟨_, rfl, HR6.out⟩
              · have hlt := s5 (by omega)
                have hi2n : i2 < n := by omega
                go_wp2_with fail
                go_region
                have hR0 := (HR.out.swap (i := i2) (j := j2) (by omega) (by omega) (HG.out _) (HG.out _)).drew
                obtain ⟨w9, hw9⟩ : ∃ W, W = ((W3.setCell ⟨blk, off + i2, none⟩ (eD (G j2))).setCell ⟨blk, off + j2, none⟩ (eD (G i2))).drew := ⟨_, rfl⟩
                rw [← hw9] at hR0
                have HR5 := Lib.hid hR0
                have HO5 : Hid (partLoop ltInt a (i2 + 1) (j2 - 1) (swp e i2 j2) = T) := Lib.hid (by rw [← pl_go HI2.out HJ2.out hle]; exact HO.out)
                clear hR0
                first | rw [← hw9] | rw [show ((W3.drew.setCell ⟨blk, off + i2, none⟩ (eD (G j2))).setCell ⟨blk, off + j2, none⟩ (eD (G i2))) = w9 from hw9.symm]
                clear hw9 hc hf
                go_wp2_with fail
                go_roundw
                case rel => exact ⟨i2 + 1, j2 - 1, swp e i2 j2, by go_num, by congr 1; omega, by omega, by omega, by omega, by rw [size_swp]; exact hes, HR5.out, HO5.out⟩
                case measure => simp [intOf]; omega
end Go.Proofs.YtpbfipeinblfgaaGreatDoor
namespace Go.Proofs.YtpbfipeinblfgaaGreatDoor
open Go.RowKit
open Go.Sort (putRow Holds swp ltInt PermIn size_swp scanSorted shiftDown shiftUp partialIns partialInsertionSort fixDown fixUp)

theorem so_go {d : Array Int} {b i : Nat} (h : i < b) (hp : ltInt d[i]! d[i - 1]! = false) : scanSorted ltInt d b i = scanSorted ltInt d b (i + 1) := by rw [scanSorted, if_pos (by simp [h, hp])]
theorem so_end {d : Array Int} {b i : Nat} (h : ¬ i < b ∨ ltInt d[i]! d[i - 1]! = true) : scanSorted ltInt d b i = i := by rw [scanSorted, if_neg (by rcases h with h | h <;> simp [h])]
theorem sdn_go {d : Array Int} {j : Nat} (h : ltInt d[j + 1]! d[j]! = true) : shiftDown ltInt (j + 1) d = shiftDown ltInt j (swp d (j + 1) j) := by rw [shiftDown, if_neg (by rw [h]; simp)]
theorem sdn_end {d : Array Int} {j : Nat} (h : ltInt d[j + 1]! d[j]! = false) : shiftDown ltInt (j + 1) d = d := by rw [shiftDown, if_pos (by rw [h]; rfl)]
theorem sup_go {d : Array Int} {b j : Nat} (hb : j < b) (h : ltInt d[j]! d[j - 1]! = true) : shiftUp ltInt b j d = shiftUp ltInt b (j + 1) (swp d j (j - 1)) := by rw [shiftUp, if_pos hb, if_neg (by rw [h]; simp)]
theorem sup_end {d : Array Int} {b j : Nat} (h : ¬ j < b ∨ ltInt d[j]! d[j - 1]! = false) : shiftUp ltInt b j d = d := by
  rw [shiftUp]
  rcases h with h | h
  · rw [if_neg h]
  · split
    · rw [if_pos (by rw [h]; rfl)]
    · rfl
theorem so_in (d : Array Int) (b : Nat) : ∀ (n i : Nat), b - i = n → i ≤ b → i ≤ scanSorted ltInt d b i ∧ scanSorted ltInt d b i ≤ b := by
  intro n
  induction n with
  | zero => intro i h1 h2; rw [so_end (.inl (by omega))]; omega
  | succ n ih =>
    intro i h1 h2
    cases h : ltInt d[i]! d[i - 1]! with
    | true => rw [so_end (.inr h)]; omega
    | false => rw [so_go (by omega) h]; have := ih (i + 1) (by omega) (by omega); omega
theorem sdn_size : ∀ (j : Nat) (d : Array Int), (shiftDown ltInt j d).size = d.size
  | 0, d => rfl
  | j + 1, d => by
    cases h : ltInt d[j + 1]! d[j]! with
    | true => rw [sdn_go h, sdn_size j, size_swp]
    | false => rw [sdn_end h]
theorem sup_size (b : Nat) : ∀ (n j : Nat) (d : Array Int), b - j = n → (shiftUp ltInt b j d).size = d.size := by
  intro n
  induction n with
  | zero => intro j d h; rw [sup_end (.inl (by omega))]
  | succ n ih =>
    intro j d hj
    cases h : ltInt d[j]! d[j - 1]! with
    | true => rw [sup_go (by omega) h, ih _ _ (by omega), size_swp]
    | false => rw [sup_end (.inr h)]
theorem fdn_size (a i : Nat) (d : Array Int) : (fixDown ltInt a i d).size = d.size := by unfold fixDown; split; exact sdn_size _ _; rfl
theorem fup_size (b i : Nat) (d : Array Int) : (fixUp ltInt b i d).size = d.size := by unfold fixUp; split; exact sup_size _ _ _ _ rfl; rfl
def SoRel (e : Array Int) (i b : Nat) (w : World) (x : Value) (w' : World) : Prop := ∃ k q : Nat, x = .int .i64 k ∧ i ≤ k ∧ k ≤ b ∧ w' = w.drewN q ∧ scanSorted ltInt e b k = scanSorted ltInt e b i
def SnRel (n i blk off : Nat) (w : World) (T : Array Int) (x : Value) (w' : World) : Prop := ∃ k : Nat, ∃ f : Array Int, x = .int .i64 k ∧ k ≤ i ∧ f.size = n ∧ Rw9 w blk off f w' ∧ shiftDown ltInt k f = T
def SuRel (n i b blk off : Nat) (w : World) (T : Array Int) (x : Value) (w' : World) : Prop := ∃ k : Nat, ∃ f : Array Int, x = .int .i64 k ∧ i < k ∧ k ≤ b ∧ f.size = n ∧ Rw9 w blk off f w' ∧ shiftUp ltInt b k f = T
def PiRel (n a b blk off : Nat) (w : World) (T : Array Int × Bool) (x y : Value) (w' : World) : Prop := ∃ i s : Nat, ∃ e : Array Int, x = .int .i64 i ∧ y = .int .i64 (5 - (s : Int)) ∧ s ≤ 5 ∧ a < i ∧ i ≤ b ∧ e.size = n ∧ Rw9 w blk off e w' ∧ partialIns ltInt a b s i e = T

set_option maxRecDepth 20000 in
set_option maxHeartbeats 8000000 in
theorem PIns9 (n blk off cap a b : Nat) (d : Array Int) (w : World) (hn : d.size = n) (hH : Holds eD w blk off d) (hab : a + 12 < b) (hb : b ≤ n) (hsz : n ≤ 1000000) :
    Calls Tryz.prog 240 #[.slice (some ⟨blk, off, none⟩) n cap, .int .i64 a, .int .i64 b] w fun e w' =>
      e = .returned (.bool (partialInsertionSort ltInt d a b).2) ∧ Rw9 w blk off (partialInsertionSort ltInt d a b).1 w' := by
  obtain ⟨T, hT⟩ : ∃ T, partialIns ltInt a b 5 (a + 1) d = T := ⟨_, rfl⟩
  have hE : partialInsertionSort ltInt d a b = T := hT
  rw [hE]
  have HT := Lib.hid hT
  have HH := Lib.hid hH
  clear hH hE hT
  go_enter Tryz.func240, Tryz.ntmps240
  go_wp2_with fail
  go_loopw [7, 8] (PiRel n a b blk off w T) (fun _ y _ => (5 - intOf y).toNat)
  case atStart => exact ⟨a + 1, 5, d, by go_num, rfl, Nat.le_refl _, by omega, by omega, hn, Rw9.refl HH.out, HT.out⟩
  case round =>
    clear HT
    obtain ⟨i, s, e, rfl, rfl, hs5, hai, hib, hes, hR, hO⟩ := hrel
    have HR := Lib.hid hR
    have HO := Lib.hid hO
    clear hR hO
    rcases s with _ | s
    · have HO2 : Hid ((e, false) = T) := Lib.hid HO.out
      rw [show (5 : Int) - ((0 : Nat) : Int) = 5 from rfl]
      go_wp2_with fail
      go_ret
      rw [← HO2.out]
      exact ⟨rfl, HR.out⟩
    · obtain ⟨G, hG, hc, hf⟩ := HR.out.fam HH.out (hes.trans hn.symm)
      rw [hn] at hc hf
      have HG := Lib.hid hG
      clear hG
      obtain ⟨jn, hjn⟩ : ∃ jn : Int, jn = 5 - ((s + 1 : Nat) : Int) := ⟨_, rfl⟩
      rw [← hjn]
      have hj5 : jn < 5 := by omega
      have hj0 : 0 ≤ jn := by omega
      have HJN := Lib.hid hjn
      clear hjn
      obtain ⟨W, hWr⟩ : ∃ W, W = wr := ⟨_, rfl⟩
      rw [← hWr] at HR hc hf ⊢
      clear hWr
      go_upto_block 2 with fail
      go_cut [7] from 17 to 34 (fun x wx => x = .int .i64 ((scanSorted ltInt e b i : Nat) : Int) ∧ ∃ q, wx = W.drewN q)
      case first =>
        go_wp2_with fail
        go_loopw [7] (SoRel e i b W) (fun x _ => b - (intOf x).toNat)
        case atStart => exact ⟨i, 0, rfl, Nat.le_refl _, hib, rfl, rfl⟩
        case round =>
          obtain ⟨k, q, rfl, hk1, hk2, hw, hs⟩ := hrel
          have hcw : ∀ t, t < n → wr.cell? ⟨blk, off + t, none⟩ = some (.int .i32 (G t)) := by rw [hw]; exact hc
          have HW := Lib.hid hw
          have HS := Lib.hid hs
          clear hw hs hc hf
          go_wp2_with fail
          by_cases hle : k < b
          · have hkn : k < n := by omega
            have hk0 : 1 ≤ k := by omega
            go_quiet (first | (go_at_call 213; refine Calls.quiet_of_same (Less9 _ _ _)))
            go_wp2
            · have hl0 : (!ltInt (G k) (G (k - 1))) = true := by assumption
              have hl : ltInt (G k) (G (k - 1)) = false := by simpa using hl0
              go_roundw
              case rel => exact ⟨k + 1, q + nq, by go_num, by omega, by omega, by rw [HW.out, World.drewN_drewN], by rw [← HS.out, so_go hle (by rw [← HG.out, ← HG.out, hl])]⟩
              case measure => simp [intOf]; omega
            · have hl0 : (!ltInt (G k) (G (k - 1))) = false := by assumption
              have hl : ltInt (G k) (G (k - 1)) = true := by simpa using hl0
              go_meet
              case rel => exact ⟨by rw [← HS.out, so_end (.inr (by rw [← HG.out, ← HG.out, hl]))], q + nq, by rw [HW.out, World.drewN_drewN]⟩
          · go_quiet (first | (go_at_call 213; refine Calls.quiet_of_same (Less9 _ _ _)))
            go_wp2
            go_meet
            case rel => exact ⟨by rw [← HS.out, so_end (.inl hle)], q + nq, by rw [HW.out, World.drewN_drewN]⟩
      case rest =>
        obtain ⟨rfl, q9, hq9⟩ := hcut
        have hR9 := HR.out.drewN q9
        have hc9 : ∀ t, t < n → wc.cell? ⟨blk, off + t, none⟩ = some (.int .i32 (G t)) := by rw [hq9]; exact hc
        have hf9 : ∀ t, t < n → wc.frozen? ⟨blk, off + t, none⟩ = false := by rw [hq9]; exact hf
        rw [← hq9] at hR9
        have HR9 := Lib.hid hR9
        clear hR9 hq9 hc hf HR
        obtain ⟨i2, hi2⟩ : ∃ i2, i2 = scanSorted ltInt e b i := ⟨_, rfl⟩
        rw [← hi2]
        have hi3 := so_in e b _ i rfl hib
        rw [← hi2] at hi3
        obtain ⟨hi4, hi5⟩ := hi3
        have HO3 := HO.out
        rw [Go.Sort.partialIns_succ, ← hi2] at HO3
        have HO4 := Lib.hid HO3
        clear hi2 HO3 HO
        rename World => W2
        by_cases hb9 : i2 = b
        · have HO5 : Hid ((e, true) = T) := Lib.hid (by rw [← HO4.out, if_pos hb9])
          subst hb9
          go_wp2_with fail
          go_ret
          rw [← HO5.out]
          exact ⟨rfl, HR9.out⟩
        · by_cases h50 : b - a < 50
          · have HO5 : Hid ((e, false) = T) := Lib.hid (by rw [← HO4.out, if_neg hb9, if_pos h50])
            have hb8 : ¬ ((i2 : Int) = (b : Int)) := by omega
            have hb7 : (b : Int) - (a : Int) < 50 := by omega
            go_wp2_with fail
            go_ret
            rw [← HO5.out]
            exact ⟨rfl, HR9.out⟩
          · have HO5 : Hid (partialIns ltInt a b s i2 (fixUp ltInt b i2 (fixDown ltInt a i2 (swp e i2 (i2 - 1)))) = T) := Lib.hid (by rw [← HO4.out, if_neg hb9, if_neg h50])
            clear HO4
            have hb8 : ¬ ((i2 : Int) = (b : Int)) := by omega
            have hb7 : ¬ (b : Int) - (a : Int) < 50 := by omega
            have hi2n : i2 < n := by omega
            have hi20 : 1 ≤ i2 := by omega
            go_wp2_with fail
            go_region
            obtain ⟨e1, he1⟩ : ∃ e1, e1 = swp e i2 (i2 - 1) := ⟨_, rfl⟩
            have hR0 := (HR9.out.swap (i := i2) (j := i2 - 1) (by omega) (by omega) (HG.out _) (HG.out _)).drew
            obtain ⟨w9, hw9⟩ : ∃ W, W = ((W2.setCell ⟨blk, off + i2, none⟩ (eD (G (i2 - 1)))).setCell ⟨blk, off + (i2 - 1), none⟩ (eD (G i2))).drew := ⟨_, rfl⟩
            rw [← hw9] at hR0 ⊢
            rw [← he1] at hR0 HO5
            have hes1 : e1.size = n := by rw [he1, size_swp]; exact hes
            have HR5 := Lib.hid hR0
            clear hR0 hw9 hc9 hf9 HR9 he1
            go_upto_if 61 with fail
            go_cut [9] from 63 to 94 (fun x wx => Rw9 w blk off (fixDown ltInt a i2 e1) wx)
            case first =>
              by_cases hq : i2 - a ≥ 2
              · have hq9 : (2 : Int) ≤ (i2 : Int) - (a : Int) := by omega
                go_wp2_with fail
                go_loopw [9] (SnRel n i2 blk off w (shiftDown ltInt (i2 - 1) e1)) (fun x _ => (intOf x).toNat)
                case atStart => exact ⟨i2 - 1, e1, by congr 1; omega, by omega, hes1, HR5.out, rfl⟩
                case round =>
                  obtain ⟨k, f, rfl, hk1, hfs, hR, hS⟩ := hrel
                  obtain ⟨G, hG, hc, hf⟩ := hR.fam HH.out (hfs.trans hn.symm)
                  rw [hn] at hc hf
                  have HR := Lib.hid hR
                  have HS := Lib.hid hS
                  have HG := Lib.hid hG
                  clear hR hS hG
                  rcases k with _ | k
                  · have HS0 : Hid (f = shiftDown ltInt (i2 - 1) e1) := Lib.hid HS.out
                    clear HS
                    rw [show ((0 : Nat) : Int) = 0 from rfl]
                    go_wp2_with fail
                    go_meet
                    case rel =>
                      unfold fixDown
                      rw [if_pos hq, ← HS0.out]
                      exact HR.out
                  · have hkn : k + 1 < n := by omega
                    have hkn0 : k < n := by omega
                    go_wp2_with fail
                    go_quiet (first | (go_at_call 213; refine Calls.quiet_of_same (Less9 _ _ _)))
                    go_wp2_with fail
                    · have hl0 : (!ltInt (G (k + 1)) (G k)) = true := by assumption
                      have hl : ltInt (G (k + 1)) (G k) = false := by simpa using hl0
                      have HS1 : Hid (f = shiftDown ltInt (i2 - 1) e1) := Lib.hid (by rw [← HS.out, sdn_end (by rw [← HG.out, ← HG.out, hl])])
                      go_meet
                      case rel =>
                        unfold fixDown
                        rw [if_pos hq, ← HS1.out]
                        exact HR.out.drewN _
                    · have hl0 : (!ltInt (G (k + 1)) (G k)) = false := by assumption
                      have hl : ltInt (G (k + 1)) (G k) = true := by simpa using hl0
                      go_region
                      all_goals go_wp2_with fail
                      go_roundw
                      case rel => exact ⟨k, swp f (k + 1) k, by first | rfl | (congr 1; omega), by omega, by rw [size_swp]; exact hfs, (HR.out.drewN _).swap (i := k + 1) (j := k) (by omega) (by omega) (HG.out _) (HG.out _), by rw [← HS.out, sdn_go (by rw [← HG.out, ← HG.out, hl])]⟩
                      case measure => simp [intOf]
              · have hq9 : ¬ (2 : Int) ≤ (i2 : Int) - (a : Int) := by omega
                go_wp2_with fail
                go_meet
                case rel =>
                  unfold fixDown
                  rw [if_neg hq]
                  exact HR5.out
            case rest =>
              obtain ⟨e2, he2⟩ : ∃ e2, e2 = fixDown ltInt a i2 e1 := ⟨_, rfl⟩
              have hcut2 := hcut
              rw [← he2] at hcut2 HO5
              have hes2 : e2.size = n := by rw [he2, fdn_size]; exact hes1
              have HR6 := Lib.hid hcut2
              clear hcut hcut2 he2 HR5
              by_cases hq : b - i2 ≥ 2
              · have hq9 : (2 : Int) ≤ (b : Int) - (i2 : Int) := by omega
                go_wp2_with fail
                go_loopw [10] (SuRel n i2 b blk off w (shiftUp ltInt b (i2 + 1) e2)) (fun x _ => b - (intOf x).toNat)
                case atStart => exact ⟨i2 + 1, e2, by go_num, by omega, by omega, hes2, HR6.out, rfl⟩
                case round =>
                  clear HR6
                  obtain ⟨k, f, rfl, hk1, hk2, hfs, hR, hS⟩ := hrel
                  obtain ⟨G, hG, hc, hf⟩ := hR.fam HH.out (hfs.trans hn.symm)
                  rw [hn] at hc hf
                  have HR := Lib.hid hR
                  have HS := Lib.hid hS
                  have HG := Lib.hid hG
                  clear hR hS hG
                  by_cases hkb : k < b
                  · have hkn : k < n := by omega
                    have hkn0 : k - 1 < n := by omega
                    go_wp2_with fail
                    go_quiet (first | (go_at_call 213; refine Calls.quiet_of_same (Less9 _ _ _)))
                    go_wp2_with fail
                    · have hl0 : (!ltInt (G k) (G (k - 1))) = true := by assumption
                      have hl : ltInt (G k) (G (k - 1)) = false := by simpa using hl0
                      have HS1 : Hid (f = fixUp ltInt b i2 e2) := Lib.hid (by unfold fixUp; rw [if_pos hq, ← HS.out, sup_end (.inr (by rw [← HG.out, ← HG.out, hl]))])
                      go_roundw
                      case rel => exact ⟨i2, s, fixUp ltInt b i2 e2, rfl, by have := HJN.out; congr 1; omega, by omega, by omega, by omega, by rw [fup_size]; exact hes2, by rw [← HS1.out]; exact HR.out.drewN _, HO5.out⟩
                      case measure => have := HJN.out; simp [intOf]; omega
                    · have hl0 : (!ltInt (G k) (G (k - 1))) = false := by assumption
                      have hl : ltInt (G k) (G (k - 1)) = true := by simpa using hl0
                      go_region
                      all_goals go_wp2_with fail
                      go_roundw
                      case rel => exact ⟨k + 1, swp f k (k - 1), by go_num, by omega, by omega, by rw [size_swp]; exact hfs, (HR.out.drewN _).swap (i := k) (j := k - 1) (by omega) (by omega) (HG.out _) (HG.out _), by rw [← HS.out, sup_go hkb (by rw [← HG.out, ← HG.out, hl])]⟩
                      case measure => simp [intOf]; omega
                  · have HS1 : Hid (f = fixUp ltInt b i2 e2) := Lib.hid (by unfold fixUp; rw [if_pos hq, ← HS.out, sup_end (.inl hkb)])
                    go_wp2_with fail
                    go_roundw
                    case rel => exact ⟨i2, s, fixUp ltInt b i2 e2, rfl, by have := HJN.out; congr 1; omega, by omega, by omega, by omega, by rw [fup_size]; exact hes2, by rw [← HS1.out]; exact HR.out, HO5.out⟩
                    case measure => have := HJN.out; simp [intOf]; omega
              · have hq9 : ¬ (2 : Int) ≤ (b : Int) - (i2 : Int) := by omega
                have HS1 : Hid (e2 = fixUp ltInt b i2 e2) := Lib.hid (by unfold fixUp; rw [if_neg hq])
                go_wp2_with fail
                go_roundw
                case rel => exact ⟨i2, s, fixUp ltInt b i2 e2, rfl, by have := HJN.out; congr 1; omega, by omega, by omega, by omega, by rw [fup_size]; exact hes2, by rw [← HS1.out]; exact HR6.out, HO5.out⟩
                case measure => have := HJN.out; simp [intOf]; omega
end Go.Proofs.YtpbfipeinblfgaaGreatDoor
