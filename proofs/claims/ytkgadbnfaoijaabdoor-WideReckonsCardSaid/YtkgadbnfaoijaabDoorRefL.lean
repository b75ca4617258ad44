/-
  The references' Less. Conditions: the numbers are there.
-/
import Derived.Test.YtkgadbnfaoijaabDoorRefQ
import Derived.BigQuiet
namespace Go.Proofs.YtkgadbnfaoijaabDoor
open Go.RowKit

theorem val_at (l : List Nat) (t : Nat) (h : t < l.length) : val l = val (l.take t) + 65536 ^ t * (l.getD t 0 + 65536 * val (l.drop (t + 1))) := by
  have e := val_append (l.take t) (l.drop t)
  rw [List.take_append_drop, List.length_take, Nat.min_eq_left (by omega), List.drop_eq_getElem_cons h] at e
  rw [e, List.getD_eq_getElem?_getD, List.getElem?_eq_getElem h]
  rfl
theorem less_at (l m : List Nat) (t : Nat) (hl : t < l.length) (hm : t < m.length) (bl : ∀ u ∈ l, u < 65536) (bm : ∀ u ∈ m, u < 65536) (hd : l.drop (t + 1) = m.drop (t + 1)) (hne : l.getD t 0 ≠ m.getD t 0) :
    val l < val m ↔ l.getD t 0 < m.getD t 0 := by
  have hp : 0 < 65536 ^ t := Nat.pow_pos (by decide)
  have h1 : val (l.take t) < 65536 ^ t := by
    have := val_lt (l.take t) (fun u hu => bl u (List.mem_of_mem_take hu))
    rwa [List.length_take, Nat.min_eq_left (by omega)] at this
  have h2 : val (m.take t) < 65536 ^ t := by
    have := val_lt (m.take t) (fun u hu => bm u (List.mem_of_mem_take hu))
    rwa [List.length_take, Nat.min_eq_left (by omega)] at this
  rw [val_at l t hl, val_at m t hm, hd]
  obtain ⟨D, hD⟩ : ∃ D, 65536 * val (m.drop (t + 1)) = D := ⟨_, rfl⟩
  rw [hD]
  obtain ⟨x, hx⟩ : ∃ x, l.getD t 0 = x := ⟨_, rfl⟩
  obtain ⟨y, hy⟩ : ∃ y, m.getD t 0 = y := ⟨_, rfl⟩
  rw [hx, hy] at hne ⊢
  constructor
  · intro h
    rcases Nat.lt_or_ge x y with hxy | hxy
    · exact hxy
    · exfalso
      have h3 : y + 1 ≤ x := by omega
      have h4 : 65536 ^ t * (y + D + 1) ≤ 65536 ^ t * (x + D) := Nat.mul_le_mul_left _ (by omega)
      rw [Nat.mul_add _ (y + D), Nat.mul_one] at h4
      omega
  · intro h
    have h4 : 65536 ^ t * (x + D + 1) ≤ 65536 ^ t * (y + D) := Nat.mul_le_mul_left _ (by omega)
    rw [Nat.mul_add _ (x + D), Nat.mul_one] at h4
    omega
theorem drop_eq (l m : List Nat) (t : Nat) (hl : t < l.length) (hm : t < m.length) (hd : l.drop (t + 1) = m.drop (t + 1)) (he : l.getD t 0 = m.getD t 0) : l.drop t = m.drop t := by
  rw [List.getD_eq_getElem?_getD, List.getElem?_eq_getElem hl, List.getD_eq_getElem?_getD, List.getElem?_eq_getElem hm] at he
  rw [List.drop_eq_getElem_cons hl, List.drop_eq_getElem_cons hm, hd]
  exact congrArg (· :: _) he

set_option maxHeartbeats 4000000 in
set_option maxRecDepth 20000 in
theorem RefLess_raw (a0 a1 a2 a3 a4 a5 a6 a7 b0 b1 b2 b3 b4 b5 b6 b7 : Nat) (ha : ∀ u ∈ [a0, a1, a2, a3, a4, a5, a6, a7], u < 65536) (hb : ∀ u ∈ [b0, b1, b2, b3, b4, b5, b6, b7], u < 65536) (w : World) :
    Calls Tryd.prog 22 #[bgv [a0, a1, a2, a3, a4, a5, a6, a7], bgv [b0, b1, b2, b3, b4, b5, b6, b7]] w fun e w' =>
      e = .returned (.bool (decide (val [a0, a1, a2, a3, a4, a5, a6, a7] < val [b0, b1, b2, b3, b4, b5, b6, b7]))) ∧ Below w.heap.size w w' := by
  have HA := Lib.hid ha
  have HB := Lib.hid hb
  clear ha hb
  simp only [bgv, List.map_cons, List.map_nil]
  go_enter Tryd.func22, Tryd.ntmps22
  go_wp2_with fail
  go_loopw [5] (fun z wr => ∃ k : Nat, k ≤ 8 ∧ z = .int .i64 ((k : Int) - 1) ∧ [a0, a1, a2, a3, a4, a5, a6, a7].drop k = [b0, b1, b2, b3, b4, b5, b6, b7].drop k ∧
    Blk wr w.heap.size 28 #[.int .u32 a0, .int .u32 a1, .int .u32 a2, .int .u32 a3, .int .u32 a4, .int .u32 a5, .int .u32 a6, .int .u32 a7] ∧
    Blk wr (w.heap.size + 1) 28 #[.int .u32 b0, .int .u32 b1, .int .u32 b2, .int .u32 b3, .int .u32 b4, .int .u32 b5, .int .u32 b6, .int .u32 b7] ∧ Below w.heap.size w wr) (fun z _ => (intOf z + 1).toNat)
  case atStart =>
    refine ⟨8, by omega, rfl, rfl, (Blk.new w _ _).alloc _, ?_, ((Below.refl _ _).alloc (Nat.le_refl _) _).alloc (by simp) _⟩
    have h := Blk.new (w.alloc (.cells #[.int .u32 a0, .int .u32 a1, .int .u32 a2, .int .u32 a3, .int .u32 a4, .int .u32 a5, .int .u32 a6, .int .u32 a7] 28)) 28 #[.int .u32 b0, .int .u32 b1, .int .u32 b2, .int .u32 b3, .int .u32 b4, .int .u32 b5, .int .u32 b6, .int .u32 b7]
    simp only [World.size_alloc] at h
    exact h
  case round =>
    obtain ⟨k, hk, rfl, hd, hKa, hKb, hbw⟩ := hrel
    rcases k with _ | t
    · have HE : Hid ([a0, a1, a2, a3, a4, a5, a6, a7] = [b0, b1, b2, b3, b4, b5, b6, b7]) := Lib.hid hd
      clear hd hKa hKb
      go_wp2_with fail
      go_ret
      refine ⟨?_, hbw⟩
      rw [HE.out, decide_eq_false (Nat.lt_irrefl _)]
      rfl
    · have ht8 : t < 8 := by omega
      have ca : wr.cell? ⟨w.heap.size, t, none⟩ = _ := (hKa.cell t).trans (cell8 a0 a1 a2 a3 a4 a5 a6 a7 t ht8)
      have cb : wr.cell? ⟨w.heap.size + 1, t, none⟩ = _ := (hKb.cell t).trans (cell8 b0 b1 b2 b3 b4 b5 b6 b7 t ht8)
      have hL := less_at _ _ t (show t < [a0, a1, a2, a3, a4, a5, a6, a7].length from ht8) (show t < [b0, b1, b2, b3, b4, b5, b6, b7].length from ht8) HA.out HB.out hd
      have hD := drop_eq _ _ t (show t < [a0, a1, a2, a3, a4, a5, a6, a7].length from ht8) (show t < [b0, b1, b2, b3, b4, b5, b6, b7].length from ht8) hd
      obtain ⟨x, hx⟩ : ∃ x, [a0, a1, a2, a3, a4, a5, a6, a7].getD t 0 = x := ⟨_, rfl⟩
      obtain ⟨y, hy⟩ : ∃ y, [b0, b1, b2, b3, b4, b5, b6, b7].getD t 0 = y := ⟨_, rfl⟩
      rw [hx, hy] at hL hD
      rw [hx] at ca
      rw [hy] at cb
      have j1 : ((t + 1 : Nat) : Int) - 1 = (t : Int) := by omega
      rw [j1]
      have HKa := Lib.hid hKa
      have HKb := Lib.hid hKb
      by_cases hxy : x = y
      · have HD := Lib.hid (hD hxy)
        subst hxy
        clear hL hD hd hx hy hKa hKb j1
        go_wp2_with fail
        go_quiet (fail)
        go_wp2_with fail
        go_roundw
        case rel => exact ⟨t, by omega, rfl, HD.out, HKa.out.drewN _, HKb.out.drewN _, below_drewN hbw _⟩
        case measure => simp [intOf]; try omega
      · have HLs := Lib.hid (hL hxy)
        have b1 : ((x : Int) != (y : Int)) = true := by rw [bne_iff_ne]; omega
        have b2 : ((x : Int) == (y : Int)) = false := by rw [beq_eq_false_iff_ne]; omega
        clear hL hD hd hx hy hKa hKb j1 hxy
        go_wp2_with fail
        go_quiet (fail)
        go_wp2_with fail
        go_quiet (fail)
        go_wp2_with fail
        go_ret
        refine ⟨?_, below_drewN (below_drewN hbw _) _⟩
        rw [decide_eq_decide.2 HLs.out]
        rfl

theorem RefLess_any (x y : Nat) (hx : x < 340282366920938463463374607431768211456) (hy : y < 340282366920938463463374607431768211456) (w : World) :
    Calls Tryd.prog 22 #[bgv (digs 8 x), bgv (digs 8 y)] w fun e w' => e = .returned (.bool (decide (x < y))) ∧ Below w.heap.size w w' := by
  have vx := val_digs 8 x hx
  have vy := val_digs 8 y hy
  have lx := digs_lt 8 x
  have ly := digs_lt 8 y
  obtain ⟨a0, a1, a2, a3, a4, a5, a6, a7, ex⟩ := eight (digs 8 x) (digs_length 8 x)
  obtain ⟨b0, b1, b2, b3, b4, b5, b6, b7, ey⟩ := eight (digs 8 y) (digs_length 8 y)
  rw [ex] at vx lx ⊢
  rw [ey] at vy ly ⊢
  have h := RefLess_raw a0 a1 a2 a3 a4 a5 a6 a7 b0 b1 b2 b3 b4 b5 b6 b7 lx ly w
  rw [vx, vy] at h
  exact h
end Go.Proofs.YtkgadbnfaoijaabDoor
