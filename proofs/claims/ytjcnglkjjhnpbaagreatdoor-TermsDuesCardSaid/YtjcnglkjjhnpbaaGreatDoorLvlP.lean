/-
level's statements: what may be; LevelOrders, LevelOnly. Conditions: the numbers' kinds.
The references' Div: bit by bit. Conditions: the number is there, and is not 0.
The references' Scale. No condition but the numbers' kinds.
The references' Month. Conditions: the numbers' kinds.
LevelPays: the document's Left, the walk. Conditions: the numbers' kinds; errors.errorType is laid.
-/
import Derived.Test.YtjcnglkjjhnpbaaGreatDoorLvlD
import Derived.Test.YtjcnglkjjhnpbaaGreatDoorRefP
import Derived.Test.YtjcnglkjjhnpbaaGreatDoorDivB
import Derived.RegionTactic
import Derived.Laws.Bits64b
import Derived.Laws.BitsAllLaws
import Derived.Test.YtjcnglkjjhnpbaaGreatDoorWideB
import Derived.Test.YtjcnglkjjhnpbaaGreatDoorLvlB
import Derived.Test.YtjcnglkjjhnpbaaGreatDoorCodeC
namespace Go.Proofs.YtjcnglkjjhnpbaaGreatDoor
open Go.RowKit

end Go.Proofs.YtjcnglkjjhnpbaaGreatDoor
namespace Go.Proofs.YtjcnglkjjhnpbaaGreatDoor
open Go.RowKit

theorem cell8 (x0 x1 x2 x3 x4 x5 x6 x7 : Nat) (i : Nat) (hi : i < 8) : (#[Value.int .u32 (x0 : Int), .int .u32 (x1 : Int), .int .u32 (x2 : Int), .int .u32 (x3 : Int), .int .u32 (x4 : Int), .int .u32 (x5 : Int), .int .u32 (x6 : Int), .int .u32 (x7 : Int)])[i]? = some (.int .u32 (([x0, x1, x2, x3, x4, x5, x6, x7].getD i 0 : Nat) : Int)) := by
  rcases i with _ | _ | _ | _ | _ | _ | _ | _ | i
  all_goals first
    | rfl
    | omega
theorem set_u32 (f : List Nat) (k p : Nat) : (f.map fun n : Nat => Value.int .u32 (n : Int)).toArray.setIfInBounds k (.int .u32 (p : Int)) = ((f.set k p).map fun n : Nat => Value.int .u32 (n : Int)).toArray := by
  rw [List.map_set]
  simp
/-- The bit t of a number, out of its digit. -/
theorem bit_of (N k s : Nat) (hs : s < 16) : N / 65536 ^ k % 65536 / 2 ^ s % 2 = N / 2 ^ (16 * k + s) % 2 := by
  have e : (65536 : Nat) = 2 ^ s * 2 ^ (16 - s) := by rw [← Nat.pow_add, show s + (16 - s) = 16 by omega]
  have e2 : N / 65536 ^ k % 65536 / 2 ^ s = N / 65536 ^ k / 2 ^ s % 2 ^ (16 - s) := by
    rw [show N / 65536 ^ k % 65536 = N / 65536 ^ k % (2 ^ s * 2 ^ (16 - s)) by rw [← e], Nat.mod_mul_right_div_self]
  rw [e2, Nat.mod_mod_of_dvd _ (by rw [show 16 - s = (15 - s) + 1 by omega, Nat.pow_succ]; exact Nat.dvd_mul_left 2 _), Nat.div_div_eq_div_mul]
  congr 2
  rw [show (65536 : Nat) = 2 ^ 16 from rfl, ← Nat.pow_mul, ← Nat.pow_add]
/-- A digit of a multiple of 2 ^ (t + 1) takes the bit t. -/
theorem digit_or (L : List Nat) (k s c : Nat) (hs : s < 16) (hk : k < L.length) (hL : ∀ u ∈ L, u < 65536) (hv : valR L = c * 2 ^ (16 * k + s + 1)) :
    L[k] ||| 2 ^ s = L[k] + 2 ^ s ∧ L[k] + 2 ^ s < 65536 := by
  have h1 := digit_at L k hk hL
  have e16 : (65536 : Nat) = 2 ^ (15 - s) * 2 ^ (s + 1) := by rw [← Nat.pow_add, show 15 - s + (s + 1) = 16 by omega]
  have h2 : valR L / 65536 ^ k = c * 2 ^ (s + 1) := by
    rw [hv, show (65536 : Nat) ^ k = 2 ^ (16 * k) by rw [show (65536 : Nat) = 2 ^ 16 from rfl, ← Nat.pow_mul], show 16 * k + s + 1 = s + 1 + 16 * k by omega, Nat.pow_add, ← Nat.mul_assoc, Nat.mul_div_cancel _ (Nat.two_pow_pos _)]
  have h3 : L[k] = c % 2 ^ (15 - s) * 2 ^ (s + 1) := by
    rw [h1, h2, e16, Nat.mul_mod_mul_right]
  have hlt : c % 2 ^ (15 - s) < 2 ^ (15 - s) := Nat.mod_lt _ (Nat.two_pow_pos _)
  obtain ⟨e, he⟩ : ∃ e, c % 2 ^ (15 - s) = e := ⟨_, rfl⟩
  rw [he] at h3 hlt
  have hps : 2 ^ (s + 1) = 2 * 2 ^ s := by rw [Nat.pow_succ, Nat.mul_comm]
  have hpos := Nat.two_pow_pos s
  constructor
  · rw [h3, shift_or e (2 ^ s) (s + 1) (by rw [hps]; omega)]
  · have h4 : (e + 1) * 2 ^ (s + 1) ≤ 65536 := by
      rw [e16]
      exact Nat.mul_le_mul_right _ hlt
    rw [Nat.add_mul, Nat.one_mul, ← h3] at h4
    omega
/-- One bit more of a quotient. -/
theorem div_bit (N n t bit : Nat) (hn : 0 < n) (hb : bit = N / 2 ^ t % 2) :
    N / 2 ^ t = 2 * (N / 2 ^ (t + 1)) + bit ∧
      (2 * (N / 2 ^ (t + 1) % n) + bit < n → N / 2 ^ t % n = 2 * (N / 2 ^ (t + 1) % n) + bit ∧ N / 2 ^ t / n * 2 ^ t = N / 2 ^ (t + 1) / n * 2 ^ (t + 1)) ∧
      (n ≤ 2 * (N / 2 ^ (t + 1) % n) + bit → N / 2 ^ t % n = 2 * (N / 2 ^ (t + 1) % n) + bit - n ∧ N / 2 ^ t / n * 2 ^ t = N / 2 ^ (t + 1) / n * 2 ^ (t + 1) + 2 ^ t) := by
  have e0 : N / 2 ^ (t + 1) = N / 2 ^ t / 2 := by rw [Nat.pow_succ, Nat.div_div_eq_div_mul]
  have e1 : N / 2 ^ t = 2 * (N / 2 ^ (t + 1)) + bit := by omega
  refine ⟨e1, ?_, ?_⟩
  · intro h
    obtain ⟨Q, hQ⟩ : ∃ Q, N / 2 ^ (t + 1) = Q := ⟨_, rfl⟩
    rw [hQ] at e1 h ⊢
    have d := Nat.div_add_mod Q n
    have e2 : N / 2 ^ t = n * (2 * (Q / n)) + (2 * (Q % n) + bit) := by
      rw [e1, Nat.mul_left_comm]
      omega
    rw [e2, Nat.mul_add_mod, Nat.mod_eq_of_lt h, Nat.mul_add_div hn, Nat.div_eq_of_lt h]
    refine ⟨rfl, ?_⟩
    rw [Nat.add_zero, Nat.pow_succ, Nat.mul_comm (2 ^ t) 2, ← Nat.mul_assoc, Nat.mul_comm 2 (Q / n)]
  · intro h
    obtain ⟨Q, hQ⟩ : ∃ Q, N / 2 ^ (t + 1) = Q := ⟨_, rfl⟩
    rw [hQ] at e1 h ⊢
    have d := Nat.div_add_mod Q n
    have hm := Nat.mod_lt Q hn
    have e2 : N / 2 ^ t = n * (2 * (Q / n) + 1) + (2 * (Q % n) + bit - n) := by
      rw [e1, Nat.mul_add, Nat.mul_left_comm, Nat.mul_one]
      omega
    have hl : 2 * (Q % n) + bit - n < n := by omega
    rw [e2, Nat.mul_add_mod, Nat.mod_eq_of_lt hl, Nat.mul_add_div hn, Nat.div_eq_of_lt hl]
    refine ⟨rfl, ?_⟩
    rw [Nat.add_zero, Nat.add_mul, Nat.one_mul, Nat.pow_succ, Nat.mul_comm (2 ^ t) 2, ← Nat.mul_assoc, Nat.mul_comm 2 (Q / n)]
theorem or_bit (a A bit : Nat) (hb : bit < 2) (hA : A = a * 2) (ha : A < 18446744073709551616) : bits .or .u64 (A : Int) (bit : Int) = ((A + bit : Nat) : Int) := by
  subst hA
  have h := bits_or_u64_nat (a * 2) bit ha (by omega)
  have h2 := shift_or a bit 1 hb
  rw [Nat.pow_one] at h2
  rw [h2] at h
  exact h

set_option maxHeartbeats 8000000 in
set_option maxRecDepth 20000 in
theorem RefDiv_any (N n : Nat) (hN : N < 340282366920938463463374607431768211456) (hn0 : 0 < n) (hn : n < 18446744073709551616) (w : World) :
    Calls Tryz.prog 157 #[bgv (digsR 8 N), .int .u64 n] w fun e w' => e = .returned (.tuple #[bgv (digsR 8 (N / n)), .int .u64 ((N % n : Nat) : Int)]) ∧ Below w.heap.size w w' := by
  obtain ⟨x0, x1, x2, x3, x4, x5, x6, x7, ex⟩ := eight (digsR 8 N) (digs_length 8 N)
  have hdx : ∀ k, k < 8 → [x0, x1, x2, x3, x4, x5, x6, x7].getD k 0 = N / 65536 ^ k % 65536 := by
    intro k hk
    rw [← ex, List.getD_eq_getElem?_getD, List.getElem?_eq_getElem (by rw [digs_length]; exact hk)]
    have h := digit_at (digsR 8 N) k (by rw [digs_length]; exact hk) (digs_lt 8 N)
    rw [val_digsR 8 N hN] at h
    exact h
  have HX := Lib.hid hdx
  rw [ex]
  clear ex hdx
  simp only [bgv, List.map_cons, List.map_nil]
  have HNl := Lib.hid hN
  clear hN
  go_enter Tryz.func157, Tryz.ntmps157
  go_wp2_with fail
  go_loopw [7, 8] (fun y z wr => ∃ (m : Nat) (L : List Nat), m ≤ 128 ∧ y = .int .u64 ((N / 2 ^ m % n : Nat) : Int) ∧ z = .int .i64 ((m : Int) - 1) ∧ L.length = 8 ∧ (∀ u ∈ L, u < 65536) ∧ valR L = N / 2 ^ m / n * 2 ^ m ∧
    Blk wr (w.heap.size + 1 + 1) 235 (L.map fun n : Nat => Value.int .u32 (n : Int)).toArray ∧
    Blk wr w.heap.size 235 #[.int .u32 x0, .int .u32 x1, .int .u32 x2, .int .u32 x3, .int .u32 x4, .int .u32 x5, .int .u32 x6, .int .u32 x7] ∧
    Blk wr (w.heap.size + 1) 235 #[.int .u32 0, .int .u32 0, .int .u32 0, .int .u32 0, .int .u32 0, .int .u32 0, .int .u32 0, .int .u32 0] ∧ Below w.heap.size w wr) (fun _ z _ => (intOf z + 1).toNat)
  case atStart =>
    have hz : N / 2 ^ 128 = 0 := Nat.div_eq_of_lt HNl.out
    refine ⟨128, List.replicate 8 0, by omega, by rw [hz]; simp, rfl, rfl, fun u hu => by rw [List.eq_of_mem_replicate hu]; decide, by rw [hz]; simp [valR], ?_, ?_, ?_, ?_⟩
    · have h := Blk.new ((w.alloc (.cells #[.int .u32 x0, .int .u32 x1, .int .u32 x2, .int .u32 x3, .int .u32 x4, .int .u32 x5, .int .u32 x6, .int .u32 x7] 235)).alloc (.cells #[.int .u32 0, .int .u32 0, .int .u32 0, .int .u32 0, .int .u32 0, .int .u32 0, .int .u32 0, .int .u32 0] 235)) 235 #[.int .u32 0, .int .u32 0, .int .u32 0, .int .u32 0, .int .u32 0, .int .u32 0, .int .u32 0, .int .u32 0]
      simp only [World.size_alloc] at h
      exact h
    · exact ((Blk.new w _ _).alloc _).alloc _
    · have h := Blk.new (w.alloc (.cells #[.int .u32 x0, .int .u32 x1, .int .u32 x2, .int .u32 x3, .int .u32 x4, .int .u32 x5, .int .u32 x6, .int .u32 x7] 235)) 235 #[.int .u32 0, .int .u32 0, .int .u32 0, .int .u32 0, .int .u32 0, .int .u32 0, .int .u32 0, .int .u32 0]
      simp only [World.size_alloc] at h
      exact h.alloc _
    · exact (((Below.refl _ _).alloc (Nat.le_refl _) _).alloc (by simp) _).alloc (by simp; omega) _
  case round =>
    obtain ⟨m, L, hm, rfl, rfl, hLl, hLb, hLv, hK, hKx, hK4, hbw⟩ := hrel
    rcases m with _ | t
    · have e0 : N / 2 ^ 0 = N := by rw [Nat.pow_zero, Nat.div_one]
      rw [e0, Nat.pow_zero, Nat.mul_one] at hLv
      rw [e0]
      obtain ⟨v0, v1, v2, v3, v4, v5, v6, v7, eL⟩ := eight L hLl
      have HLt : Hid ([v0, v1, v2, v3, v4, v5, v6, v7] = digsR 8 (N / n)) := Lib.hid (by rw [← eL, ← hLv, ← hLl, digs_valR L hLb])
      subst eL
      have a0 := hK.cell 0; have a1 := hK.cell 1; have a2 := hK.cell 2; have a3 := hK.cell 3; have a4 := hK.cell 4; have a5 := hK.cell 5; have a6 := hK.cell 6; have a7 := hK.cell 7
      simp only [List.map_cons, List.map_nil, List.getElem?_toArray, List.getElem?_cons_zero, List.getElem?_cons_succ] at a0 a1 a2 a3 a4 a5 a6 a7
      have b0 := hK4.cell 0; have b1 := hK4.cell 1; have b2 := hK4.cell 2; have b3 := hK4.cell 3; have b4 := hK4.cell 4; have b5 := hK4.cell 5; have b6 := hK4.cell 6; have b7 := hK4.cell 7
      have f0 := hK4.frozen 0; have f1 := hK4.frozen 1; have f2 := hK4.frozen 2; have f3 := hK4.frozen 3; have f4 := hK4.frozen 4; have f5 := hK4.frozen 5; have f6 := hK4.frozen 6; have f7 := hK4.frozen 7
      simp only [List.getElem?_toArray, List.getElem?_cons_zero, List.getElem?_cons_succ] at b0 b1 b2 b3 b4 b5 b6 b7
      have HK4 := Lib.hid hK4
      have HBW := Lib.hid hbw
      obtain ⟨rN, hrN⟩ : ∃ rN, N % n = rN := ⟨_, rfl⟩
      have HrN := Lib.hid hrN
      rw [hrN]
      clear hLv hLl hLb hK hKx hK4 hbw hrN e0
      go_wp2_with fail
      have HB8 := (((((((HK4.out.set_ 0 (.int .u32 (v0 : Int))).set_ 1 (.int .u32 (v1 : Int))).set_ 2 (.int .u32 (v2 : Int))).set_ 3 (.int .u32 (v3 : Int))).set_ 4 (.int .u32 (v4 : Int))).set_ 5 (.int .u32 (v5 : Int))).set_ 6 (.int .u32 (v6 : Int))).set_ 7 (.int .u32 (v7 : Int))
      have q0 := HB8.cell 0; have q1 := HB8.cell 1; have q2 := HB8.cell 2; have q3 := HB8.cell 3; have q4 := HB8.cell 4; have q5 := HB8.cell 5; have q6 := HB8.cell 6; have q7 := HB8.cell 7
      have hbE := (((((((HBW.out.setCell (p := ⟨w.heap.size + 1, 0, none⟩) (Nat.le_succ _) (.int .u32 (v0 : Int))).setCell (p := ⟨w.heap.size + 1, 1, none⟩) (Nat.le_succ _) (.int .u32 (v1 : Int))).setCell (p := ⟨w.heap.size + 1, 2, none⟩) (Nat.le_succ _) (.int .u32 (v2 : Int))).setCell (p := ⟨w.heap.size + 1, 3, none⟩) (Nat.le_succ _) (.int .u32 (v3 : Int))).setCell (p := ⟨w.heap.size + 1, 4, none⟩) (Nat.le_succ _) (.int .u32 (v4 : Int))).setCell (p := ⟨w.heap.size + 1, 5, none⟩) (Nat.le_succ _) (.int .u32 (v5 : Int))).setCell (p := ⟨w.heap.size + 1, 6, none⟩) (Nat.le_succ _) (.int .u32 (v6 : Int))).setCell (p := ⟨w.heap.size + 1, 7, none⟩) (Nat.le_succ _) (.int .u32 (v7 : Int))
      obtain ⟨wE, hwE⟩ : ∃ W, ((((((((wr.setCell ⟨w.heap.size + 1, 0, none⟩ (.int .u32 (v0 : Int))).setCell ⟨w.heap.size + 1, 1, none⟩ (.int .u32 (v1 : Int))).setCell ⟨w.heap.size + 1, 2, none⟩ (.int .u32 (v2 : Int))).setCell ⟨w.heap.size + 1, 3, none⟩ (.int .u32 (v3 : Int))).setCell ⟨w.heap.size + 1, 4, none⟩ (.int .u32 (v4 : Int))).setCell ⟨w.heap.size + 1, 5, none⟩ (.int .u32 (v5 : Int))).setCell ⟨w.heap.size + 1, 6, none⟩ (.int .u32 (v6 : Int))).setCell ⟨w.heap.size + 1, 7, none⟩ (.int .u32 (v7 : Int))) = W := ⟨_, rfl⟩
      rw [hwE] at q0 q1 q2 q3 q4 q5 q6 q7 hbE ⊢
      refine bodyPost_ret (by simp [results, Tryz.results157, go_sem, q0, q1, q2, q3, q4, q5, q6, q7]; try rfl) rfl ?_
      exact ⟨by rw [← HLt.out, HrN.out]; rfl, hbE⟩
    · obtain ⟨k, hk⟩ : ∃ k, t / 16 = k := ⟨_, rfl⟩
      obtain ⟨s, hs⟩ : ∃ s, t % 16 = s := ⟨_, rfl⟩
      have hts : t = 16 * k + s := by omega
      have hs16 : s < 16 := by omega
      have hk8 : k < 8 := by omega
      have hbx := bit_of N k s hs16
      rw [← hts] at hbx
      obtain ⟨bit, hbit⟩ : ∃ bit, N / 2 ^ t % 2 = bit := ⟨_, rfl⟩
      rw [hbit] at hbx
      obtain ⟨d1, d2, d3⟩ := div_bit N n t bit hn0 hbit.symm
      have hrl := Nat.mod_lt (N / 2 ^ (t + 1)) hn0
      have cx : wr.cell? ⟨w.heap.size, k, none⟩ = some (.int .u32 ((N / 65536 ^ k % 65536 : Nat) : Int)) := by
        rw [← HX.out k hk8]
        exact (hKx.cell k).trans (cell8 x0 x1 x2 x3 x4 x5 x6 x7 k hk8)
      obtain ⟨xk, hxk⟩ : ∃ xk, N / 65536 ^ k % 65536 = xk := ⟨_, rfl⟩
      rw [hxk] at cx hbx
      have hxl : xk < 65536 := by omega
      have hkL : k < L.length := by omega
      obtain ⟨o1, o2⟩ := digit_or L k s _ hs16 hkL hLb (by rw [hLv, hts])
      have co : wr.cell? ⟨w.heap.size + 1 + 1, k, none⟩ = some (.int .u32 ((L[k] : Nat) : Int)) := (hK.cell k).trans (by simp [hkL])
      have fo : wr.frozen? ⟨w.heap.size + 1 + 1, k, none⟩ = false := hK.frozen k
      have hv := fun d => val_set L k (L[k] + d) hkL d rfl
      have hpw := pow_bit t
      rw [hk, hs] at hpw
      have hvs := hv (2 ^ s)
      rw [Nat.mul_comm (2 ^ s), hpw] at hvs
      obtain ⟨z, hz⟩ : ∃ z, L[k] = z := ⟨_, rfl⟩
      rw [hz] at o1 o2 co hvs
      obtain ⟨p, hp⟩ : ∃ p, 2 ^ s = p := ⟨_, rfl⟩
      have hpI : (2 : Int) ^ s = (p : Int) := by rw [← hp]; exact (Int.natCast_pow 2 s).symm
      rw [hp] at o1 o2 hbx hvs
      have hp16 : p < 65536 := by omega
      have hp0 : 0 < p := by rw [← hp]; exact Nat.two_pow_pos s
      obtain ⟨r, hr⟩ : ∃ r, N / 2 ^ (t + 1) % n = r := ⟨_, rfl⟩
      rw [hr] at d2 d3 hrl ⊢
      obtain ⟨y, hy⟩ : ∃ y, z + p = y := ⟨_, rfl⟩
      rw [hy] at o1 o2 hvs
      have hbl : bit < 2 := by omega
      have j1 : ((t + 1 : Nat) : Int) - 1 = (t : Int) := by omega
      rw [j1]
      have i1 : (t : Int) / 16 = (k : Int) := by omega
      have i2 : (t : Int) % 16 = (s : Int) := by omega
      obtain ⟨xq, hxq⟩ : ∃ xq, xk / p = xq := ⟨_, rfl⟩
      rw [hxq] at hbx
      have hxql : xq ≤ xk := by rw [← hxq]; exact Nat.div_le_self _ _
      have i3 : (xk : Int) / (p : Int) = (xq : Int) := by rw [← hxq]; rfl
      have i9 : (xq : Int) % 2 = (bit : Int) := by omega
      have i10 : (xq : Int).tmod 2 = (bit : Int) := by rw [← hbx]; rfl
      have i11 : IntKind.u64.wrap (xq : Int) = (xq : Int) := by rw [IntKind.wrap_u64]; omega
      have i4 : bits .or .u32 (z : Int) (p : Int) = (y : Int) := by rw [u32_or_nat z p (by omega) (by omega), o1]
      have i5 : IntKind.u32.wrap (p : Int) = (p : Int) := by rw [IntKind.wrap_u32]; omega
      have i6 : min s 32 = s := by omega
      have i7 : (t : Int).tdiv 16 = (k : Int) := by rw [← hk]; rfl
      have i8 : (t : Int).tmod 16 = (s : Int) := by rw [← hs]; rfl
      have HD1 := Lib.hid d2
      have HD2 := Lib.hid d3
      have HVs := Lib.hid hvs
      have HLv := Lib.hid hLv
      have HLb := Lib.hid hLb
      have HLl := Lib.hid hLl
      have HK := Lib.hid hK
      have HKx := Lib.hid hKx
      have HK4 := Lib.hid hK4
      clear hxq hxql d1 d2 d3 hvs hLv hLb hLl hK hKx hK4 hv hr hy hz hxk hk hs hts hbx hbit hpw hp o1 j1
      by_cases htop : 9223372036854775808 ≤ r
      · obtain ⟨a, ha⟩ : ∃ a, 2 * r - 18446744073709551616 = a := ⟨_, rfl⟩
        have q1 : IntKind.u64.wrap ((r : Int) * 2) = (a : Int) := by rw [IntKind.wrap_u64]; omega
        have q2 := or_bit (a / 2) a bit hbl (by omega) (by omega)
        obtain ⟨v, hv⟩ : ∃ v, a + bit = v := ⟨_, rfl⟩
        rw [hv] at q2
        obtain ⟨v', hv'⟩ : ∃ v', 2 * r + bit - n = v' := ⟨_, rfl⟩
        have q3 : IntKind.u64.wrap ((v : Int) - (n : Int)) = (v' : Int) := by rw [IntKind.wrap_u64]; omega
        have t1 : (9223372036854775808 : Int) ≤ (r : Int) := by omega
        have HE := Lib.hid (HD2.out (by omega))
        have HV' : Hid (2 * r + bit - n = v') := Lib.hid hv'
        clear HD1 HD2 ha hv htop hv'
        go_wp2_with fail
        go_region
        have HK := Lib.hid ((HK.out.set_ k (.int .u32 (y : Int))).drew)
        rw [set_u32] at HK
        have HKx := Lib.hid ((HKx.out.far (p := ⟨w.heap.size + 1 + 1, k, none⟩) (by show w.heap.size ≠ w.heap.size + 1 + 1; omega) (.int .u32 (y : Int))).drew)
        have HK4 := Lib.hid ((HK4.out.far (p := ⟨w.heap.size + 1 + 1, k, none⟩) (by simp) (.int .u32 (y : Int))).drew)
        have hbw := (hbw.setCell (p := ⟨w.heap.size + 1 + 1, k, none⟩) (by show w.heap.size ≤ w.heap.size + 1 + 1; omega) (.int .u32 (y : Int))).drew
        have HLb' : Hid (∀ u ∈ L.set k y, u < 65536) := Lib.hid (by
          intro u hu
          rcases List.mem_or_eq_of_mem_set hu with h | h
          · exact HLb.out u h
          · subst h; exact o2)
        go_wp2_with fail
        go_roundw
        case rel => exact ⟨t, L.set k y, by omega, by rw [HE.out.1, HV'.out], rfl, by rw [List.length_set, HLl.out], HLb'.out, by rw [HVs.out, HLv.out, HE.out.2], HK.out, HKx.out, HK4.out, hbw⟩
        case measure => simp [intOf]; try omega
      · have q2 := or_bit r (r * 2) bit hbl rfl (by omega)
        obtain ⟨v, hv⟩ : ∃ v, r * 2 + bit = v := ⟨_, rfl⟩
        rw [hv, Int.natCast_mul] at q2
        replace q2 : bits .or .u64 ((r : Int) * 2) (bit : Int) = (v : Int) := q2
        have t1 : ¬ (9223372036854775808 : Int) ≤ (r : Int) := by omega
        by_cases hge : n ≤ v
        · obtain ⟨v', hv'⟩ : ∃ v', v - n = v' := ⟨_, rfl⟩
          have q3 : (v : Int) - (n : Int) = (v' : Int) := by omega
          have t2 : (n : Int) ≤ (v : Int) := by omega
          have HE := Lib.hid (HD2.out (by omega))
          have HV' : Hid (2 * r + bit - n = v') := Lib.hid (by omega)
          clear HD1 HD2 hge htop
          go_wp2_with fail
          go_region
          have HK := Lib.hid ((HK.out.set_ k (.int .u32 (y : Int))).drew)
          rw [set_u32] at HK
          have HKx := Lib.hid ((HKx.out.far (p := ⟨w.heap.size + 1 + 1, k, none⟩) (by show w.heap.size ≠ w.heap.size + 1 + 1; omega) (.int .u32 (y : Int))).drew)
          have HK4 := Lib.hid ((HK4.out.far (p := ⟨w.heap.size + 1 + 1, k, none⟩) (by simp) (.int .u32 (y : Int))).drew)
          have hbw := (hbw.setCell (p := ⟨w.heap.size + 1 + 1, k, none⟩) (by show w.heap.size ≤ w.heap.size + 1 + 1; omega) (.int .u32 (y : Int))).drew
          have HLb' : Hid (∀ u ∈ L.set k y, u < 65536) := Lib.hid (by
            intro u hu
            rcases List.mem_or_eq_of_mem_set hu with h | h
            · exact HLb.out u h
            · subst h; exact o2)
          go_wp2_with fail
          go_roundw
          case rel => exact ⟨t, L.set k y, by omega, by rw [HE.out.1, HV'.out], rfl, by rw [List.length_set, HLl.out], HLb'.out, by rw [HVs.out, HLv.out, HE.out.2], HK.out, HKx.out, HK4.out, hbw⟩
          case measure => simp [intOf]; try omega
        · have t2 : ¬ (n : Int) ≤ (v : Int) := by omega
          have HE := Lib.hid (HD1.out (by omega))
          have HV' : Hid (2 * r + bit = v) := Lib.hid (by omega)
          clear HD1 HD2 hge htop hv
          go_wp2_with fail
          go_roundw
          case rel => exact ⟨t, L, by omega, by rw [HE.out.1, HV'.out], rfl, HLl.out, HLb.out, by rw [HLv.out, HE.out.2], HK.out, HKx.out, HK4.out, hbw⟩
          case measure => simp [intOf]; try omega
end Go.Proofs.YtjcnglkjjhnpbaaGreatDoor
namespace Go.Proofs.YtjcnglkjjhnpbaaGreatDoor
open Go.RowKit

set_option maxHeartbeats 1000000 in
theorem RefScale_zero (a b : Nat) (w : World) :
    Calls Tryz.prog 121 #[.int .u64 a, .int .u64 b, .int .u64 0] w (Ret (.tuple #[.int .u64 0, .int .u64 0, .int .i64 1]) w) := by
  go_enter Tryz.func121, Tryz.ntmps121
  go_wp2_with fail
  go_ret3
  exact ⟨rfl, Below.refl _ _⟩

set_option maxHeartbeats 2000000 in
set_option maxRecDepth 20000 in
theorem RefScale_some (a b c : Nat) (ha : a < 18446744073709551616) (hb : b < 18446744073709551616) (hc0 : 0 < c) (hc : c < 18446744073709551616) (w : World) :
    Calls Tryz.prog 121 #[.int .u64 a, .int .u64 b, .int .u64 c] w
      (Ret (if a * b / c < 18446744073709551616 then .tuple #[.int .u64 ((a * b / c : Nat) : Int), .int .u64 ((a * b % c : Nat) : Int), .int .i64 0] else .tuple #[.int .u64 0, .int .u64 0, .int .i64 12]) w) := by
  have hM := fun W => RefMul_any a b ha hb W
  have hN0 := of_mul a b ha hb
  obtain ⟨N, hNe⟩ : ∃ N, a * b = N := ⟨_, rfl⟩
  rw [hNe] at hM hN0 ⊢
  have hN : N < 340282366920938463463374607431768211456 := by omega
  have hD := fun W => RefDiv_any N c hN hc0 hc W
  have hql : N / c ≤ N := Nat.div_le_self N c
  obtain ⟨q, hq⟩ : ∃ q, N / c = q := ⟨_, rfl⟩
  obtain ⟨s, hs⟩ : ∃ s, N % c = s := ⟨_, rfl⟩
  rw [hq, hs] at hD
  rw [hq] at hql
  rw [hq, hs]
  have hqN : q < 340282366920938463463374607431768211456 := Nat.lt_of_le_of_lt hql hN
  have hT := fun W => Word_any q hqN true W
  have hF := fun W => Word_any q hqN false W
  obtain ⟨x0, x1, x2, x3, x4, x5, x6, x7, ex⟩ := eight (digsR 8 N) (digs_length 8 N)
  obtain ⟨y0, y1, y2, y3, y4, y5, y6, y7, ey⟩ := eight (digsR 8 q) (digs_length 8 q)
  rw [ex] at hM hD
  rw [ey] at hD hT hF
  simp only [bgv, List.map_cons, List.map_nil, if_true, Bool.false_eq_true, if_false] at hM hD hT hF
  by_cases hlt : q < 18446744073709551616
  · rw [show q / 18446744073709551616 = 0 by omega] at hT
    rw [show q % 18446744073709551616 = q by omega] at hF
    rw [if_pos hlt]
    clear ex ey hNe hN0 hN hql hq hs hqN hlt
    go_enter Tryz.func121, Tryz.ntmps121
    go_wp2_with fail
    refine (hM _).mono ?_
    rintro e w1 ⟨rfl, hb1⟩
    go_wp2_with fail
    refine (hD _).mono ?_
    rintro e w2 ⟨rfl, hb2⟩
    go_wp2_with fail
    refine (hT _).mono ?_
    rintro e w3 ⟨rfl, hb3⟩
    have h2 := (hb1.trans (hb2.mono hb1.size)).alloc (Nat.le_trans hb1.size hb2.size) (.cells #[.int .u32 y0, .int .u32 y1, .int .u32 y2, .int .u32 y3, .int .u32 y4, .int .u32 y5, .int .u32 y6, .int .u32 y7] 235)
    have hb' := h2.trans (hb3.mono h2.size)
    have HK := (Blk.new w2 235 #[.int .u32 y0, .int .u32 y1, .int .u32 y2, .int .u32 y3, .int .u32 y4, .int .u32 y5, .int .u32 y6, .int .u32 y7]).below hb3 (by simp)
    have c0 : w3.cell? ⟨w2.heap.size, 0, none⟩ = some (.int .u32 (y0 : Int)) := HK.cell 0
    have c1 : w3.cell? ⟨w2.heap.size, 1, none⟩ = some (.int .u32 (y1 : Int)) := HK.cell 1
    have c2 : w3.cell? ⟨w2.heap.size, 2, none⟩ = some (.int .u32 (y2 : Int)) := HK.cell 2
    have c3 : w3.cell? ⟨w2.heap.size, 3, none⟩ = some (.int .u32 (y3 : Int)) := HK.cell 3
    have c4 : w3.cell? ⟨w2.heap.size, 4, none⟩ = some (.int .u32 (y4 : Int)) := HK.cell 4
    have c5 : w3.cell? ⟨w2.heap.size, 5, none⟩ = some (.int .u32 (y5 : Int)) := HK.cell 5
    have c6 : w3.cell? ⟨w2.heap.size, 6, none⟩ = some (.int .u32 (y6 : Int)) := HK.cell 6
    have c7 : w3.cell? ⟨w2.heap.size, 7, none⟩ = some (.int .u32 (y7 : Int)) := HK.cell 7
    clear HK h2 hb1 hb2 hb3
    go_wp2_with fail
    refine (hF _).mono ?_
    rintro e w4 ⟨rfl, hb4⟩
    go_wp2_with fail
    go_ret3
    exact ⟨rfl, hb'.trans (hb4.mono hb'.size)⟩
  · rw [if_neg hlt]
    obtain ⟨qh, hqh⟩ : ∃ qh, q / 18446744073709551616 = qh := ⟨_, rfl⟩
    rw [hqh] at hT
    have hq0 : (0 : Int) < (qh : Int) := by omega
    clear ex ey hNe hN0 hN hql hq hs hqN hlt hqh
    go_enter Tryz.func121, Tryz.ntmps121
    go_wp2_with fail
    refine (hM _).mono ?_
    rintro e w1 ⟨rfl, hb1⟩
    go_wp2_with fail
    refine (hD _).mono ?_
    rintro e w2 ⟨rfl, hb2⟩
    go_wp2_with fail
    refine (hT _).mono ?_
    rintro e w3 ⟨rfl, hb3⟩
    go_wp2_with fail
    go_ret3
    have h2 := (hb1.trans (hb2.mono hb1.size)).alloc (Nat.le_trans hb1.size hb2.size) (.cells #[.int .u32 y0, .int .u32 y1, .int .u32 y2, .int .u32 y3, .int .u32 y4, .int .u32 y5, .int .u32 y6, .int .u32 y7] 235)
    exact ⟨rfl, h2.trans (hb3.mono h2.size)⟩
end Go.Proofs.YtjcnglkjjhnpbaaGreatDoor
namespace Go.Proofs.YtjcnglkjjhnpbaaGreatDoor
open Go.RowKit

/-- A rate of the document's. -/
def rr (p : Nat) (th : Bool) : Value := .agg #[.int .u32 (p : Int), .bool th]
set_option maxRecDepth 20000 in
set_option maxHeartbeats 4000000 in
theorem RMonth_any {P p : Nat} (th : Bool) (hP : P ≤ 1000000000000) (hp : p ≤ 1000000) (w : World) :
    Calls Tryz.prog 80 #[rr p th, .int .i64 (P : Int)] w (Ret (.int .i64 ((monthN (P * p) : Nat) : Int)) w) := by
  have hX := pp_le hP hp
  have hS := fun W => RefScale_some P p 12000000 (by omega) (by omega) (by omega) (by omega) W
  obtain ⟨X, hXe⟩ : ∃ X, P * p = X := ⟨_, rfl⟩
  rw [hXe] at hX hS ⊢
  rw [if_pos (show X / 12000000 < 18446744073709551616 by omega)] at hS
  obtain ⟨m1, m2⟩ := month_rest X
  have hb := month_bd X hX
  have i1 : IntKind.u64.wrap (P : Int) = (P : Int) := by rw [IntKind.wrap_u64]; omega
  have i2 : IntKind.u64.wrap (p : Int) = (p : Int) := by rw [IntKind.wrap_u64]; omega
  obtain ⟨q, hq⟩ : ∃ q, X / 12000000 = q := ⟨_, rfl⟩
  obtain ⟨s, hs⟩ : ∃ s, X % 12000000 = s := ⟨_, rfl⟩
  rw [hq, hs] at hS m1 m2
  obtain ⟨m, hm⟩ : ∃ m, monthN X = m := ⟨_, rfl⟩
  rw [hm] at hb m1 m2 ⊢
  have i3 : IntKind.i64.wrap (m : Int) = (m : Int) := by rw [IntKind.wrap_i64]; omega
  unfold rr
  by_cases hl : s < 6000000
  · have j1 : decide ((6000000 : Int) ≤ (s : Int)) = false := decide_eq_false (by omega)
    obtain rfl := m1 hl
    clear hP hp hX hXe m1 m2 hb hq hs hm hl
    go_enter Tryz.func80, Tryz.ntmps80
    have HQ0 := Lib.hid (Blk.new w 88 #[.int .u32 (p : Int), .bool th])
    have HB0 := Lib.hid (b_alloc w (.cells #[.int .u32 (p : Int), .bool th] 88))
    go_wp2_with fail
    refine (hS _).mono ?_
    rintro e w1 ⟨rfl, hb1⟩
    have HQ1_0 := Lib.hid (HQ0.out.below hb1 HQ0.out.lt)
    have HB1 := Lib.hid (HB0.out.trans (hb1.mono HB0.out.size))
    clear hb1
    have c1_0_0 := HQ1_0.out.cell 0
    have c1_0_1 := HQ1_0.out.cell 1
    have z1_0 := HQ1_0.out.lt
    simp at c1_0_0 c1_0_1
    go_wp2_with fail
    go_ret
    exact ⟨by first | rfl | simp, HB1.out⟩
  · have j1 : (6000000 : Int) ≤ (s : Int) := by omega
    have hm2 := m2 hl
    have i4 : (q : Int) + 1 = (m : Int) := by omega
    have i5 : IntKind.u64.wrap (m : Int) = (m : Int) := by rw [IntKind.wrap_u64]; omega
    clear hP hp hX hXe m1 m2 hb hq hs hm hl hm2
    go_enter Tryz.func80, Tryz.ntmps80
    have HQ0 := Lib.hid (Blk.new w 88 #[.int .u32 (p : Int), .bool th])
    have HB0 := Lib.hid (b_alloc w (.cells #[.int .u32 (p : Int), .bool th] 88))
    go_wp2_with fail
    refine (hS _).mono ?_
    rintro e w1 ⟨rfl, hb1⟩
    have HQ1_0 := Lib.hid (HQ0.out.below hb1 HQ0.out.lt)
    have HB1 := Lib.hid (HB0.out.trans (hb1.mono HB0.out.size))
    clear hb1
    have c1_0_0 := HQ1_0.out.cell 0
    have c1_0_1 := HQ1_0.out.cell 1
    have z1_0 := HQ1_0.out.lt
    simp at c1_0_0 c1_0_1
    go_wp2_with fail
    go_ret
    exact ⟨by first | rfl | simp, HB1.out⟩
end Go.Proofs.YtjcnglkjjhnpbaaGreatDoor
namespace Go.Proofs.YtjcnglkjjhnpbaaGreatDoor
open Go.RowKit

theorem rlN_nil (p y Q : Nat) : rlN p y 0 Q = Q := by rw [rlN]
theorem rlN_zero (p y : Nat) : ∀ n, rlN p y n 0 = 0
  | 0 => rlN_nil p y 0
  | n + 1 => by rw [rlN]; exact if_pos (Eq.refl 0)
set_option maxRecDepth 20000 in
set_option maxHeartbeats 4000000 in
theorem RLeft_any {P p n y : Nat} (th : Bool) (hP : P ≤ 1000000000000) (hp : p ≤ 1000000) (hn : n ≤ 480) (hy : y ≤ 9000000000000000000) (w : World) :
    Calls Tryz.prog 81 #[.int .i64 (P : Int), rr p th, .int .i64 (n : Int), .int .i64 (y : Int)] w (Ret (.int .i64 ((rlN p y n P : Nat) : Int)) w) := by
  have hM : ∀ (Q : Nat), Q ≤ 1000000000000 → ∀ W, Calls Tryz.prog 80 #[rr p th, .int .i64 (Q : Int)] W (Ret (.int .i64 ((mi p Q : Nat) : Int)) W) := fun Q hQ W => RMonth_any th hQ hp W
  have HM := Lib.hid hM
  have HPP := Lib.hid hp
  have HY := Lib.hid hy
  obtain ⟨B, HBV⟩ : ∃ B, Hid (rlN p y n P = B) := ⟨_, Lib.hid rfl⟩
  rw [HBV.out]
  unfold rr at HM ⊢
  clear hM hp hy
  go_enter Tryz.func81, Tryz.ntmps81
  have HQ0 := Lib.hid (Blk.new w 88 #[.int .u32 (p : Int), .bool th])
  have HB0 := Lib.hid (b_alloc w (.cells #[.int .u32 (p : Int), .bool th] 88))
  go_wp2_with fail
  go_loopw [0, 9] (fun x i wr => ∃ (k Q : Nat), k ≤ n ∧ i = .int .i64 k ∧ x = .int .i64 Q ∧ Q ≤ 1000000000000 ∧ Hid (rlN p y (n - k) Q = B) ∧ Hid (Below (w.heap.size + 1) (w.alloc (.cells #[.int .u32 (p : Int), .bool th] 88)) wr)) (fun _ i _ => n - (intOf i).toNat)
  case atStart => exact ⟨0, P, Nat.zero_le _, rfl, rfl, hP, HBV, Lib.hid (Below.refl _ _)⟩
  case round =>
    obtain ⟨k, Q, hk, rfl, rfl, hQ1, HC, HW⟩ := hrel
    have HK0 := Lib.hid (HQ0.out.below HW.out (by simp))
    have c0 := HK0.out.cell 0
    have c1 := HK0.out.cell 1
    have z0 := HK0.out.lt
    simp at c0 c1
    by_cases hlt : k < n
    · by_cases hQ0 : 0 < Q
      · have hMQ := fun W => HM.out Q hQ1 W
        have hmb := mi_bd hQ1 HPP.out
        obtain ⟨m, HMM⟩ : ∃ m, Hid (mi p Q = m) := ⟨_, Lib.hid rfl⟩
        rw [HMM.out] at hMQ hmb
        have hst : mst p y Q = Q + m - y := by unfold mst; rw [HMM.out]
        obtain ⟨j, hj⟩ : ∃ j, n - k = j + 1 := ⟨n - k - 1, by omega⟩
        have hcl := HC.out
        rw [hj, rlN, hst, HMM.out, if_neg (by omega)] at hcl
        obtain ⟨o, ho⟩ : ∃ o, Q + m = o := ⟨_, rfl⟩
        have i0 : (Q : Int) + (m : Int) = (o : Int) := by omega
        rw [ho] at hcl
        clear HC hst
        rcases (show o ≤ y ∨ (¬ o ≤ y ∧ Q ≤ o - y) ∨ (¬ o ≤ y ∧ ¬ Q ≤ o - y) by omega) with h1 | ⟨h1, h2⟩ | ⟨h1, h2⟩
        · rw [if_pos h1] at hcl
          subst hcl
          have i1 : (o : Int) ≤ (y : Int) := by omega
          have i2 : o ≤ 2000000000000 := by omega
          clear h1 ho hQ1 hmb hj
          go_wp2_with fail
          refine (hMQ _).mono ?_
          rintro e w2 ⟨rfl, hb2⟩
          go_wp2_with fail
          go_ret
          exact ⟨rfl, (HB0.out.trans (HW.out.mono (by simp))).trans (hb2.mono (by have := HW.out.size; simp at this; omega))⟩
        · rw [if_neg h1, if_pos h2] at hcl
          subst hcl
          obtain ⟨d, hd⟩ : ∃ d, o - y = d := ⟨_, rfl⟩
          have i1 : ¬ (o : Int) ≤ (y : Int) := by omega
          have i2 : (o : Int) - (y : Int) = (d : Int) := by omega
          have i3 : (Q : Int) ≤ (d : Int) := by omega
          have i4 : o ≤ 2000000000000 := by omega
          have i5 : d ≤ 2000000000000 := by omega
          clear h1 h2 ho hQ1 hmb hd hj
          go_wp2_with fail
          refine (hMQ _).mono ?_
          rintro e w2 ⟨rfl, hb2⟩
          go_wp2_with fail
          go_ret
          exact ⟨rfl, (HB0.out.trans (HW.out.mono (by simp))).trans (hb2.mono (by have := HW.out.size; simp at this; omega))⟩
        · rw [if_neg h1, if_neg h2] at hcl
          obtain ⟨d, hd⟩ : ∃ d, o - y = d := ⟨_, rfl⟩
          rw [hd] at hcl
          have i1 : ¬ (o : Int) ≤ (y : Int) := by omega
          have i2 : (o : Int) - (y : Int) = (d : Int) := by omega
          have i3 : ¬ (Q : Int) ≤ (d : Int) := by omega
          have i4 : o ≤ 2000000000000 := by omega
          have i5 : d ≤ 2000000000000 := by omega
          have i6 : d ≤ 1000000000000 := by omega
          have HC2 : Hid (rlN p y (n - (k + 1)) d = B) := Lib.hid (by rw [show n - (k + 1) = j by omega]; exact hcl)
          clear h1 h2 ho hQ1 hmb hd hcl hj
          go_wp2_with fail
          refine (hMQ _).mono ?_
          rintro e w2 ⟨rfl, hb2⟩
          go_wp2_with fail
          go_roundw
          case rel => exact ⟨k + 1, d, by omega, by go_num, rfl, i6, HC2, Lib.hid (HW.out.trans (hb2.mono (by have := HW.out.size; simp at this; omega)))⟩
          case measure => simp [intOf]; omega
      · obtain rfl : Q = 0 := by omega
        have hB : B = 0 := by
          exact (HC.out.symm.trans (rlN_zero p y _))
        subst hB
        go_wp2_with fail
        go_ret
        exact ⟨rfl, HB0.out.trans (HW.out.mono (by simp))⟩
    · have hkn : k = n := by omega
      subst hkn
      have hB : B = Q := HC.out.symm.trans (by rw [Nat.sub_self]; exact rlN_nil p y Q)
      subst hB
      go_wp2_with fail
      go_ret
      exact ⟨rfl, HB0.out.trans (HW.out.mono (by simp))⟩
end Go.Proofs.YtjcnglkjjhnpbaaGreatDoor
