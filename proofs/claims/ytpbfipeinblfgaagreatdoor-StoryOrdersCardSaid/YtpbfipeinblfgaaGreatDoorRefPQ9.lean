/-
Numbers in digits of 16 bits: what the references reckon, in natural numbers. No condition.
The references' Of and Word. No condition but the numbers' kinds.
The references' Mul: part by part. No condition but the numbers' kinds.
-/
import Derived.Test.YtpbfipeinblfgaaGreatDoorMemQ9
import Derived.Handy
import Derived.RegionTactic
namespace Go.Proofs.YtpbfipeinblfgaaGreatDoor

/-- The number whose digits these are, the lowest first. -/
def valR : List Nat → Nat
  | [] => 0
  | a :: l => a + 65536 * valR l
/-- The first k digits of n. -/
def digsR : Nat → Nat → List Nat
  | 0, _ => []
  | k + 1, n => n % 65536 :: digsR k (n / 65536)
theorem digs_length (k n : Nat) : (digsR k n).length = k := by
  induction k generalizing n with
  | zero => rfl
  | succ k ih => simp [digsR, ih]
theorem digs_lt (k n : Nat) : ∀ u ∈ digsR k n, u < 65536 := by
  induction k generalizing n with
  | zero => intro u hu; cases hu
  | succ k ih =>
    intro u hu
    rcases List.mem_cons.1 hu with rfl | h
    · exact Nat.mod_lt _ (by decide)
    · exact ih _ u h
theorem val_digsR (k n : Nat) (h : n < 65536 ^ k) : valR (digsR k n) = n := by
  induction k generalizing n with
  | zero => simp at h; subst h; rfl
  | succ k ih =>
    have h' : n / 65536 < 65536 ^ k := by
      rw [Nat.div_lt_iff_lt_mul (by decide)]
      rw [Nat.pow_succ] at h
      exact h
    simp only [digsR, valR, ih _ h']
    omega
theorem digs_valR (l : List Nat) (hl : ∀ u ∈ l, u < 65536) : digsR l.length (valR l) = l := by
  induction l with
  | nil => rfl
  | cons a l ih =>
    have ha := hl a (List.mem_cons_self ..)
    simp only [valR, List.length_cons, digsR]
    rw [show (a + 65536 * valR l) % 65536 = a by omega, show (a + 65536 * valR l) / 65536 = valR l by omega, ih (fun u hu => hl u (List.mem_cons_of_mem _ hu))]
theorem val_set (l : List Nat) (k a : Nat) (hk : k < l.length) (d : Nat) (ha : a = l[k] + d) : valR (l.set k a) = valR l + d * 65536 ^ k := by
  subst ha
  induction l generalizing k with
  | nil => simp at hk
  | cons b l ih =>
    rcases k with _ | k
    · simp only [List.set_cons_zero, valR, List.getElem_cons_zero, Nat.pow_zero, Nat.mul_one]
      omega
    · simp only [List.set_cons_succ, valR, List.getElem_cons_succ]
      rw [ih k (by simpa using hk), Nat.mul_add, Nat.pow_succ, ← Nat.add_assoc, ← Nat.mul_assoc, Nat.mul_comm (65536 * d), ← Nat.mul_assoc, Nat.mul_comm d]
theorem val_append (l m : List Nat) : valR (l ++ m) = valR l + 65536 ^ l.length * valR m := by
  induction l with
  | nil => simp [valR]
  | cons a l ih =>
    simp only [List.cons_append, valR, ih, List.length_cons, Nat.pow_succ]
    rw [Nat.mul_add, Nat.add_assoc, ← Nat.mul_assoc, Nat.mul_comm 65536 (65536 ^ l.length)]
theorem val_ltR (l : List Nat) (hl : ∀ u ∈ l, u < 65536) : valR l < 65536 ^ l.length := by
  induction l with
  | nil => decide
  | cons a l ih =>
    have ha := hl a (List.mem_cons_self ..)
    have := ih (fun u hu => hl u (List.mem_cons_of_mem _ hu))
    simp only [valR, List.length_cons, Nat.pow_succ]
    omega
/-- A digit of a number. -/
theorem digit_at (l : List Nat) (k : Nat) (hk : k < l.length) (hl : ∀ u ∈ l, u < 65536) : l[k] = valR l / 65536 ^ k % 65536 := by
  induction l generalizing k with
  | nil => simp at hk
  | cons b l ih =>
    have hb := hl b (List.mem_cons_self ..)
    rcases k with _ | k
    · simp only [List.getElem_cons_zero, valR, Nat.pow_zero, Nat.div_one]
      omega
    · simp only [List.getElem_cons_succ, valR]
      rw [ih k (by simpa using hk) (fun u hu => hl u (List.mem_cons_of_mem _ hu)), Nat.pow_succ, Nat.mul_comm (65536 ^ k), ← Nat.div_div_eq_div_mul]
      rw [show (b + 65536 * valR l) / 65536 = valR l by omega]
theorem digs_append (j k a b : Nat) (h : a < 65536 ^ j) : digsR (j + k) (b * 65536 ^ j + a) = digsR j a ++ digsR k b := by
  induction j generalizing a with
  | zero =>
    simp at h
    subst h
    simp [digsR]
  | succ j ih =>
    have h' : a / 65536 < 65536 ^ j := by
      rw [Nat.div_lt_iff_lt_mul (by decide)]
      rw [Nat.pow_succ] at h
      exact h
    rw [show j + 1 + k = j + k + 1 by omega]
    simp only [digsR, List.cons_append]
    rw [Nat.pow_succ, ← Nat.mul_assoc]
    rw [show (b * 65536 ^ j * 65536 + a) % 65536 = a % 65536 by omega, show (b * 65536 ^ j * 65536 + a) / 65536 = b * 65536 ^ j + a / 65536 by omega, ih _ h']
theorem digs_two (hi lo : Nat) (h : lo < 18446744073709551616) : digsR 8 (hi * 18446744073709551616 + lo) = digsR 4 lo ++ digsR 4 hi := digs_append 4 4 lo hi h
theorem eight (l : List Nat) (h : l.length = 8) : ∃ a b c d e f g i, l = [a, b, c, d, e, f, g, i] := by
  match l, h with
  | [a, b, c, d, e, f, g, i], _ => exact ⟨a, b, c, d, e, f, g, i, rfl⟩
/-- 65536 ^ k written out -/
theorem pow_bit (i : Nat) : 65536 ^ (i / 16) * 2 ^ (i % 16) = 2 ^ i := by
  rw [show (65536 : Nat) = 2 ^ 16 from rfl, ← Nat.pow_mul, ← Nat.pow_add, show 16 * (i / 16) + i % 16 = i by omega]
end Go.Proofs.YtpbfipeinblfgaaGreatDoor
namespace Go.Proofs.YtpbfipeinblfgaaGreatDoor
open Go.RowKit

def bgv (l : List Nat) : Value := .agg (l.map fun n : Nat => Value.int .u32 (n : Int)).toArray

set_option maxHeartbeats 4000000 in
set_option maxRecDepth 20000 in
theorem Of_any (hi lo : Nat) (h1 : hi < 18446744073709551616) (h2 : lo < 18446744073709551616) (w : World) :
    Calls Tryz.prog 65 #[.int .u64 hi, .int .u64 lo] w fun e w' => e = .returned (bgv (digsR 8 (hi * 18446744073709551616 + lo))) ∧ Below w.heap.size w w' := by
  go_enter Tryz.func65, Tryz.ntmps65
  go_wp2
  go_rounds 5
  go_returns
  refine ⟨?_, ((Below.refl _ _).alloc (Nat.le_refl _) _).alloc (by simp) _⟩
  rw [digs_two hi lo h2]
  simp only [bgv, digsR, List.map_cons, List.map_nil, List.cons_append, List.nil_append, Int.natCast_emod, Int.natCast_ediv]
  rfl

set_option maxHeartbeats 4000000 in
set_option maxRecDepth 20000 in
theorem Word_true (a b c d e f g i : Nat) (he : e < 65536) (hf : f < 65536) (hg : g < 65536) (hi : i < 65536) (w : World) :
    Calls Tryz.prog 68 #[bgv [a, b, c, d, e, f, g, i], .bool true] w fun en w' => en = .returned (.int .u64 (valR [e, f, g, i] : Nat)) ∧ Below w.heap.size w w' := by
  simp only [bgv, List.map_cons, List.map_nil]
  go_enter Tryz.func68, Tryz.ntmps68
  go_wp2
  go_rounds 5
  go_returns
  refine ⟨?_, (Below.refl _ _).alloc (Nat.le_refl _) _⟩
  have hv : (valR [e, f, g, i] : Nat) = (((i * 65536 + g) * 65536 + f) * 65536 + e) := by simp only [valR]; omega
  rw [hv]
  rfl

set_option maxHeartbeats 4000000 in
set_option maxRecDepth 20000 in
theorem Word_false (a b c d e f g i : Nat) (ha : a < 65536) (hb : b < 65536) (hc : c < 65536) (hd : d < 65536) (w : World) :
    Calls Tryz.prog 68 #[bgv [a, b, c, d, e, f, g, i], .bool false] w fun en w' => en = .returned (.int .u64 (valR [a, b, c, d] : Nat)) ∧ Below w.heap.size w w' := by
  simp only [bgv, List.map_cons, List.map_nil]
  go_enter Tryz.func68, Tryz.ntmps68
  go_wp2
  go_rounds 5
  go_returns
  refine ⟨?_, (Below.refl _ _).alloc (Nat.le_refl _) _⟩
  have hv : (valR [a, b, c, d] : Nat) = (((d * 65536 + c) * 65536 + b) * 65536 + a) := by simp only [valR]; omega
  rw [hv]
  rfl

/-- The two words of n. -/
theorem Word_any (n : Nat) (h : n < 340282366920938463463374607431768211456) (b : Bool) (w : World) :
    Calls Tryz.prog 68 #[bgv (digsR 8 n), .bool b] w fun en w' => en = .returned (.int .u64 ((if b then n / 18446744073709551616 else n % 18446744073709551616 : Nat) : Int)) ∧ Below w.heap.size w w' := by
  have e : n = n / 18446744073709551616 * 18446744073709551616 + n % 18446744073709551616 := by omega
  have hlo : n % 18446744073709551616 < 18446744073709551616 := by omega
  have hhi : n / 18446744073709551616 < 18446744073709551616 := by omega
  obtain ⟨hi, ehi⟩ : ∃ hi, n / 18446744073709551616 = hi := ⟨_, rfl⟩
  obtain ⟨lo, elo⟩ : ∃ lo, n % 18446744073709551616 = lo := ⟨_, rfl⟩
  rw [ehi, elo] at e
  rw [ehi] at hhi ⊢
  rw [elo] at hlo ⊢
  subst e
  clear ehi elo h
  rw [digs_two hi lo hlo]
  have v1 : valR (digsR 4 hi) = hi := val_digsR 4 hi hhi
  have v2 : valR (digsR 4 lo) = lo := val_digsR 4 lo hlo
  have d1 := digs_lt 4 hi
  have d2 := digs_lt 4 lo
  obtain ⟨a1, a2, a3, a4, e1⟩ : ∃ a b c d, digsR 4 hi = [a, b, c, d] := ⟨_, _, _, _, rfl⟩
  obtain ⟨b1, b2, b3, b4, e2⟩ : ∃ a b c d, digsR 4 lo = [a, b, c, d] := ⟨_, _, _, _, rfl⟩
  rw [e1] at v1 d1 ⊢
  rw [e2] at v2 d2 ⊢
  cases b
  · simp only [Bool.false_eq_true, if_false]
    rw [← v2]
    exact Word_false b1 b2 b3 b4 a1 a2 a3 a4 (d2 _ (by simp)) (d2 _ (by simp)) (d2 _ (by simp)) (d2 _ (by simp)) w
  · simp only [if_true]
    rw [← v1]
    exact Word_true b1 b2 b3 b4 a1 a2 a3 a4 (d1 _ (by simp)) (d1 _ (by simp)) (d1 _ (by simp)) (d1 _ (by simp)) w
end Go.Proofs.YtpbfipeinblfgaaGreatDoor
namespace Go.Proofs.YtpbfipeinblfgaaGreatDoor
open Go.RowKit

theorem pick4 (x0 x1 x2 x3 x4 x5 x6 x7 : Nat) (i : Nat) (hi : i < 4) : (#[Value.int .u32 (x0 : Int), .int .u32 (x1 : Int), .int .u32 (x2 : Int), .int .u32 (x3 : Int), .int .u32 (x4 : Int), .int .u32 (x5 : Int), .int .u32 (x6 : Int), .int .u32 (x7 : Int)])[i]? = some (.int .u32 (([x0, x1, x2, x3].getD i 0 : Nat) : Int)) := by
  rcases i with _ | _ | _ | _ | i
  · rfl
  · rfl
  · rfl
  · rfl
  · omega
theorem getD_lt (x0 x1 x2 x3 : Nat) (h : x0 < 65536 ∧ x1 < 65536 ∧ x2 < 65536 ∧ x3 < 65536) (i : Nat) : [x0, x1, x2, x3].getD i 0 < 65536 := by
  rcases i with _ | _ | _ | _ | i <;> simp [List.getD] <;> omega
theorem val_take (l : List Nat) (i : Nat) (h : i < l.length) : valR (l.take (i + 1)) = valR (l.take i) + 65536 ^ i * l.getD i 0 := by
  rw [List.take_succ_eq_append_getElem h, val_append, List.length_take, Nat.min_eq_left (by omega)]
  simp only [valR, Nat.mul_zero, Nat.add_zero]
  rw [List.getD_eq_getElem?_getD, List.getElem?_eq_getElem h]
  rfl
theorem mul_step (T i j X Y P V : Nat) (h : X * Y = P) : T + 65536 ^ i * (X * V) + P % 65536 * 65536 ^ (i + j) + P / 65536 * 65536 ^ (i + j + 1) = T + 65536 ^ i * (X * (V + 65536 ^ j * Y)) := by
  have e : P % 65536 * 65536 ^ (i + j) + P / 65536 * 65536 ^ (i + j + 1) = P * 65536 ^ (i + j) := by
    rw [Nat.pow_succ, Nat.mul_comm (65536 ^ (i + j)) 65536, ← Nat.mul_assoc, ← Nat.add_mul]
    congr 1
    omega
  rw [Nat.add_assoc (T + _), e, ← h, Nat.pow_add, Nat.mul_add X, Nat.mul_add (65536 ^ i), Nat.add_assoc]
  congr 2
  rw [Nat.mul_comm (X * Y), Nat.mul_assoc, Nat.mul_left_comm X (65536 ^ j) Y]
theorem digs_last (k n : Nat) : digsR (k + 1) n = digsR k n ++ [n / 65536 ^ k % 65536] := by
  induction k generalizing n with
  | zero => simp [digsR]
  | succ k ih =>
    rw [digsR, ih (n / 65536)]
    simp only [digsR, List.cons_append]
    rw [Nat.div_div_eq_div_mul, Nat.pow_succ, Nat.mul_comm 65536]
theorem carry (f : List Nat) (k o : Nat) (hk : k < f.length) (ho : o = valR (f.take k) / 65536 ^ k) :
    (f.getD k 0 + o) % 65536 = valR f / 65536 ^ k % 65536 ∧ (f.getD k 0 + o) / 65536 = valR (f.take (k + 1)) / 65536 ^ (k + 1) := by
  have hp : 0 < 65536 ^ k := Nat.pow_pos (by decide)
  have e1 : f.getD k 0 + o = valR (f.take (k + 1)) / 65536 ^ k := by
    rw [val_take f k hk, Nat.add_mul_div_left _ _ hp, ho, Nat.add_comm]
  have e2 : valR f = valR (f.take (k + 1)) + 65536 ^ k * (65536 * valR (f.drop (k + 1))) := by
    have h := val_append (f.take (k + 1)) (f.drop (k + 1))
    rw [List.take_append_drop, List.length_take, Nat.min_eq_left (by omega), Nat.pow_succ, Nat.mul_assoc] at h
    exact h
  constructor
  · rw [e1, e2, Nat.add_mul_div_left _ _ hp, Nat.add_mul_mod_self_left]
  · rw [e1, Nat.div_div_eq_div_mul, Nat.pow_succ]
theorem set_row32 (f : List Nat) (k p : Nat) : (f.map fun n : Nat => Value.int .u32 (n : Int)).toArray.setIfInBounds k (.int .u32 (p : Int)) = ((f.set k p).map fun n : Nat => Value.int .u32 (n : Int)).toArray := by
  rw [List.map_set]
  simp
theorem take_set (L : List Nat) (k d n : Nat) (hk : k < L.length) (h : L.take k = digsR k n) (hd : d = n / 65536 ^ k % 65536) : (L.set k d).take (k + 1) = digsR (k + 1) n := by
  rw [List.take_succ_eq_append_getElem (by rw [List.length_set]; exact hk), List.getElem_set_self, digs_last, ← h, ← hd]
  congr 1
  rw [List.take_set, List.set_eq_of_length_le (by rw [List.length_take]; omega)]
theorem set_row (f : List Nat) (k p : Nat) : (f.map fun n : Nat => Value.int .u64 (n : Int)).toArray.setIfInBounds k (.int .u64 (p : Int)) = ((f.set k p).map fun n : Nat => Value.int .u64 (n : Int)).toArray := by
  rw [List.map_set]
  simp
set_option maxHeartbeats 4000000 in
set_option maxRecDepth 20000 in
theorem RefMul_any (a b : Nat) (ha : a < 18446744073709551616) (hb : b < 18446744073709551616) (w : World) :
    Calls Tryz.prog 64 #[.int .u64 a, .int .u64 b] w fun e w' => e = .returned (bgv (digsR 8 (a * b))) ∧ Below w.heap.size w w' := by
  have hA := fun W => Of_any 0 a (by decide) ha W
  have hB := fun W => Of_any 0 b (by decide) hb W
  rw [Nat.zero_mul, Nat.zero_add] at hA hB
  obtain ⟨x0, x1, x2, x3, x4, x5, x6, x7, ex⟩ := eight (digsR 8 a) (digs_length 8 a)
  obtain ⟨y0, y1, y2, y3, y4, y5, y6, y7, ey⟩ := eight (digsR 8 b) (digs_length 8 b)
  have HXl : Hid (x0 < 65536 ∧ x1 < 65536 ∧ x2 < 65536 ∧ x3 < 65536) := Lib.hid (by have h := digs_lt 8 a; rw [ex] at h; exact ⟨h _ (by simp), h _ (by simp), h _ (by simp), h _ (by simp)⟩)
  have HYl : Hid (y0 < 65536 ∧ y1 < 65536 ∧ y2 < 65536 ∧ y3 < 65536) := Lib.hid (by have h := digs_lt 8 b; rw [ey] at h; exact ⟨h _ (by simp), h _ (by simp), h _ (by simp), h _ (by simp)⟩)
  have HX : Hid (digsR 8 a = [x0, x1, x2, x3, x4, x5, x6, x7]) := Lib.hid ex
  have HY : Hid (digsR 8 b = [y0, y1, y2, y3, y4, y5, y6, y7]) := Lib.hid ey
  rw [ex] at hA
  rw [ey] at hB
  clear ex ey
  simp only [bgv, List.map_cons, List.map_nil] at hA hB
  go_enter Tryz.func64, Tryz.ntmps64
  go_wp2_with fail
  refine (hA _).mono ?_
  rintro e w1 ⟨rfl, hb1⟩
  go_wp2_with fail
  refine (hB _).mono ?_
  rintro e w2 ⟨rfl, hb2⟩
  go_wp2_with fail
  have HB : Hid (Below w.heap.size w w2) := Lib.hid ((Below.refl _ _).alloc (Nat.le_refl _) _ |>.trans (hb1.mono (by simp)) |>.trans (hb2.mono (by have := hb1.size; simp at this; omega)))
  have hG : w.heap.size < w2.heap.size := by have := hb1.size; have := hb2.size; simp at *; omega
  have hG4 : w2.heap[w.heap.size]? = some (.cells #[.int .u32 0, .int .u32 0, .int .u32 0, .int .u32 0, .int .u32 0, .int .u32 0, .int .u32 0, .int .u32 0] 133) := by
    have h := Blk.new w 133 #[.int .u32 0, .int .u32 0, .int .u32 0, .int .u32 0, .int .u32 0, .int .u32 0, .int .u32 0, .int .u32 0]
    have h1 := h.below hb1 (by simp)
    exact h1.below hb2 h1.lt
  obtain ⟨G, hGe⟩ : ∃ G, w2.heap.size = G := ⟨_, rfl⟩
  rw [hGe] at hG ⊢
  go_loopw [8] (fun v wr => ∃ i : Nat, i ≤ 4 ∧ v = .int .i64 i ∧ ∃ f : List Nat, f.length = 9 ∧ (∀ u ∈ f, u ≤ (4 * i) * 131072) ∧ valR f = valR ([x0, x1, x2, x3].take i) * valR [y0, y1, y2, y3] ∧
      Blk wr (G + 1 + 1) 179 (f.map fun n : Nat => Value.int .u64 (n : Int)).toArray ∧ Blk wr G 133 #[.int .u32 x0, .int .u32 x1, .int .u32 x2, .int .u32 x3, .int .u32 x4, .int .u32 x5, .int .u32 x6, .int .u32 x7] ∧
      Blk wr (G + 1) 133 #[.int .u32 y0, .int .u32 y1, .int .u32 y2, .int .u32 y3, .int .u32 y4, .int .u32 y5, .int .u32 y6, .int .u32 y7] ∧ Below G w2 wr) (fun v _ => 4 - (intOf v).toNat)
  case atStart =>
    refine ⟨0, by omega, rfl, List.replicate 9 0, rfl, fun u hu => by rw [List.eq_of_mem_replicate hu]; omega, by simp [valR], ?_, ?_, ?_, ?_⟩
    · rw [← hGe]
      have h := Blk.new ((w2.alloc (.cells #[.int .u32 x0, .int .u32 x1, .int .u32 x2, .int .u32 x3, .int .u32 x4, .int .u32 x5, .int .u32 x6, .int .u32 x7] 133)).alloc (.cells #[.int .u32 y0, .int .u32 y1, .int .u32 y2, .int .u32 y3, .int .u32 y4, .int .u32 y5, .int .u32 y6, .int .u32 y7] 133)) 179 #[.int .u64 0, .int .u64 0, .int .u64 0, .int .u64 0, .int .u64 0, .int .u64 0, .int .u64 0, .int .u64 0, .int .u64 0]
      simp only [World.size_alloc] at h
      exact h
    · rw [← hGe]
      exact ((Blk.new w2 _ _).alloc _).alloc _
    · rw [← hGe]
      have h := Blk.new (w2.alloc (.cells #[.int .u32 x0, .int .u32 x1, .int .u32 x2, .int .u32 x3, .int .u32 x4, .int .u32 x5, .int .u32 x6, .int .u32 x7] 133)) 133 #[.int .u32 y0, .int .u32 y1, .int .u32 y2, .int .u32 y3, .int .u32 y4, .int .u32 y5, .int .u32 y6, .int .u32 y7]
      simp only [World.size_alloc] at h
      exact h.alloc _
    · rw [← hGe]
      exact (((Below.refl _ _).alloc (Nat.le_refl _) _).alloc (by simp) _).alloc (by simp; omega) _
  case round =>
    obtain ⟨i, hi, rfl, f, hfl, hfb, hfv, hK7, hK5, hK6, hbl⟩ := hrel
    by_cases hi4 : i < 4
    · go_wp2_with fail
      go_loopw [9] (fun v wr => ∃ j : Nat, j ≤ 4 ∧ v = .int .i64 j ∧ ∃ f : List Nat, f.length = 9 ∧ (∀ u ∈ f, u ≤ (4 * i + j) * 131072) ∧ valR f = valR ([x0, x1, x2, x3].take i) * valR [y0, y1, y2, y3] + 65536 ^ i * ([x0, x1, x2, x3].getD i 0 * valR ([y0, y1, y2, y3].take j)) ∧
          Blk wr (G + 1 + 1) 179 (f.map fun n : Nat => Value.int .u64 (n : Int)).toArray ∧ Blk wr G 133 #[.int .u32 x0, .int .u32 x1, .int .u32 x2, .int .u32 x3, .int .u32 x4, .int .u32 x5, .int .u32 x6, .int .u32 x7] ∧
          Blk wr (G + 1) 133 #[.int .u32 y0, .int .u32 y1, .int .u32 y2, .int .u32 y3, .int .u32 y4, .int .u32 y5, .int .u32 y6, .int .u32 y7] ∧ Below G w2 wr) (fun v _ => 4 - (intOf v).toNat)
      case atStart => exact ⟨0, by omega, rfl, f, hfl, hfb, by rw [hfv]; simp [valR], hK7, hK5, hK6, hbl⟩
      case round =>
        obtain ⟨j, hj, rfl, f, hfl, hfb, hfv, hK7, hK5, hK6, hbl⟩ := hrel
        by_cases hj4 : j < 4
        · go_wp2_with fail
          have c5 : wr.cell? ⟨G, i, none⟩ = some (.int .u32 (([x0, x1, x2, x3].getD i 0 : Nat) : Int)) := (hK5.cell i).trans (pick4 x0 x1 x2 x3 x4 x5 x6 x7 i hi4)
          have c6 : wr.cell? ⟨G + 1, j, none⟩ = some (.int .u32 (([y0, y1, y2, y3].getD j 0 : Nat) : Int)) := (hK6.cell j).trans (pick4 y0 y1 y2 y3 y4 y5 y6 y7 j hj4)
          have hXl := getD_lt x0 x1 x2 x3 HXl.out i
          have hYl := getD_lt y0 y1 y2 y3 HYl.out j
          obtain ⟨X, hX⟩ : ∃ X, [x0, x1, x2, x3].getD i 0 = X := ⟨_, rfl⟩
          obtain ⟨Y, hY⟩ : ∃ Y, [y0, y1, y2, y3].getD j 0 = Y := ⟨_, rfl⟩
          rw [hX] at c5 hXl hfv
          rw [hY] at c6 hYl
          have hk9 : i + j < f.length := by omega
          have c7 : wr.cell? ⟨G + 1 + 1, i + j, none⟩ = some (.int .u64 ((f[i + j] : Nat) : Int)) := (hK7.cell (i + j)).trans (by simp [hk9])
          have f7 : wr.frozen? ⟨G + 1 + 1, i + j, none⟩ = false := hK7.frozen (i + j)
          have hp := hfb f[i + j] (List.getElem_mem hk9)
          obtain ⟨p, hpe⟩ : ∃ p, f[i + j] = p := ⟨_, rfl⟩
          rw [hpe] at c7 hp
          obtain ⟨P, hP⟩ : ∃ P, X * Y = P := ⟨_, rfl⟩
          have hPl : P ≤ 65535 * 65535 := by rw [← hP]; exact Nat.mul_le_mul (by omega) (by omega)
          have i1 : (X : Int) * (Y : Int) = (P : Int) := by rw [← Int.natCast_mul, hP]
          have HV := Lib.hid hfv
          have HF := Lib.hid hfb
          have HK7 := Lib.hid hK7
          have HK6 := Lib.hid hK6
          have HK5 := Lib.hid hK5
          have HXe := Lib.hid hX
          have HYe := Lib.hid hY
          have HPe := Lib.hid hpe
          have HFl := Lib.hid hfl
          clear hfv hfb hK7 hK6 hK5 hX hY hpe hfl
          obtain ⟨p1, hp1⟩ : ∃ p1, p + P % 65536 = p1 := ⟨_, rfl⟩
          go_region
          rw [show (p : Int) + (P : Int) % 65536 = (p1 : Int) by omega]
          have HK7' := Lib.hid ((HK7.out.set_ (i + j) (.int .u64 (p1 : Int))).drew)
          rw [set_row] at HK7'
          have HK6' := Lib.hid ((HK6.out.far (p := ⟨G + 1 + 1, i + j, none⟩) (by simp) (.int .u64 (p1 : Int))).drew)
          have HK5' := Lib.hid ((HK5.out.far (p := ⟨G + 1 + 1, i + j, none⟩) (by show G ≠ G + 1 + 1; omega) (.int .u64 (p1 : Int))).drew)
          have hbl' := (hbl.setCell (p := ⟨G + 1 + 1, i + j, none⟩) (by show G ≤ G + 1 + 1; omega) (.int .u64 (p1 : Int))).drew
          obtain ⟨wr1, hwr1⟩ : ∃ W, (wr.setCell ⟨G + 1 + 1, i + j, none⟩ (.int .u64 (p1 : Int))).drew = W := ⟨_, rfl⟩
          rw [hwr1] at HK7' HK6' HK5' hbl' ⊢
          clear hwr1 HK7 HK6 HK5 hbl c5 c6 c7 f7
          have c5 : wr1.cell? ⟨G, i, none⟩ = some (.int .u32 (X : Int)) := by rw [← HXe.out]; exact (HK5'.out.cell i).trans (pick4 x0 x1 x2 x3 x4 x5 x6 x7 i hi4)
          have c6 : wr1.cell? ⟨G + 1, j, none⟩ = some (.int .u32 (Y : Int)) := by rw [← HYe.out]; exact (HK6'.out.cell j).trans (pick4 y0 y1 y2 y3 y4 y5 y6 y7 j hj4)
          obtain ⟨f1, hf1⟩ : ∃ f1, f.set (i + j) p1 = f1 := ⟨_, rfl⟩
          rw [hf1] at HK7'
          have hl1 : f1.length = 9 := by rw [← hf1, List.length_set, HFl.out]
          have hk10 : i + j + 1 < f1.length := by omega
          have c7 : wr1.cell? ⟨G + 1 + 1, i + j + 1, none⟩ = some (.int .u64 ((f1[i + j + 1] : Nat) : Int)) := (HK7'.out.cell (i + j + 1)).trans (by simp [hk10])
          have f7 : wr1.frozen? ⟨G + 1 + 1, i + j + 1, none⟩ = false := HK7'.out.frozen (i + j + 1)
          have hfb1 : ∀ u ∈ f1, u ≤ (4 * i + j) * 131072 + 65536 := by
            intro u hu
            rw [← hf1] at hu
            rcases List.mem_or_eq_of_mem_set hu with h | h
            · exact Nat.le_trans (HF.out u h) (Nat.le_add_right _ _)
            · subst h; omega
          have hq := hfb1 f1[i + j + 1] (List.getElem_mem hk10)
          have hv1 : valR f1 = valR f + P % 65536 * 65536 ^ (i + j) := by rw [← hf1]; exact val_set f (i + j) p1 hk9 (P % 65536) (by rw [HPe.out]; exact hp1.symm)
          obtain ⟨q, hqe⟩ : ∃ q, f1[i + j + 1] = q := ⟨_, rfl⟩
          rw [hqe] at c7 hq
          obtain ⟨q1, hq1⟩ : ∃ q1, q + P / 65536 = q1 := ⟨_, rfl⟩
          have HV1 := Lib.hid hv1
          have HF1 := Lib.hid hfb1
          have HQe := Lib.hid hqe
          have HL1 := Lib.hid hl1
          have HP1 := Lib.hid hp1
          have HQ1 := Lib.hid hq1
          have HP := Lib.hid hP
          clear hv1 hfb1 hqe hl1 hp1 hf1 hq1 hP
          go_wp2_with fail
          go_region
          rw [show (q : Int) + (P : Int) / 65536 = (q1 : Int) by have := HQ1.out; omega]
          have HK7 := Lib.hid ((HK7'.out.set_ (i + j + 1) (.int .u64 (q1 : Int))).drew)
          rw [set_row] at HK7
          have HK6 := Lib.hid ((HK6'.out.far (p := ⟨G + 1 + 1, i + j + 1, none⟩) (by simp) (.int .u64 (q1 : Int))).drew)
          have HK5 := Lib.hid ((HK5'.out.far (p := ⟨G + 1 + 1, i + j + 1, none⟩) (by show G ≠ G + 1 + 1; omega) (.int .u64 (q1 : Int))).drew)
          have hbl := (hbl'.setCell (p := ⟨G + 1 + 1, i + j + 1, none⟩) (by show G ≤ G + 1 + 1; omega) (.int .u64 (q1 : Int))).drew
          obtain ⟨wr2, hwr2⟩ : ∃ W, (wr1.setCell ⟨G + 1 + 1, i + j + 1, none⟩ (.int .u64 (q1 : Int))).drew = W := ⟨_, rfl⟩
          rw [hwr2] at HK7 HK6 HK5 hbl ⊢
          clear hwr2 HK7' HK6' HK5' hbl' c5 c6 c7 f7
          have HB2 : Hid (∀ u ∈ f1.set (i + j + 1) q1, u ≤ (4 * i + (j + 1)) * 131072) := Lib.hid (by
            have hQ1 := HQ1.out
            intro u hu
            rcases List.mem_or_eq_of_mem_set hu with h | h
            · exact Nat.le_trans (HF1.out u h) (by omega)
            · subst h; omega)
          have HV2 : Hid (valR (f1.set (i + j + 1) q1) = valR ([x0, x1, x2, x3].take i) * valR [y0, y1, y2, y3] + 65536 ^ i * (X * valR ([y0, y1, y2, y3].take (j + 1)))) := Lib.hid (by
            rw [val_set f1 (i + j + 1) q1 hk10 (P / 65536) (by rw [HQe.out]; exact HQ1.out.symm), HV1.out, HV.out, val_take [y0, y1, y2, y3] j hj4, HYe.out]
            exact mul_step _ i j X Y P _ HP.out)
          go_wp2_with fail
          go_roundw
          case rel => exact ⟨j + 1, by omega, by go_num, f1.set (i + j + 1) q1, by rw [List.length_set, HL1.out], HB2.out, by rw [HXe.out]; exact HV2.out, HK7.out, HK5.out, HK6.out, hbl⟩
          case measure => simp [intOf]; omega
        · have hj5 : j = 4 := by omega
          subst hj5
          have HV := Lib.hid hfv
          have HF := Lib.hid hfb
          have HK7 := Lib.hid hK7
          have HK6 := Lib.hid hK6
          have HK5 := Lib.hid hK5
          have HFl := Lib.hid hfl
          clear hfv hfb hK7 hK6 hK5 hfl
          go_wp2_with fail
          go_roundw
          case rel =>
            refine ⟨i + 1, by omega, by go_num, f, HFl.out, fun u hu => ?_, ?_, HK7.out, HK5.out, HK6.out, hbl⟩
            · have := HF.out u hu; omega
            · rw [HV.out, val_take [x0, x1, x2, x3] i hi4, Nat.add_mul, Nat.mul_assoc]
              rfl
          case measure => simp [intOf]; omega
    · have hi5 : i = 4 := by omega
      subst hi5
      have hX4 : valR [x0, x1, x2, x3] = a := by
        have h := HX.out
        have h2 := digs_two 0 a ha
        rw [Nat.zero_mul, Nat.zero_add, h] at h2
        have h3 : [x0, x1, x2, x3] = digsR 4 a := by
          have := congrArg (List.take 4) h2
          rwa [List.take_left' (digs_length 4 a)] at this
        rw [h3, val_digsR 4 a ha]
      have hY4 : valR [y0, y1, y2, y3] = b := by
        have h := HY.out
        have h2 := digs_two 0 b hb
        rw [Nat.zero_mul, Nat.zero_add, h] at h2
        have h3 : [y0, y1, y2, y3] = digsR 4 b := by
          have := congrArg (List.take 4) h2
          rwa [List.take_left' (digs_length 4 b)] at this
        rw [h3, val_digsR 4 b hb]
      have hfN : valR f = a * b := by
        rw [hfv, show List.take 4 [x0, x1, x2, x3] = [x0, x1, x2, x3] from rfl, hX4, hY4]
      have HfN := Lib.hid hfN
      have HK7 := Lib.hid hK7
      have HF := Lib.hid hfb
      have HFl := Lib.hid hfl
      have HBW := Lib.hid (HB.out.trans (hbl.mono (by omega)))
      have HK4 := Lib.hid (Blk.below (B := G) hG4 hbl hG)
      have hsz := hbl.size
      clear hfv hX4 hY4 hfN hK7 hK6 hK5 hfl hfb hbl HX HY HXl HYl hA hB hb1 hb2 HB
      have h7 := HK7.out.lt
      go_wp2_with fail
      obtain ⟨g, hg⟩ : ∃ g, wr.heap.size = g := ⟨_, rfl⟩
      rw [hg] at h7 ⊢
      have HL0 : Hid (Blk (wr.alloc (.cells #[.int .u32 0, .int .u32 0, .int .u32 0, .int .u32 0, .int .u32 0, .int .u32 0, .int .u32 0, .int .u32 0] 133)) g 133 ((List.replicate 8 0).map fun n : Nat => Value.int .u32 (n : Int)).toArray) := Lib.hid (by rw [← hg]; exact Blk.new _ _ _)
      have HK7a := Lib.hid (HK7.out.alloc (.cells #[.int .u32 0, .int .u32 0, .int .u32 0, .int .u32 0, .int .u32 0, .int .u32 0, .int .u32 0, .int .u32 0] 133))
      have HK4a := Lib.hid (HK4.out.alloc (.cells #[.int .u32 0, .int .u32 0, .int .u32 0, .int .u32 0, .int .u32 0, .int .u32 0, .int .u32 0, .int .u32 0] 133))
      have HBWa := Lib.hid (HBW.out.alloc HBW.out.size (.cells #[.int .u32 0, .int .u32 0, .int .u32 0, .int .u32 0, .int .u32 0, .int .u32 0, .int .u32 0, .int .u32 0] 133))
      have hwg : w.heap.size < g := by omega
      clear HK7 HK4 HBW
      go_loopw [11, 61] (fun y z wq => ∃ (k o : Nat) (L : List Nat), k ≤ 8 ∧ y = .int .u64 o ∧ z = .int .i64 k ∧ o = valR (f.take k) / 65536 ^ k ∧ L.length = 8 ∧ L.take k = digsR k (valR f) ∧ o ≤ 131072 * 16 ∧
        Blk wq (G + 1 + 1) 179 (f.map fun n : Nat => Value.int .u64 (n : Int)).toArray ∧ Blk wq g 133 (L.map fun n : Nat => Value.int .u32 (n : Int)).toArray ∧
        Blk wq w.heap.size 133 #[.int .u32 0, .int .u32 0, .int .u32 0, .int .u32 0, .int .u32 0, .int .u32 0, .int .u32 0, .int .u32 0] ∧ Below w.heap.size w wq) (fun _ z _ => 8 - (intOf z).toNat)
      case atStart => exact ⟨0, 0, List.replicate 8 0, by omega, rfl, rfl, by simp [valR], rfl, rfl, by omega, HK7a.out, HL0.out, HK4a.out, HBWa.out⟩
      case round =>
        obtain ⟨k, o, L, hk8, rfl, rfl, ho, hLl, hLt, hob, hK7, hKg, hK4, hbw⟩ := hrel
        by_cases hk7 : k < 8
        · have hkf : k < f.length := by rw [HFl.out]; omega
          have hc := carry f k o hkf ho
          have hF := HF.out (f.getD k 0) (by rw [List.getD_eq_getElem?_getD, List.getElem?_eq_getElem hkf]; exact List.getElem_mem hkf)
          have c7 : wr.cell? ⟨G + 1 + 1, k, none⟩ = some (.int .u64 ((f.getD k 0 : Nat) : Int)) := (hK7.cell k).trans (by simp [hkf])
          have hkL : k < L.length := by omega
          have cg : wr.cell? ⟨g, k, none⟩ = some (.int .u32 ((L[k] : Nat) : Int)) := (hKg.cell k).trans (by simp [hkL])
          have fg : wr.frozen? ⟨g, k, none⟩ = false := hKg.frozen k
          obtain ⟨F, hFe⟩ : ∃ F, f.getD k 0 = F := ⟨_, rfl⟩
          rw [hFe] at c7 hF hc
          obtain ⟨z, hz⟩ : ∃ z, L[k] = z := ⟨_, rfl⟩
          rw [hz] at cg
          obtain ⟨d, hd⟩ : ∃ d, (F + o) % 65536 = d := ⟨_, rfl⟩
          obtain ⟨o', ho'⟩ : ∃ o', (F + o) / 65536 = o' := ⟨_, rfl⟩
          rw [hd, ho'] at hc
          have hdl : d < 65536 := by omega
          have hol : o' ≤ 131072 * 16 := by omega
          have i1 : ((F : Int) + (o : Int)) % 65536 = (d : Int) := by omega
          have i2 : ((F : Int) + (o : Int)) / 65536 = (o' : Int) := by omega
          have HC := Lib.hid hc
          have HT := Lib.hid (take_set L k d (valR f) hkL hLt hc.1)
          have HK7 := Lib.hid (hK7.far (p := ⟨g, k, none⟩) (by show G + 1 + 1 ≠ g; omega) (.int .u32 (d : Int)))
          have HKg := Lib.hid (hKg.set_ k (.int .u32 (d : Int)))
          rw [set_row32] at HKg
          have HK4 := Lib.hid (hK4.far (p := ⟨g, k, none⟩) (by show w.heap.size ≠ g; omega) (.int .u32 (d : Int)))
          have HBW := Lib.hid (hbw.setCell (p := ⟨g, k, none⟩) (by show w.heap.size ≤ g; omega) (.int .u32 (d : Int)))
          have HLl := Lib.hid hLl
          clear hc hLt hK7 hKg hK4 hbw ho hd ho' hFe hz hLl
          go_wp2_with fail
          go_roundw
          case rel => exact ⟨k + 1, o', L.set k d, by omega, by rw [i2], by go_num, HC.out.2, by rw [List.length_set, HLl.out], HT.out, hol, HK7.out, HKg.out, HK4.out, HBW.out⟩
          case measure => simp [intOf]; omega
        · have hk : k = 8 := by omega
          subst hk
          rw [List.take_of_length_le (by omega)] at hLt
          obtain ⟨v0, v1, v2, v3, v4, v5, v6, v7, eL⟩ := eight L hLl
          have HLt : Hid ([v0, v1, v2, v3, v4, v5, v6, v7] = digsR 8 (a * b)) := Lib.hid (by rw [← eL, hLt, HfN.out])
          subst eL
          have a0 := hKg.cell 0; have a1 := hKg.cell 1; have a2 := hKg.cell 2; have a3 := hKg.cell 3; have a4 := hKg.cell 4; have a5 := hKg.cell 5; have a6 := hKg.cell 6; have a7 := hKg.cell 7
          simp only [List.map_cons, List.map_nil, List.getElem?_toArray, List.getElem?_cons_zero, List.getElem?_cons_succ] at a0 a1 a2 a3 a4 a5 a6 a7
          have b0 := hK4.cell 0; have b1 := hK4.cell 1; have b2 := hK4.cell 2; have b3 := hK4.cell 3; have b4 := hK4.cell 4; have b5 := hK4.cell 5; have b6 := hK4.cell 6; have b7 := hK4.cell 7
          have f0 := hK4.frozen 0; have f1 := hK4.frozen 1; have f2 := hK4.frozen 2; have f3 := hK4.frozen 3; have f4 := hK4.frozen 4; have f5 := hK4.frozen 5; have f6 := hK4.frozen 6; have f7 := hK4.frozen 7
          simp only [List.getElem?_toArray, List.getElem?_cons_zero, List.getElem?_cons_succ] at b0 b1 b2 b3 b4 b5 b6 b7
          have HK4 := Lib.hid hK4
          have HBW := Lib.hid hbw
          clear hLt hLl hK7 hKg hK4 hbw ho
          go_wp2_with fail
          have HB8 := (((((((HK4.out.set_ 0 (.int .u32 (v0 : Int))).set_ 1 (.int .u32 (v1 : Int))).set_ 2 (.int .u32 (v2 : Int))).set_ 3 (.int .u32 (v3 : Int))).set_ 4 (.int .u32 (v4 : Int))).set_ 5 (.int .u32 (v5 : Int))).set_ 6 (.int .u32 (v6 : Int))).set_ 7 (.int .u32 (v7 : Int))
          have q0 := HB8.cell 0; have q1 := HB8.cell 1; have q2 := HB8.cell 2; have q3 := HB8.cell 3; have q4 := HB8.cell 4; have q5 := HB8.cell 5; have q6 := HB8.cell 6; have q7 := HB8.cell 7
          have hbE := (((((((HBW.out.setCell (p := ⟨w.heap.size, 0, none⟩) (Nat.le_refl _) (.int .u32 (v0 : Int))).setCell (p := ⟨w.heap.size, 1, none⟩) (Nat.le_refl _) (.int .u32 (v1 : Int))).setCell (p := ⟨w.heap.size, 2, none⟩) (Nat.le_refl _) (.int .u32 (v2 : Int))).setCell (p := ⟨w.heap.size, 3, none⟩) (Nat.le_refl _) (.int .u32 (v3 : Int))).setCell (p := ⟨w.heap.size, 4, none⟩) (Nat.le_refl _) (.int .u32 (v4 : Int))).setCell (p := ⟨w.heap.size, 5, none⟩) (Nat.le_refl _) (.int .u32 (v5 : Int))).setCell (p := ⟨w.heap.size, 6, none⟩) (Nat.le_refl _) (.int .u32 (v6 : Int))).setCell (p := ⟨w.heap.size, 7, none⟩) (Nat.le_refl _) (.int .u32 (v7 : Int))
          obtain ⟨wE, hwE⟩ : ∃ W, ((((((((wr.setCell ⟨w.heap.size, 0, none⟩ (.int .u32 (v0 : Int))).setCell ⟨w.heap.size, 1, none⟩ (.int .u32 (v1 : Int))).setCell ⟨w.heap.size, 2, none⟩ (.int .u32 (v2 : Int))).setCell ⟨w.heap.size, 3, none⟩ (.int .u32 (v3 : Int))).setCell ⟨w.heap.size, 4, none⟩ (.int .u32 (v4 : Int))).setCell ⟨w.heap.size, 5, none⟩ (.int .u32 (v5 : Int))).setCell ⟨w.heap.size, 6, none⟩ (.int .u32 (v6 : Int))).setCell ⟨w.heap.size, 7, none⟩ (.int .u32 (v7 : Int))) = W := ⟨_, rfl⟩
          rw [hwE] at q0 q1 q2 q3 q4 q5 q6 q7 hbE ⊢
          refine bodyPost_ret (by simp [results, Tryz.results64, go_sem, q0, q1, q2, q3, q4, q5, q6, q7]; try rfl) rfl ?_
          exact ⟨by rw [← HLt.out]; rfl, hbE⟩
end Go.Proofs.YtpbfipeinblfgaaGreatDoor
