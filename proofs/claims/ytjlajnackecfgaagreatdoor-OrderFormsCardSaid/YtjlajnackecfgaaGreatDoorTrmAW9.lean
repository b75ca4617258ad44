/-
bits.Div64: Go's own text is walked: two digits, each of them an estimate that is lowered till it is right. Condition: the upper word is below the divisor.
wide: Mul, Less, Div, Small, Scale. No condition but the numbers' kinds.
wide: Plus, Add, Round. No condition but the numbers' kinds.
yield's arithmetic: pieces, parts by parts, months. No condition.
yield: Right, Unit, Days. Conditions: the numbers' kinds.
level's arithmetic: months of a payment, the least one. No condition.
yield's Month. Conditions: the numbers' kinds.
level: a part, a month, what may be. Conditions: the numbers' kinds.
level: whether a payment leaves nothing; the least one. Conditions: the numbers' kinds.
level: names, Pay, Rows. Conditions: the numbers' kinds.
level: names, Sums, the example. Conditions: the numbers' kinds.
What may be agreed: terms.Right, the document's, and one as the other has it. No condition but the numbers' kinds.
-/
import Derived.Test.YtjlajnackecfgaaGreatDoorMemW9
import Derived.Test.YtjlajnackecfgaaGreatDoorDivBW9
import Derived.BigQuiet
import Derived.Deep.CutBlock
import Derived.Handy
import Derived.Laws.Externs
import Derived.Deep.RegionHeld3
import Derived.LoopTactic
import Derived.Laws.MakeOwn
import Derived.Lib.Strings
namespace Go.Proofs.YtjlajnackecfgaaGreatDoor
open Go.RowKit

theorem mask_any (v y0 : Nat) (hv : v < 18446744073709551616) (h : v % 4294967296 = y0) : bits .and .u64 (v : Int) 4294967295 = (y0 : Int) := by
  subst h
  exact Mul64.maskN v hv
theorem or_any (a b c m s : Nat) (hb : b < 2 ^ s) (hm : a * 2 ^ s = m) (ha : m < 18446744073709551616) (hb2 : b < 18446744073709551616) (h : m + b = c) : bits .or .u64 (m : Int) (b : Int) = (c : Int) := by
  subst h hm
  rw [bits_or_u64_nat _ _ ha hb2, shift_or _ _ _ hb]
theorem dig_next (a c y1 y0 q r : Nat) (ha : a < y1 * 4294967296 + y0) (hc : c < 4294967296)
    (d : Dig a c y1 y0 q r) (hw : 4294967296 ≤ q ∨ 4294967296 * r + c < q * y0) : ∃ q' r', q = q' + 1 ∧ r' = r + y1 ∧ Dig a c y1 y0 q' r' := by
  obtain ⟨h1, h2⟩ := dig_step a c y1 y0 q r ha hc d hw
  exact ⟨q - 1, r + y1, (Nat.sub_add_cancel h1).symm, rfl, h2⟩
theorem wrap_nat (x y : Int) (n : Nat) (h : x = (n : Int)) (hn : n < 18446744073709551616) (e : IntKind.u64.wrap x = y) : y = (n : Int) := by
  rw [← e, h, IntKind.wrap_u64]
  omega

end Go.Proofs.YtjlajnackecfgaaGreatDoor
namespace Go.Proofs.YtjlajnackecfgaaGreatDoor
open Go.RowKit

/-- A Wide as a value. -/
def wv (hi lo : Nat) : Value := .agg #[.int .u64 (hi : Int), .int .u64 (lo : Int)]
/-- .. that holds n. -/
def wof (n : Nat) : Value := wv (n / 18446744073709551616) (n % 18446744073709551616)
def Ret (v : Value) (w : World) (e : Ending) (w' : World) : Prop := e = .returned v ∧ Below w.heap.size w w'
theorem wof_parts (q p : Nat) (hp : p < 18446744073709551616) : wof (q * 18446744073709551616 + p) = wv q p := by
  unfold wof
  rw [show (q * 18446744073709551616 + p) / 18446744073709551616 = q by omega, show (q * 18446744073709551616 + p) % 18446744073709551616 = p by omega]
theorem wof_ex (n : Nat) : ∃ h l : Nat, wof n = .agg #[.int .u64 (h : Int), .int .u64 (l : Int)] ∧ n = h * 18446744073709551616 + l ∧ l < 18446744073709551616 :=
  ⟨n / 18446744073709551616, n % 18446744073709551616, rfl, by omega, by omega⟩
theorem wof_small (n : Nat) (hn : n < 18446744073709551616) : wof n = .agg #[.int .u64 0, .int .u64 (n : Int)] := by
  unfold wof wv
  rw [show n / 18446744073709551616 = 0 by omega, show n % 18446744073709551616 = n by omega]
  rfl
theorem wof_eq (n : Nat) : wof n = .agg #[.int .u64 ((n : Int) / 18446744073709551616), .int .u64 ((n : Int) % 18446744073709551616)] := by
  unfold wof wv
  rw [Int.natCast_ediv, Int.natCast_emod]
  rfl

def eno (n : Int) : Value := .iface 54 (.int .i64 n)

theorem div_parts (h l n : Nat) (hn : 0 < n) : (h * 18446744073709551616 + l) / n = h / n * 18446744073709551616 + (h % n * 18446744073709551616 + l) / n ∧ (h * 18446744073709551616 + l) % n = (h % n * 18446744073709551616 + l) % n := by
  have e : h * 18446744073709551616 + l = n * (h / n * 18446744073709551616) + (h % n * 18446744073709551616 + l) := by
    have := Nat.div_add_mod h n
    rw [← Nat.mul_assoc]
    generalize n * (h / n) = m at *
    omega
  constructor
  · rw [e, Nat.mul_add_div hn]
  · rw [e, Nat.mul_add_mod]
theorem div_low (h l n : Nat) (hn : h < n) (hl : l < 18446744073709551616) : (h * 18446744073709551616 + l) / n < 18446744073709551616 := by
  rw [Nat.div_lt_iff_lt_mul (by omega), Nat.mul_comm]
  have : (h + 1) * 18446744073709551616 ≤ n * 18446744073709551616 := Nat.mul_le_mul_right _ hn
  omega

theorem of_mul (a b : Nat) (ha : a < 18446744073709551616) (hb : b < 18446744073709551616) : a * b / 18446744073709551616 < 18446744073709551616 := by
  rw [Nat.div_lt_iff_lt_mul (by decide)]
  exact Nat.mul_lt_mul_of_lt_of_le ha (Nat.le_of_lt hb) (by decide)

end Go.Proofs.YtjlajnackecfgaaGreatDoor
namespace Go.Proofs.YtjlajnackecfgaaGreatDoor
open Go.RowKit

end Go.Proofs.YtjlajnackecfgaaGreatDoor
namespace Go.Proofs.YtjlajnackecfgaaGreatDoor
/-- How many pieces one is, by the basis. -/
def unitN (b : Nat) : Nat := if b = 1 then 365000000 else 360000000
theorem unitN_bd (b : Nat) : 360000000 ≤ unitN b ∧ unitN b ≤ 365000000 := by
  unfold unitN; split <;> omega
theorem pp_le {P p : Nat} (hP : P ≤ 1000000000000) (hp : p ≤ 1000000) : P * p ≤ 1000000000000000000 := Nat.mul_le_mul hP hp
theorem pcs_le {X d c : Nat} (hX : X ≤ 1000000000000000000) (hd : d ≤ 100000) (hc : c < 18446744073709551616) : X * d + c < 340282366920938463463374607431768211456 := by
  have := Nat.mul_le_mul hX hd
  omega
theorem pcs_div {X d c U : Nat} (hX : X ≤ 1000000000000000000) (hd : d ≤ 100000) (hU : 360000000 ≤ U) (hc : c < U) : (X * d + c) / U < 9223372036854775808 := by
  have h := Nat.mul_le_mul hX hd
  rw [Nat.div_lt_iff_lt_mul (by omega)]
  have : 9223372036854775808 * 360000000 ≤ 9223372036854775808 * U := Nat.mul_le_mul_left _ hU
  omega
/-- Part by part: what was carried adds up. -/
theorem adds_step {X U s l c A k : Nat} (h : s * U + l = X * A + c) :
    (s + (X * k + l) / U) * U + (X * k + l) % U = X * (A + k) + c := by
  have e := Nat.div_add_mod (X * k + l) U
  rw [Nat.add_mul, Nat.mul_add, Nat.mul_comm ((X * k + l) / U) U]
  omega
theorem adds_end {U s l N : Nat} (h : s * U + l = N) (hl : l < U) : N / U = s ∧ N % U = l := by
  subst h
  constructor
  · rw [Nat.add_comm, Nat.add_mul_div_right _ _ (by omega), Nat.div_eq_of_lt hl, Nat.zero_add]
  · rw [Nat.add_comm, Nat.add_mul_mod_self_right, Nat.mod_eq_of_lt hl]
theorem bound_one {X U c : Nat} (hU : 0 < U) (hc : c < U) : X / U ≤ (X + c) / U ∧ (X + c) / U ≤ X / U + 1 := by
  constructor
  · exact Nat.div_le_div_right (Nat.le_add_right _ _)
  · calc (X + c) / U ≤ (X + U) / U := Nat.div_le_div_right (by omega)
      _ = X / U + 1 := Nat.add_div_right _ hU
theorem grows {P Q p q d e U : Nat} (h1 : P ≤ Q) (h2 : p ≤ q) (h3 : d ≤ e) : (P * p * d + 0) / U ≤ (Q * q * e + 0) / U :=
  Nat.div_le_div_right (Nat.mul_le_mul (Nat.mul_le_mul h1 h2) h3)
/-- A month: a twelfth of a year. -/
theorem month_div (X : Nat) : X * 30 / 360000000 = X / 12000000 ∧ X * 30 % 360000000 = X % 12000000 * 30 := by
  omega
end Go.Proofs.YtjlajnackecfgaaGreatDoor
namespace Go.Proofs.YtjlajnackecfgaaGreatDoor
open Go.RowKit

theorem b_alloc (w : World) (o : Obj) : Below w.heap.size w (w.alloc o) := (Below.refl _ w).alloc (Nat.le_refl _) o
theorem one_b {w w' : World} {o : Obj} (h : Below (w.alloc o).heap.size (w.alloc o) w') : Below w.heap.size w w' := (b_alloc w o).trans (h.mono (by simp))
/-- A rate. -/
def rv (p b : Nat) : Value := .agg #[.int .u32 (p : Int), .int .u8 (b : Int)]
def rateB (p b : Nat) : Prop := p ≤ 1000000 ∧ (b = 1 ∨ b = 2)
instance (p b : Nat) : Decidable (rateB p b) := inferInstanceAs (Decidable (_ ∧ _))

set_option maxHeartbeats 1000000 in
theorem Right_any (a : Int) (w : World) :
    Calls Tryz.prog 62 #[.int .i64 a] w fun e w' => e = .returned (.bool (decide (0 ≤ a ∧ a ≤ 1000000000000))) ∧ w' = w := by
  by_cases h0 : 0 ≤ a
  · by_cases h1 : a ≤ 1000000000000
    · rw [decide_eq_true ⟨h0, h1⟩]
      go_enter Tryz.func62, Tryz.ntmps62
      go_wp2
      go_ret
      exact ⟨rfl, rfl⟩
    · rw [decide_eq_false (fun h => h1 h.2)]
      go_enter Tryz.func62, Tryz.ntmps62
      go_wp2
      go_ret
      exact ⟨rfl, rfl⟩
  · rw [decide_eq_false (fun h => h0 h.1)]
    go_enter Tryz.func62, Tryz.ntmps62
    go_wp2
    go_ret
    exact ⟨rfl, rfl⟩
theorem Coin_yes {a : Int} (h0 : 0 ≤ a) (h1 : a ≤ 1000000000000) (w : World) : Calls Tryz.prog 62 #[.int .i64 a] w fun e w' => e = .returned (.bool true) ∧ w = w' := by
  refine (Right_any a w).mono ?_
  rintro e w' ⟨rfl, rfl⟩
  exact ⟨by rw [decide_eq_true ⟨h0, h1⟩], rfl⟩
theorem Coin_no {a : Int} (h : ¬ (0 ≤ a ∧ a ≤ 1000000000000)) (w : World) : Calls Tryz.prog 62 #[.int .i64 a] w fun e w' => e = .returned (.bool false) ∧ w = w' := by
  refine (Right_any a w).mono ?_
  rintro e w' ⟨rfl, rfl⟩
  exact ⟨by rw [decide_eq_false h], rfl⟩

set_option maxHeartbeats 1000000 in
theorem Year_any (b : Nat) (w : World) : Calls Tryz.prog 85 #[.int .u8 (b : Int)] w fun e w' => e = .returned (.int .i64 (if b = 1 then 365 else if b = 2 then 360 else 0)) ∧ w = w' := by
  by_cases h1 : b = 1
  · subst h1
    go_enter Tryz.func85, Tryz.ntmps85
    go_wp2_with fail
    go_ret
    exact ⟨rfl, rfl⟩
  · by_cases h2 : b = 2
    · subst h2
      go_enter Tryz.func85, Tryz.ntmps85
      go_wp2_with fail
      go_ret
      exact ⟨rfl, rfl⟩
    · rw [if_neg h1, if_neg h2]
      have i1 : ¬ (b : Int) = 1 := by omega
      have i2 : ¬ (b : Int) = 2 := by omega
      have j1 : ((b : Int) == 1) = false := by rw [beq_eq_false_iff_ne]; omega
      have j2 : ((b : Int) == 2) = false := by rw [beq_eq_false_iff_ne]; omega
      clear h1 h2
      go_enter Tryz.func85, Tryz.ntmps85
      go_wp2_with fail
      go_ret
      exact ⟨rfl, rfl⟩
theorem Year_bad {b : Nat} (h : ¬ (b = 1 ∨ b = 2)) (w : World) : Calls Tryz.prog 85 #[.int .u8 (b : Int)] w fun e w' => e = .returned (.int .i64 0) ∧ w = w' := by
  have := Year_any b w
  rwa [if_neg (fun e => h (Or.inl e)), if_neg (fun e => h (Or.inr e))] at this

set_option maxHeartbeats 2000000 in
theorem YR_yes {p b : Nat} (h : rateB p b) (w : World) : Calls Tryz.prog 57 #[rv p b] w (Ret (.bool true) w) := by
  obtain ⟨hp, hb⟩ := h
  have hY := fun W => Year_any b W
  unfold rv
  have i1 : (p : Int) ≤ 1000000 := by omega
  rcases hb with rfl | rfl
  · replace hY : ∀ W, Calls Tryz.prog 85 #[.int .u8 1] W fun e w' => e = .returned (.int .i64 365) ∧ W = w' := hY
    go_enter Tryz.func57, Tryz.ntmps57
    go_wp2_with (go_at_call 85; refine (hY _).mono ?_; rintro e w1 ⟨rfl, rfl⟩)
    go_ret
    exact ⟨rfl, b_alloc _ _⟩
  · replace hY : ∀ W, Calls Tryz.prog 85 #[.int .u8 2] W fun e w' => e = .returned (.int .i64 360) ∧ W = w' := hY
    go_enter Tryz.func57, Tryz.ntmps57
    go_wp2_with (go_at_call 85; refine (hY _).mono ?_; rintro e w1 ⟨rfl, rfl⟩)
    go_ret
    exact ⟨rfl, b_alloc _ _⟩
set_option maxHeartbeats 2000000 in
theorem YR_no {p b : Nat} (h : ¬ rateB p b) (w : World) : Calls Tryz.prog 57 #[rv p b] w (Ret (.bool false) w) := by
  unfold rv
  by_cases hp : p ≤ 1000000
  · have hY := fun W => Year_bad (b := b) (fun hb => h ⟨hp, hb⟩) W
    have i1 : (p : Int) ≤ 1000000 := by omega
    clear h
    go_enter Tryz.func57, Tryz.ntmps57
    go_wp2_with (go_at_call 85; refine (hY _).mono ?_; rintro e w1 ⟨rfl, rfl⟩)
    go_ret
    exact ⟨rfl, b_alloc _ _⟩
  · have i1 : ¬ (p : Int) ≤ 1000000 := by omega
    clear h
    go_enter Tryz.func57, Tryz.ntmps57
    go_wp2_with fail
    go_ret
    exact ⟨rfl, b_alloc _ _⟩
end Go.Proofs.YtjlajnackecfgaaGreatDoor
namespace Go.Proofs.YtjlajnackecfgaaGreatDoor
/-- A month's interest. -/
def monthN (X : Nat) : Nat := (X + 6000000) / 12000000
theorem month_half (X : Nat) : (X * 30 % 360000000 < 360000000 - X * 30 % 360000000 ↔ X % 12000000 < 6000000) ∧ (X % 12000000 < 6000000 → X * 30 / 360000000 = monthN X) ∧ (¬ X % 12000000 < 6000000 → X * 30 / 360000000 + 1 = monthN X) := by
  unfold monthN
  omega
theorem month_rest (X : Nat) : (X % 12000000 < 6000000 → X / 12000000 = monthN X) ∧ (¬ X % 12000000 < 6000000 → X / 12000000 + 1 = monthN X) := by
  unfold monthN
  omega
theorem month_bd (X : Nat) (h : X ≤ 1000000000000000000) : monthN X ≤ 100000000000 := by
  unfold monthN
  omega
/-- A month's interest on Q, at p millionths. -/
def mi (p Q : Nat) : Nat := monthN (Q * p)
theorem mi_mono {p Q R : Nat} (h : Q ≤ R) : mi p Q ≤ mi p R := by
  unfold mi monthN
  exact Nat.div_le_div_right (Nat.add_le_add_right (Nat.mul_le_mul_right _ h) _)
theorem mi_zero (p : Nat) : mi p 0 = 0 := by simp [mi, monthN]
/-- What a month of the payment y leaves of Q. -/
def mst (p y Q : Nat) : Nat := Q + mi p Q - y
theorem mst_mono {p y z Q R : Nat} (h : Q ≤ R) (hy : z ≤ y) : mst p y Q ≤ mst p z R := by
  unfold mst
  have := mi_mono (p := p) h
  omega
theorem mst_zero (p y : Nat) : mst p y 0 = 0 := by simp [mst, mi_zero]
/-- So many months. -/
def mit (p y : Nat) : Nat → Nat → Nat
  | 0, Q => Q
  | n + 1, Q => mit p y n (mst p y Q)
theorem mit_zero (p y : Nat) : ∀ n, mit p y n 0 = 0
  | 0 => rfl
  | n + 1 => by rw [mit, mst_zero]; exact mit_zero p y n
theorem mit_mono {p y z : Nat} (hy : z ≤ y) : ∀ (n : Nat) {Q R : Nat}, Q ≤ R → mit p y n Q ≤ mit p z n R
  | 0, _, _, h => h
  | n + 1, _, _, h => mit_mono hy n (mst_mono h hy)
theorem mit_succ (p y : Nat) : ∀ (n Q : Nat), mit p y (n + 1) Q = mst p y (mit p y n Q)
  | 0, _ => rfl
  | n + 1, Q => by rw [mit, mit_succ p y n]; rfl
theorem mit_stuck {p y Q : Nat} (h : Q ≤ mst p y Q) : ∀ n, Q ≤ mit p y n Q
  | 0 => Nat.le_refl _
  | n + 1 => by
    rw [mit_succ]
    exact Nat.le_trans h (mst_mono (mit_stuck h n) (Nat.le_refl _))
theorem mit_more {p y Q n : Nat} (h : mit p y n Q = 0) : ∀ k, mit p y (n + k) Q = 0
  | 0 => h
  | k + 1 => by rw [← Nat.add_assoc, mit_succ, mit_more h k, mst_zero]
/-- The months leave nothing. -/
def Clr (p n P y : Nat) : Prop := mit p y n P = 0
instance (p n P y : Nat) : Decidable (Clr p n P y) := inferInstanceAs (Decidable (_ = _))
theorem Clr.mono {p n m P Q y z : Nat} (h : Clr p m Q y) (hn : m ≤ n) (hP : P ≤ Q) (hy : y ≤ z) : Clr p n P z := by
  obtain ⟨k, rfl⟩ := Nat.le.dest hn
  have h1 := mit_more h k
  have h2 := mit_mono (p := p) hy (m + k) hP
  unfold Clr
  omega
theorem mit_low {p y : Nat} : ∀ (n Q : Nat), Q - n * y ≤ mit p y n Q
  | 0, Q => by simp [mit]
  | n + 1, Q => by
    have := mit_low (p := p) (y := y) n (mst p y Q)
    rw [mit, Nat.add_mul]
    unfold mst at this ⊢
    omega
theorem mit_high {p l P : Nat} : ∀ (n Q : Nat), Q ≤ P → mit p (l + mi p P) n Q ≤ Q - n * l
  | 0, Q, _ => by simp [mit]
  | n + 1, Q, h => by
    have hm := mi_mono (p := p) h
    have := mit_high (p := p) (l := l) (P := P) n (mst p (l + mi p P) Q) (by unfold mst; omega)
    rw [mit, Nat.add_mul]
    unfold mst at this ⊢
    omega
/-- An n-th part, rounded up. -/
def prt (P n : Nat) : Nat := (P + n - 1) / n
theorem prt_le {P n : Nat} (hn : 0 < n) : P ≤ n * prt P n := by
  unfold prt
  have h1 := Nat.div_add_mod (P + n - 1) n
  have h2 := Nat.mod_lt (P + n - 1) hn
  omega
theorem prt_lt {P n y : Nat} (hn : 0 < n) (_ : 0 < P) (h : y < prt P n) : n * y < P := by
  unfold prt at h
  have h1 : (y + 1) ≤ (P + n - 1) / n := h
  rw [Nat.le_div_iff_mul_le hn, Nat.add_mul, Nat.mul_comm y n] at h1
  omega
theorem prt_pos {P n : Nat} (hn : 0 < n) (hP : 0 < P) : 1 ≤ prt P n := by
  unfold prt
  rw [Nat.le_div_iff_mul_le hn]
  omega
theorem prt_bd {P n : Nat} (hn : 0 < n) (hP : 0 < P) : prt P n ≤ P := by
  unfold prt
  rw [Nat.div_le_iff_le_mul hn]
  have : P * 1 ≤ P * n := Nat.mul_le_mul_left _ hn
  have e : P * n = P * (n - 1) + P := by
    obtain ⟨k, rfl⟩ : ∃ k, n = k + 1 := ⟨n - 1, by omega⟩
    simp [Nat.mul_add]
  have : n - 1 ≤ P * (n - 1) := Nat.le_mul_of_pos_left _ hP
  omega
theorem clr_high {p P n : Nat} (hn : 0 < n) : Clr p n P (prt P n + mi p P) := by
  have h1 := mit_high (p := p) (l := prt P n) n P (Nat.le_refl _)
  have h2 := prt_le (P := P) hn
  unfold Clr
  omega
theorem clr_low {p P n y : Nat} (hn : 0 < n) (hP : 0 < P) (h : Clr p n P y) : prt P n ≤ y := by
  rcases Nat.lt_or_ge y (prt P n) with hlt | hge
  · have h1 := prt_lt hn hP hlt
    have h2 := mit_low (p := p) (y := y) n P
    unfold Clr at h
    omega
  · exact hge
/-- The least payment. -/
def Lst (p n P y : Nat) : Prop := Clr p n P y ∧ ∀ z, Clr p n P z → y ≤ z
theorem lst_any {p n P : Nat} (hn : 0 < n) : ∃ y, Lst p n P y := by
  have hh := clr_high (p := p) (P := P) hn
  generalize prt P n + mi p P = b at hh
  revert hh
  induction b with
  | zero => intro hh; exact ⟨0, hh, fun z _ => Nat.zero_le z⟩
  | succ b ih =>
    intro hh
    by_cases hb : Clr p n P b
    · exact ih hb
    · refine ⟨b + 1, hh, fun z hz => ?_⟩
      rcases Nat.lt_or_ge b z with h | h
      · exact h
      · exact absurd (hz.mono (Nat.le_refl _) (Nat.le_refl _) h) hb
theorem Lst.high {p n P y : Nat} (hn : 0 < n) (h : Lst p n P y) : y ≤ prt P n + mi p P := h.2 _ (clr_high hn)
theorem Lst.low {p n P y : Nat} (hn : 0 < n) (hP : 0 < P) (h : Lst p n P y) : prt P n ≤ y := clr_low hn hP h.1
theorem Lst.iff {p n P y z : Nat} (h : Lst p n P y) : Clr p n P z ↔ y ≤ z := ⟨fun hz => h.2 z hz, fun hz => h.1.mono (Nat.le_refl _) (Nat.le_refl _) hz⟩
theorem Lst.gt {p n P y : Nat} (hP : 0 < P) (h : Lst p n P y) : mi p P < y := by
  rcases Nat.lt_or_ge (mi p P) y with hlt | hge
  · exact hlt
  · have := mit_stuck (p := p) (y := y) (Q := P) (by unfold mst; omega) n
    have h1 := h.1
    unfold Clr at h1
    omega
/-- What the code asks, month by month. -/
def clB (p y : Nat) : Nat → Nat → Bool
  | 0, _ => false
  | n + 1, Q => if Q ≤ mst p y Q then false else if mst p y Q = 0 then true else clB p y n (mst p y Q)
theorem clB_iff {p y : Nat} : ∀ (n Q : Nat), 0 < Q → (clB p y n Q = true ↔ Clr p n Q y)
  | 0, Q, h => by simp [clB, Clr, mit]; omega
  | n + 1, Q, h => by
    unfold clB
    by_cases h1 : Q ≤ mst p y Q
    · rw [if_pos h1]
      have := mit_stuck h1 (n + 1)
      unfold Clr
      simp; omega
    · rw [if_neg h1]
      by_cases h2 : mst p y Q = 0
      · rw [if_pos h2]
        unfold Clr
        rw [mit, h2, mit_zero]; simp
      · rw [if_neg h2, clB_iff n _ (by omega)]
        unfold Clr
        rw [mit]
/-- What the document's reckoning leaves. -/
def rlN (p y : Nat) : Nat → Nat → Nat
  | 0, Q => Q
  | n + 1, Q => if Q = 0 then 0 else if Q + mi p Q ≤ y then 0 else if Q ≤ mst p y Q then Q else rlN p y n (mst p y Q)
theorem rlN_iff {p y : Nat} : ∀ (n Q : Nat), (rlN p y n Q = 0 ↔ Clr p n Q y)
  | 0, Q => by simp [rlN, Clr, mit]
  | n + 1, Q => by
    unfold rlN
    by_cases h0 : Q = 0
    · subst h0
      rw [if_pos rfl]
      unfold Clr
      rw [mit_zero]
    · rw [if_neg h0]
      by_cases h1 : Q + mi p Q ≤ y
      · rw [if_pos h1]
        unfold Clr
        rw [mit, show mst p y Q = 0 by unfold mst; omega, mit_zero]
      · rw [if_neg h1]
        by_cases h2 : Q ≤ mst p y Q
        · rw [if_pos h2]
          have := mit_stuck h2 (n + 1)
          unfold Clr
          omega
        · rw [if_neg h2, rlN_iff n]
          unfold Clr
          rw [mit]

theorem mi_bd {p Q : Nat} (hQ : Q ≤ 1000000000000) (hp : p ≤ 1000000) : mi p Q ≤ 100000000000 := month_bd _ (pp_le hQ hp)
theorem mst_le {p y Q P : Nat} (h : mi p P ≤ y) (hQ : Q ≤ P) : mst p y Q ≤ Q := by
  have := mi_mono (p := p) hQ
  unfold mst
  omega
theorem mit_le {p y P : Nat} (h : mi p P ≤ y) : ∀ (n Q : Nat), Q ≤ P → mit p y n Q ≤ Q
  | 0, _, _ => Nat.le_refl _
  | n + 1, Q, hQ => by
    have h1 := mst_le h hQ
    have h2 := mit_le h n (mst p y Q) (by omega)
    rw [mit]
    omega
theorem mit_only (p P : Nat) : ∀ n, mit p (mi p P) n P = P
  | 0 => rfl
  | n + 1 => by rw [mit, show mst p (mi p P) P = P by unfold mst; omega, mit_only p P n]
end Go.Proofs.YtjlajnackecfgaaGreatDoor
namespace Go.Proofs.YtjlajnackecfgaaGreatDoor
open Go.RowKit

end Go.Proofs.YtjlajnackecfgaaGreatDoor
namespace Go.Proofs.YtjlajnackecfgaaGreatDoor
open Go.RowKit

theorem set3L {w : World} {g : Nat} {T : TypeId} {a b c : Value} (h : Blk w g T #[a, b, c]) (x y z : Value) :
    Blk (((w.setCell ⟨g, 0, none⟩ x).setCell ⟨g, 1, none⟩ y).setCell ⟨g, 2, none⟩ z) g T #[x, y, z] := ((h.set_ 0 x).set_ 1 y).set_ 2 z
theorem below_set3 {w w' : World} {B g : Nat} (h : Below B w w') (hg : B ≤ g) (x y z : Value) : Below B w (((w'.setCell ⟨g, 0, none⟩ x).setCell ⟨g, 1, none⟩ y).setCell ⟨g, 2, none⟩ z) :=
  ((h.setCell hg _).setCell hg _).setCell hg _
/-- A month. -/
def rowV (i o l : Int) : Value := .agg #[.int .i64 i, .int .i64 o, .int .i64 l]
/-- What may be. -/
def lvB (p b : Nat) (P n : Int) : Prop := rateB p b ∧ 1 ≤ P ∧ P ≤ 1000000000000 ∧ 1 ≤ n ∧ n ≤ 480
instance (p b : Nat) (P n : Int) : Decidable (lvB p b P n) := inferInstanceAs (Decidable (_ ∧ _))
end Go.Proofs.YtjlajnackecfgaaGreatDoor
namespace Go.Proofs.YtjlajnackecfgaaGreatDoor
open Go.RowKit

end Go.Proofs.YtjlajnackecfgaaGreatDoor
namespace Go.Proofs.YtjlajnackecfgaaGreatDoor
open Go.RowKit

/-- Rows, cell by cell. -/
def rcell (r : Int × Int × Int) (j : Nat) : Value := if j = 0 then .int .i64 r.1 else if j = 1 then .int .i64 r.2.1 else .int .i64 r.2.2
def rowsA (F : Nat → Int × Int × Int) (n : Nat) : Array Value := Array.ofFn (n := n * 3) (fun j => rcell (F (j.val / 3)) (j.val % 3))
theorem rowsA_get (F : Nat → Int × Int × Int) (n j : Nat) : (rowsA F n)[j]? = if j < n * 3 then some (rcell (F (j / 3)) (j % 3)) else Option.none := by
  unfold rowsA
  rw [Array.getElem?_ofFn]
  split <;> rfl
theorem rowsA_at (F : Nat → Int × Int × Int) {n k : Nat} (h : k < n) :
    (rowsA F n)[k * 3]? = some (.int .i64 (F k).1) ∧ (rowsA F n)[k * 3 + 1]? = some (.int .i64 (F k).2.1) ∧ (rowsA F n)[k * 3 + 2]? = some (.int .i64 (F k).2.2) := by
  refine ⟨?_, ?_, ?_⟩ <;> rw [rowsA_get, if_pos (by omega)]
  · rw [show k * 3 / 3 = k by omega, show k * 3 % 3 = 0 by omega]; rfl
  · rw [show (k * 3 + 1) / 3 = k by omega, show (k * 3 + 1) % 3 = 1 by omega]; rfl
  · rw [show (k * 3 + 2) / 3 = k by omega, show (k * 3 + 2) % 3 = 2 by omega]; rfl
theorem rowsA_set (F : Nat → Int × Int × Int) {n k : Nat} (h : k < n) (x y z : Int) :
    (((rowsA F n).setIfInBounds (k * 3) (.int .i64 x)).setIfInBounds (k * 3 + 1) (.int .i64 y)).setIfInBounds (k * 3 + 2) (.int .i64 z) = rowsA (fun i => if i = k then (x, y, z) else F i) n := by
  apply Array.ext_getElem?
  intro j
  have hs : (rowsA F n).size = n * 3 := by simp [rowsA]
  simp only [Array.getElem?_setIfInBounds, Array.size_setIfInBounds, hs, rowsA_get]
  by_cases h2 : k * 3 + 2 = j
  · subst h2
    rw [if_pos rfl, if_pos (by omega), if_pos (by omega), show (k * 3 + 2) / 3 = k by omega, show (k * 3 + 2) % 3 = 2 by omega, if_pos rfl]; rfl
  · rw [if_neg h2]
    by_cases h1 : k * 3 + 1 = j
    · subst h1
      rw [if_pos rfl, if_pos (by omega), if_pos (by omega), show (k * 3 + 1) / 3 = k by omega, show (k * 3 + 1) % 3 = 1 by omega, if_pos rfl]; rfl
    · rw [if_neg h1]
      by_cases h0 : k * 3 = j
      · subst h0
        rw [if_pos rfl, if_pos (by omega), if_pos (by omega), show (k * 3) / 3 = k by omega, show (k * 3) % 3 = 0 by omega, if_pos rfl]; rfl
      · rw [if_neg h0]
        by_cases hj : j < n * 3
        · rw [if_pos hj, if_pos hj, if_neg (by omega)]
        · rw [if_neg hj, if_neg hj]
theorem rowsA_ext {F G : Nat → Int × Int × Int} {n : Nat} (h : ∀ i, i < n → F i = G i) : rowsA F n = rowsA G n := by
  apply Array.ext_getElem?
  intro j
  rw [rowsA_get, rowsA_get]
  by_cases hj : j < n * 3
  · rw [if_pos hj, if_pos hj, h _ (by omega)]
  · rw [if_neg hj, if_neg hj]
/-- The rows of a payment. -/
def rowF (p y P n k : Nat) : Int × Int × Int :=
  ((mi p (mit p y k P) : Nat), if k + 1 = n then (mit p y k P : Nat) else ((mit p y k P : Nat) - (mit p y (k + 1) P : Nat) : Int), if k + 1 = n then 0 else (mit p y (k + 1) P : Nat))
def partF (F : Nat → Int × Int × Int) (k i : Nat) : Int × Int × Int := if i < k then F i else (0, 0, 0)
theorem partF_next (F : Nat → Int × Int × Int) (k n : Nat) {x y z : Int} (h : F k = (x, y, z)) : rowsA (fun i => if i = k then (x, y, z) else partF F k i) n = rowsA (partF F (k + 1)) n := by
  apply rowsA_ext
  intro i _
  unfold partF
  by_cases hi : i = k
  · subst hi
    rw [if_pos rfl, if_pos (by omega), h]
  · rw [if_neg hi]
    by_cases hk : i < k
    · rw [if_pos hk, if_pos (by omega)]
    · rw [if_neg hk, if_neg (by omega)]
theorem Blk.set3 {w : World} {g : Nat} {T : TypeId} {cs : Array Value} (h : Blk w g T cs) (o : Nat) (x y z : Value) :
    Blk (((w.setCell ⟨g, o, none⟩ x).setCell ⟨g, o + 1, none⟩ y).setCell ⟨g, o + 2, none⟩ z) g T (((cs.setIfInBounds o x).setIfInBounds (o + 1) y).setIfInBounds (o + 2) z) := ((h.set_ o x).set_ (o + 1) y).set_ (o + 2) z
theorem Blk.far3 {w : World} {g q : Nat} {T : TypeId} {cs : Array Value} (h : Blk w q T cs) (hq : q ≠ g) (o : Nat) (x y z : Value) :
    Blk (((w.setCell ⟨g, o, none⟩ x).setCell ⟨g, o + 1, none⟩ y).setCell ⟨g, o + 2, none⟩ z) q T cs := ((h.far hq _).far hq _).far hq _
theorem below_set3k {w w' : World} {B g : Nat} (h : Below B w w') (hg : B ≤ g) (o : Nat) (x y z : Value) :
    Below B w (((w'.setCell ⟨g, o, none⟩ x).setCell ⟨g, o + 1, none⟩ y).setCell ⟨g, o + 2, none⟩ z) := ((h.setCell hg _).setCell hg _).setCell hg _
end Go.Proofs.YtjlajnackecfgaaGreatDoor
namespace Go.Proofs.YtjlajnackecfgaaGreatDoor
open Go.RowKit

theorem ba_eq {s : ByteArray} {l : List UInt8} (h : s.toList = l) : s = ⟨l.toArray⟩ := by
  obtain ⟨d⟩ := s
  rw [Go.Lib.toList_data] at h
  subst h
  simp
theorem ba_ne {s : ByteArray} {l : List UInt8} (h : ¬ s = ⟨l.toArray⟩) : (s.toList == l) = false := by
  rw [beq_eq_false_iff_ne]
  exact fun e => h (ba_eq e)
def levelS : ByteArray := ⟨#[108, 101, 118, 101, 108]⟩
def onlyS : ByteArray := ⟨#[111, 110, 108, 121]⟩
def kindB (s : ByteArray) : Nat := if s = levelS then 1 else if s = onlyS then 2 else 0
def nameB (k : Nat) : ByteArray := if k = 1 then levelS else if k = 2 then onlyS else ⟨#[]⟩
set_option maxRecDepth 20000 in
set_option maxHeartbeats 4000000 in
theorem Kind_any (s : ByteArray) (w : World) : Calls Tryz.prog 95 #[.string s] w fun e w' => e = .returned (.int .u8 (kindB s : Nat)) ∧ w = w' := by
  unfold kindB
  by_cases h1 : s = levelS
  · rw [if_pos h1]
    subst h1
    unfold levelS
    go_enter Tryz.func95, Tryz.ntmps95
    go_wp2_with fail
    go_ret
    exact ⟨rfl, rfl⟩
  · rw [if_neg h1]
    have j1 : (s.toList == [108, 101, 118, 101, 108]) = false := ba_ne h1
    by_cases h2 : s = onlyS
    · rw [if_pos h2]
      subst h2
      unfold onlyS
      clear h1 j1
      go_enter Tryz.func95, Tryz.ntmps95
      go_wp2_with fail
      go_ret
      exact ⟨rfl, rfl⟩
    · rw [if_neg h2]
      have j2 : (s.toList == [111, 110, 108, 121]) = false := ba_ne h2
      clear h1 h2
      go_enter Tryz.func95, Tryz.ntmps95
      go_wp2_with fail
      go_ret
      exact ⟨rfl, rfl⟩
set_option maxRecDepth 20000 in
set_option maxHeartbeats 4000000 in
theorem Name_any (k : Nat) (w : World) : Calls Tryz.prog 56 #[.int .u8 (k : Int)] w fun e w' => e = .returned (.string (nameB k)) ∧ w = w' := by
  unfold nameB
  by_cases h1 : k = 1
  · subst h1
    go_enter Tryz.func56, Tryz.ntmps56
    go_wp2_with fail
    go_ret
    exact ⟨rfl, rfl⟩
  · rw [if_neg h1]
    by_cases h2 : k = 2
    · subst h2
      go_enter Tryz.func56, Tryz.ntmps56
      go_wp2_with fail
      go_ret
      exact ⟨rfl, rfl⟩
    · rw [if_neg h2]
      have j1 : ((k : Int) == 1) = false := by rw [beq_eq_false_iff_ne]; omega
      have j2 : ((k : Int) == 2) = false := by rw [beq_eq_false_iff_ne]; omega
      clear h1 h2
      go_enter Tryz.func56, Tryz.ntmps56
      go_wp2_with fail
      go_ret
      exact ⟨rfl, rfl⟩

theorem infoC : (Tryz.prog.info? 23).map (fun i => (i.zero, i.size, i.bytes)) = some (some (.int .i64 0), 1, 8) := by kernel_rfl
/-- Numbers, cell by cell. -/
def oneA (F : Nat → Int) (n : Nat) : Array Value := Array.ofFn (n := n) (fun j => Value.int .i64 (F j.val))
theorem oneA_get (F : Nat → Int) (n j : Nat) : (oneA F n)[j]? = if j < n then some (.int .i64 (F j)) else Option.none := by
  unfold oneA
  rw [Array.getElem?_ofFn]
  split <;> rfl
theorem oneA_at (F : Nat → Int) {n k : Nat} (h : k < n) : (oneA F n)[k]? = some (.int .i64 (F k)) := by rw [oneA_get, if_pos h]
def partO (F : Nat → Int) (k i : Nat) : Int := if i < k then F i else 0
theorem oneA_set (F : Nat → Int) {n k : Nat} (h : k < n) {x : Int} (hx : F k = x) :
    (oneA (partO F k) n).setIfInBounds k (.int .i64 x) = oneA (partO F (k + 1)) n := by
  apply Array.ext_getElem?
  intro j
  have hs : (oneA (partO F k) n).size = n := by simp [oneA]
  rw [Array.getElem?_setIfInBounds, hs, oneA_get, oneA_get]
  unfold partO
  by_cases h0 : k = j
  · subst h0
    rw [if_pos rfl, if_pos h, if_pos h, if_pos (by omega), hx]
  · rw [if_neg h0]
    by_cases hj : j < n
    · rw [if_pos hj, if_pos hj]
      by_cases hk : j < k
      · rw [if_pos hk, if_pos (by omega)]
      · rw [if_neg hk, if_neg (by omega)]
    · rw [if_neg hj, if_neg hj]
theorem oneA_ext {F G : Nat → Int} {n : Nat} (h : ∀ i, i < n → F i = G i) : oneA F n = oneA G n := by
  apply Array.ext_getElem?
  intro j
  rw [oneA_get, oneA_get]
  by_cases hj : j < n
  · rw [if_pos hj, if_pos hj, h _ hj]
  · rw [if_neg hj, if_neg hj]
/-- What the first k rows pay. -/
def paysTo (F : Nat → Int × Int × Int) : Nat → Int
  | 0 => 0
  | k + 1 => paysTo F k + ((F k).1 + (F k).2.1)
def SumsPost (F : Nat → Int × Int × Int) (n : Nat) (w : World) (e : Ending) (w' : World) : Prop :=
  ∃ g, e = .returned (.slice (some ⟨g, 0, none⟩) n n) ∧ w.heap.size ≤ g ∧ Below w.heap.size w w' ∧ Blk w' g 23 (oneA (fun i => paysTo F (i + 1)) n)
theorem lst_ex : Lst 0 3 1000 334 := by
  refine ⟨by decide, fun z hz => ?_⟩
  rcases Nat.lt_or_ge z 334 with h | h
  · have := mit_low (p := 0) (y := z) 3 1000
    unfold Clr at hz
    omega
  · exact h
end Go.Proofs.YtjlajnackecfgaaGreatDoor
namespace Go.Proofs.YtjlajnackecfgaaGreatDoor
open Go.RowKit

/-- Terms as they lie. -/
structure Trm where
  K : Nat
  P : Int
  R : Nat
  B : Nat
  M : Int
  S : Int
  F : Int
  G : Int
def Trm.v (t : Trm) : Value := .agg #[.int .u8 (t.K : Int), .int .i64 t.P, .int .u32 (t.R : Int), .int .u8 (t.B : Int), .int .i64 t.M, .int .i32 t.S, .int .i64 t.F, .int .i64 t.G]
/-- As the document has them. -/
def Trm.r (t : Trm) : Value := .agg #[.int .u8 (t.K : Int), .int .i64 t.P, .int .u32 (t.R : Int), .int .u8 (t.B : Int), .int .i64 t.M, .int .i64 t.S, .int .i64 t.F, .int .i64 t.G]
structure Trm.In (t : Trm) : Prop where
  K : t.K < 256
  P : -9223372036854775808 ≤ t.P ∧ t.P ≤ 9223372036854775807
  R : t.R < 4294967296
  B : t.B < 256
  M : -9223372036854775808 ≤ t.M ∧ t.M ≤ 9223372036854775807
  S : -2147483648 ≤ t.S ∧ t.S ≤ 2147483647
  F : -9223372036854775808 ≤ t.F ∧ t.F ≤ 9223372036854775807
  G : -9223372036854775808 ≤ t.G ∧ t.G ≤ 9223372036854775807
structure Trm.Right (t : Trm) : Prop where
  K : t.K = 1 ∨ t.K = 2
  R : rateB t.R t.B
  P : 1 ≤ t.P ∧ t.P ≤ 1000000000000
  M : 1 ≤ t.M ∧ t.M ≤ 480
  S : 0 ≤ t.S ∧ t.S ≤ 3600000
  F : 0 ≤ t.F ∧ t.F ≤ 1000000000
  G : 0 ≤ t.G ∧ t.G ≤ 60
theorem BtwC_any (a n b : Int) (w : World) : Calls Tryz.prog 58 #[.int .i64 a, .int .i64 n, .int .i64 b] w fun e w' => e = .returned (.bool (decide (a ≤ n ∧ n ≤ b))) ∧ w' = w := by
  by_cases h0 : a ≤ n
  · by_cases h1 : n ≤ b
    · rw [decide_eq_true ⟨h0, h1⟩]
      go_enter Tryz.func58, Tryz.ntmps58
      go_wp2
      go_ret
      exact ⟨rfl, rfl⟩
    · rw [decide_eq_false (fun h => h1 h.2)]
      go_enter Tryz.func58, Tryz.ntmps58
      go_wp2
      go_ret
      exact ⟨rfl, rfl⟩
  · rw [decide_eq_false (fun h => h0 h.1)]
    go_enter Tryz.func58, Tryz.ntmps58
    go_wp2
    go_ret
    exact ⟨rfl, rfl⟩
theorem BtwI_any (a n b : Int) (w : World) : Calls Tryz.prog 59 #[.int .i64 a, .int .i64 n, .int .i64 b] w fun e w' => e = .returned (.bool (decide (a ≤ n ∧ n ≤ b))) ∧ w' = w := by
  by_cases h0 : a ≤ n
  · by_cases h1 : n ≤ b
    · rw [decide_eq_true ⟨h0, h1⟩]
      go_enter Tryz.func59, Tryz.ntmps59
      go_wp2
      go_ret
      exact ⟨rfl, rfl⟩
    · rw [decide_eq_false (fun h => h1 h.2)]
      go_enter Tryz.func59, Tryz.ntmps59
      go_wp2
      go_ret
      exact ⟨rfl, rfl⟩
  · rw [decide_eq_false (fun h => h0 h.1)]
    go_enter Tryz.func59, Tryz.ntmps59
    go_wp2
    go_ret
    exact ⟨rfl, rfl⟩
theorem BtwD_any (a n b : Int) (w : World) : Calls Tryz.prog 60 #[.int .i32 a, .int .i32 n, .int .i32 b] w fun e w' => e = .returned (.bool (decide (a ≤ n ∧ n ≤ b))) ∧ w' = w := by
  by_cases h0 : a ≤ n
  · by_cases h1 : n ≤ b
    · rw [decide_eq_true ⟨h0, h1⟩]
      go_enter Tryz.func60, Tryz.ntmps60
      go_wp2
      go_ret
      exact ⟨rfl, rfl⟩
    · rw [decide_eq_false (fun h => h1 h.2)]
      go_enter Tryz.func60, Tryz.ntmps60
      go_wp2
      go_ret
      exact ⟨rfl, rfl⟩
  · rw [decide_eq_false (fun h => h0 h.1)]
    go_enter Tryz.func60, Tryz.ntmps60
    go_wp2
    go_ret
    exact ⟨rfl, rfl⟩
theorem Within_any (a n b : Int) (w : World) : Calls Tryz.prog 55 #[.int .i64 n, .int .i64 a, .int .i64 b] w fun e w' => e = .returned (.bool (decide (a ≤ n ∧ n ≤ b))) ∧ w' = w := by
  by_cases h0 : a ≤ n
  · by_cases h1 : n ≤ b
    · rw [decide_eq_true ⟨h0, h1⟩]
      go_enter Tryz.func55, Tryz.ntmps55
      go_wp2
      go_ret
      exact ⟨rfl, rfl⟩
    · rw [decide_eq_false (fun h => h1 h.2)]
      go_enter Tryz.func55, Tryz.ntmps55
      go_wp2
      go_ret
      exact ⟨rfl, rfl⟩
  · rw [decide_eq_false (fun h => h0 h.1)]
    go_enter Tryz.func55, Tryz.ntmps55
    go_wp2
    go_ret
    exact ⟨rfl, rfl⟩
theorem name_yes {K : Nat} (h : K = 1 ∨ K = 2) : (nameB K).toList.isEmpty = false := by
  rcases h with rfl | rfl <;> kernel_rfl
theorem name_no {K : Nat} (h : ¬ (K = 1 ∨ K = 2)) : (nameB K).toList.isEmpty = true := by
  unfold nameB
  rw [if_neg (fun e => h (.inl e)), if_neg (fun e => h (.inr e))]
  kernel_rfl
set_option maxRecDepth 20000 in
set_option maxHeartbeats 4000000 in
theorem TRight_0 {K R B : Nat} {P M S F G : Int} (h0 : ¬ (K = 1 ∨ K = 2)) (w : World) : Calls Tryz.prog 29 #[.agg #[.int .u8 (K : Int), .int .i64 P, .int .u32 (R : Int), .int .u8 (B : Int), .int .i64 M, .int .i32 S, .int .i64 F, .int .i64 G]] w (Ret (.bool false) w) := by
  have hbx := Blk.new w 28 #[.int .u8 (K : Int), .int .i64 P, .int .u32 (R : Int), .int .u8 (B : Int), .int .i64 M, .int .i32 S, .int .i64 F, .int .i64 G]
  have hbl := (Below.refl _ w).alloc (Nat.le_refl _) (.cells #[.int .u8 (K : Int), .int .i64 P, .int .u32 (R : Int), .int .u8 (B : Int), .int .i64 M, .int .i32 S, .int .i64 F, .int .i64 G] 28)
  go_enter Tryz.func29, Tryz.ntmps29
  go_wp2_with fail
  refine (Name_any K _).mono ?_
  rintro e w1 ⟨rfl, rfl⟩
  have hne : (nameB K).toList.isEmpty = true := name_no h0
  obtain ⟨s0, hs0⟩ : ∃ s, nameB K = s := ⟨_, rfl⟩
  rw [hs0] at hne ⊢
  clear hs0
  go_wp2_with fail
  go_ret
  exact ⟨rfl, hbl⟩
set_option maxRecDepth 20000 in
set_option maxHeartbeats 4000000 in
theorem TRight_1 {K R B : Nat} {P M S F G : Int} (h0 : K = 1 ∨ K = 2) (h1 : ¬ (rateB R B)) (w : World) : Calls Tryz.prog 29 #[.agg #[.int .u8 (K : Int), .int .i64 P, .int .u32 (R : Int), .int .u8 (B : Int), .int .i64 M, .int .i32 S, .int .i64 F, .int .i64 G]] w (Ret (.bool false) w) := by
  have hbx := Blk.new w 28 #[.int .u8 (K : Int), .int .i64 P, .int .u32 (R : Int), .int .u8 (B : Int), .int .i64 M, .int .i32 S, .int .i64 F, .int .i64 G]
  have hbl := (Below.refl _ w).alloc (Nat.le_refl _) (.cells #[.int .u8 (K : Int), .int .i64 P, .int .u32 (R : Int), .int .u8 (B : Int), .int .i64 M, .int .i32 S, .int .i64 F, .int .i64 G] 28)
  go_enter Tryz.func29, Tryz.ntmps29
  go_wp2_with fail
  refine (Name_any K _).mono ?_
  rintro e w1 ⟨rfl, rfl⟩
  have hne : (nameB K).toList.isEmpty = false := name_yes h0
  obtain ⟨s0, hs0⟩ : ∃ s, nameB K = s := ⟨_, rfl⟩
  rw [hs0] at hne ⊢
  clear hs0
  go_wp2_with fail
  refine (YR_no h1 _).mono ?_
  rintro e w2 ⟨rfl, hb2⟩
  have HBX := Lib.hid (hbx.below hb2 hbx.lt)
  have HB := Lib.hid (hbl.trans (hb2.mono hbl.size))
  clear hb2 hbx hbl
  have hbx := HBX.out
  have c1 := hbx.cell 1
  have c4 := hbx.cell 4
  have c5 := hbx.cell 5
  have c6 := hbx.cell 6
  have c7 := hbx.cell 7
  simp at c1 c4 c5 c6 c7
  go_wp2_with fail
  go_ret
  exact ⟨rfl, HB.out⟩
set_option maxRecDepth 20000 in
set_option maxHeartbeats 4000000 in
theorem TRight_2 {K R B : Nat} {P M S F G : Int} (h0 : K = 1 ∨ K = 2) (h1 : rateB R B) (h2 : ¬ (1 ≤ P ∧ P ≤ 1000000000000)) (w : World) : Calls Tryz.prog 29 #[.agg #[.int .u8 (K : Int), .int .i64 P, .int .u32 (R : Int), .int .u8 (B : Int), .int .i64 M, .int .i32 S, .int .i64 F, .int .i64 G]] w (Ret (.bool false) w) := by
  have hbx := Blk.new w 28 #[.int .u8 (K : Int), .int .i64 P, .int .u32 (R : Int), .int .u8 (B : Int), .int .i64 M, .int .i32 S, .int .i64 F, .int .i64 G]
  have hbl := (Below.refl _ w).alloc (Nat.le_refl _) (.cells #[.int .u8 (K : Int), .int .i64 P, .int .u32 (R : Int), .int .u8 (B : Int), .int .i64 M, .int .i32 S, .int .i64 F, .int .i64 G] 28)
  go_enter Tryz.func29, Tryz.ntmps29
  go_wp2_with fail
  refine (Name_any K _).mono ?_
  rintro e w1 ⟨rfl, rfl⟩
  have hne : (nameB K).toList.isEmpty = false := name_yes h0
  obtain ⟨s0, hs0⟩ : ∃ s, nameB K = s := ⟨_, rfl⟩
  rw [hs0] at hne ⊢
  clear hs0
  go_wp2_with fail
  refine (YR_yes h1 _).mono ?_
  rintro e w2 ⟨rfl, hb2⟩
  have HBX := Lib.hid (hbx.below hb2 hbx.lt)
  have HB := Lib.hid (hbl.trans (hb2.mono hbl.size))
  clear hb2 hbx hbl
  have hbx := HBX.out
  have c1 := hbx.cell 1
  have c4 := hbx.cell 4
  have c5 := hbx.cell 5
  have c6 := hbx.cell 6
  have c7 := hbx.cell 7
  simp at c1 c4 c5 c6 c7
  go_wp2_with fail
  refine (BtwC_any 1 P 1000000000000 _).mono ?_
  rintro e w9 ⟨rfl, rfl⟩
  rw [decide_eq_false h2]
  go_wp2_with fail
  go_ret
  exact ⟨rfl, HB.out⟩
set_option maxRecDepth 20000 in
set_option maxHeartbeats 4000000 in
theorem TRight_3 {K R B : Nat} {P M S F G : Int} (h0 : K = 1 ∨ K = 2) (h1 : rateB R B) (h2 : 1 ≤ P ∧ P ≤ 1000000000000) (h3 : ¬ (1 ≤ M ∧ M ≤ 480)) (w : World) : Calls Tryz.prog 29 #[.agg #[.int .u8 (K : Int), .int .i64 P, .int .u32 (R : Int), .int .u8 (B : Int), .int .i64 M, .int .i32 S, .int .i64 F, .int .i64 G]] w (Ret (.bool false) w) := by
  have hbx := Blk.new w 28 #[.int .u8 (K : Int), .int .i64 P, .int .u32 (R : Int), .int .u8 (B : Int), .int .i64 M, .int .i32 S, .int .i64 F, .int .i64 G]
  have hbl := (Below.refl _ w).alloc (Nat.le_refl _) (.cells #[.int .u8 (K : Int), .int .i64 P, .int .u32 (R : Int), .int .u8 (B : Int), .int .i64 M, .int .i32 S, .int .i64 F, .int .i64 G] 28)
  go_enter Tryz.func29, Tryz.ntmps29
  go_wp2_with fail
  refine (Name_any K _).mono ?_
  rintro e w1 ⟨rfl, rfl⟩
  have hne : (nameB K).toList.isEmpty = false := name_yes h0
  obtain ⟨s0, hs0⟩ : ∃ s, nameB K = s := ⟨_, rfl⟩
  rw [hs0] at hne ⊢
  clear hs0
  go_wp2_with fail
  refine (YR_yes h1 _).mono ?_
  rintro e w2 ⟨rfl, hb2⟩
  have HBX := Lib.hid (hbx.below hb2 hbx.lt)
  have HB := Lib.hid (hbl.trans (hb2.mono hbl.size))
  clear hb2 hbx hbl
  have hbx := HBX.out
  have c1 := hbx.cell 1
  have c4 := hbx.cell 4
  have c5 := hbx.cell 5
  have c6 := hbx.cell 6
  have c7 := hbx.cell 7
  simp at c1 c4 c5 c6 c7
  go_wp2_with fail
  refine (BtwC_any 1 P 1000000000000 _).mono ?_
  rintro e w9 ⟨rfl, rfl⟩
  rw [decide_eq_true h2]
  go_wp2_with fail
  refine (BtwI_any 1 M 480 _).mono ?_
  rintro e w9 ⟨rfl, rfl⟩
  rw [decide_eq_false h3]
  go_wp2_with fail
  go_ret
  exact ⟨rfl, HB.out⟩
set_option maxRecDepth 20000 in
set_option maxHeartbeats 4000000 in
theorem TRight_4 {K R B : Nat} {P M S F G : Int} (h0 : K = 1 ∨ K = 2) (h1 : rateB R B) (h2 : 1 ≤ P ∧ P ≤ 1000000000000) (h3 : 1 ≤ M ∧ M ≤ 480) (h4 : ¬ (0 ≤ S ∧ S ≤ 3600000)) (w : World) : Calls Tryz.prog 29 #[.agg #[.int .u8 (K : Int), .int .i64 P, .int .u32 (R : Int), .int .u8 (B : Int), .int .i64 M, .int .i32 S, .int .i64 F, .int .i64 G]] w (Ret (.bool false) w) := by
  have hbx := Blk.new w 28 #[.int .u8 (K : Int), .int .i64 P, .int .u32 (R : Int), .int .u8 (B : Int), .int .i64 M, .int .i32 S, .int .i64 F, .int .i64 G]
  have hbl := (Below.refl _ w).alloc (Nat.le_refl _) (.cells #[.int .u8 (K : Int), .int .i64 P, .int .u32 (R : Int), .int .u8 (B : Int), .int .i64 M, .int .i32 S, .int .i64 F, .int .i64 G] 28)
  go_enter Tryz.func29, Tryz.ntmps29
  go_wp2_with fail
  refine (Name_any K _).mono ?_
  rintro e w1 ⟨rfl, rfl⟩
  have hne : (nameB K).toList.isEmpty = false := name_yes h0
  obtain ⟨s0, hs0⟩ : ∃ s, nameB K = s := ⟨_, rfl⟩
  rw [hs0] at hne ⊢
  clear hs0
  go_wp2_with fail
  refine (YR_yes h1 _).mono ?_
  rintro e w2 ⟨rfl, hb2⟩
  have HBX := Lib.hid (hbx.below hb2 hbx.lt)
  have HB := Lib.hid (hbl.trans (hb2.mono hbl.size))
  clear hb2 hbx hbl
  have hbx := HBX.out
  have c1 := hbx.cell 1
  have c4 := hbx.cell 4
  have c5 := hbx.cell 5
  have c6 := hbx.cell 6
  have c7 := hbx.cell 7
  simp at c1 c4 c5 c6 c7
  go_wp2_with fail
  refine (BtwC_any 1 P 1000000000000 _).mono ?_
  rintro e w9 ⟨rfl, rfl⟩
  rw [decide_eq_true h2]
  go_wp2_with fail
  refine (BtwI_any 1 M 480 _).mono ?_
  rintro e w9 ⟨rfl, rfl⟩
  rw [decide_eq_true h3]
  go_wp2_with fail
  refine (BtwD_any 0 S 3600000 _).mono ?_
  rintro e w9 ⟨rfl, rfl⟩
  rw [decide_eq_false h4]
  go_wp2_with fail
  go_ret
  exact ⟨rfl, HB.out⟩
set_option maxRecDepth 20000 in
set_option maxHeartbeats 4000000 in
theorem TRight_5 {K R B : Nat} {P M S F G : Int} (h0 : K = 1 ∨ K = 2) (h1 : rateB R B) (h2 : 1 ≤ P ∧ P ≤ 1000000000000) (h3 : 1 ≤ M ∧ M ≤ 480) (h4 : 0 ≤ S ∧ S ≤ 3600000) (h5 : ¬ (0 ≤ F ∧ F ≤ 1000000000)) (w : World) : Calls Tryz.prog 29 #[.agg #[.int .u8 (K : Int), .int .i64 P, .int .u32 (R : Int), .int .u8 (B : Int), .int .i64 M, .int .i32 S, .int .i64 F, .int .i64 G]] w (Ret (.bool false) w) := by
  have hbx := Blk.new w 28 #[.int .u8 (K : Int), .int .i64 P, .int .u32 (R : Int), .int .u8 (B : Int), .int .i64 M, .int .i32 S, .int .i64 F, .int .i64 G]
  have hbl := (Below.refl _ w).alloc (Nat.le_refl _) (.cells #[.int .u8 (K : Int), .int .i64 P, .int .u32 (R : Int), .int .u8 (B : Int), .int .i64 M, .int .i32 S, .int .i64 F, .int .i64 G] 28)
  go_enter Tryz.func29, Tryz.ntmps29
  go_wp2_with fail
  refine (Name_any K _).mono ?_
  rintro e w1 ⟨rfl, rfl⟩
  have hne : (nameB K).toList.isEmpty = false := name_yes h0
  obtain ⟨s0, hs0⟩ : ∃ s, nameB K = s := ⟨_, rfl⟩
  rw [hs0] at hne ⊢
  clear hs0
  go_wp2_with fail
  refine (YR_yes h1 _).mono ?_
  rintro e w2 ⟨rfl, hb2⟩
  have HBX := Lib.hid (hbx.below hb2 hbx.lt)
  have HB := Lib.hid (hbl.trans (hb2.mono hbl.size))
  clear hb2 hbx hbl
  have hbx := HBX.out
  have c1 := hbx.cell 1
  have c4 := hbx.cell 4
  have c5 := hbx.cell 5
  have c6 := hbx.cell 6
  have c7 := hbx.cell 7
  simp at c1 c4 c5 c6 c7
  go_wp2_with fail
  refine (BtwC_any 1 P 1000000000000 _).mono ?_
  rintro e w9 ⟨rfl, rfl⟩
  rw [decide_eq_true h2]
  go_wp2_with fail
  refine (BtwI_any 1 M 480 _).mono ?_
  rintro e w9 ⟨rfl, rfl⟩
  rw [decide_eq_true h3]
  go_wp2_with fail
  refine (BtwD_any 0 S 3600000 _).mono ?_
  rintro e w9 ⟨rfl, rfl⟩
  rw [decide_eq_true h4]
  go_wp2_with fail
  refine (BtwC_any 0 F 1000000000 _).mono ?_
  rintro e w9 ⟨rfl, rfl⟩
  rw [decide_eq_false h5]
  go_wp2_with fail
  go_ret
  exact ⟨rfl, HB.out⟩
set_option maxRecDepth 20000 in
set_option maxHeartbeats 4000000 in
theorem TRight_6 {K R B : Nat} {P M S F G : Int} (h0 : K = 1 ∨ K = 2) (h1 : rateB R B) (h2 : 1 ≤ P ∧ P ≤ 1000000000000) (h3 : 1 ≤ M ∧ M ≤ 480) (h4 : 0 ≤ S ∧ S ≤ 3600000) (h5 : 0 ≤ F ∧ F ≤ 1000000000) (h6 : ¬ (0 ≤ G ∧ G ≤ 60)) (w : World) : Calls Tryz.prog 29 #[.agg #[.int .u8 (K : Int), .int .i64 P, .int .u32 (R : Int), .int .u8 (B : Int), .int .i64 M, .int .i32 S, .int .i64 F, .int .i64 G]] w (Ret (.bool false) w) := by
  have hbx := Blk.new w 28 #[.int .u8 (K : Int), .int .i64 P, .int .u32 (R : Int), .int .u8 (B : Int), .int .i64 M, .int .i32 S, .int .i64 F, .int .i64 G]
  have hbl := (Below.refl _ w).alloc (Nat.le_refl _) (.cells #[.int .u8 (K : Int), .int .i64 P, .int .u32 (R : Int), .int .u8 (B : Int), .int .i64 M, .int .i32 S, .int .i64 F, .int .i64 G] 28)
  go_enter Tryz.func29, Tryz.ntmps29
  go_wp2_with fail
  refine (Name_any K _).mono ?_
  rintro e w1 ⟨rfl, rfl⟩
  have hne : (nameB K).toList.isEmpty = false := name_yes h0
  obtain ⟨s0, hs0⟩ : ∃ s, nameB K = s := ⟨_, rfl⟩
  rw [hs0] at hne ⊢
  clear hs0
  go_wp2_with fail
  refine (YR_yes h1 _).mono ?_
  rintro e w2 ⟨rfl, hb2⟩
  have HBX := Lib.hid (hbx.below hb2 hbx.lt)
  have HB := Lib.hid (hbl.trans (hb2.mono hbl.size))
  clear hb2 hbx hbl
  have hbx := HBX.out
  have c1 := hbx.cell 1
  have c4 := hbx.cell 4
  have c5 := hbx.cell 5
  have c6 := hbx.cell 6
  have c7 := hbx.cell 7
  simp at c1 c4 c5 c6 c7
  go_wp2_with fail
  refine (BtwC_any 1 P 1000000000000 _).mono ?_
  rintro e w9 ⟨rfl, rfl⟩
  rw [decide_eq_true h2]
  go_wp2_with fail
  refine (BtwI_any 1 M 480 _).mono ?_
  rintro e w9 ⟨rfl, rfl⟩
  rw [decide_eq_true h3]
  go_wp2_with fail
  refine (BtwD_any 0 S 3600000 _).mono ?_
  rintro e w9 ⟨rfl, rfl⟩
  rw [decide_eq_true h4]
  go_wp2_with fail
  refine (BtwC_any 0 F 1000000000 _).mono ?_
  rintro e w9 ⟨rfl, rfl⟩
  rw [decide_eq_true h5]
  go_wp2_with fail
  refine (BtwI_any 0 G 60 _).mono ?_
  rintro e w9 ⟨rfl, rfl⟩
  rw [decide_eq_false h6]
  go_wp2_with fail
  go_ret
  exact ⟨rfl, HB.out⟩
set_option maxRecDepth 20000 in
set_option maxHeartbeats 4000000 in
theorem TRight_yes {K R B : Nat} {P M S F G : Int} (h0 : K = 1 ∨ K = 2) (h1 : rateB R B) (h2 : 1 ≤ P ∧ P ≤ 1000000000000) (h3 : 1 ≤ M ∧ M ≤ 480) (h4 : 0 ≤ S ∧ S ≤ 3600000) (h5 : 0 ≤ F ∧ F ≤ 1000000000) (h6 : 0 ≤ G ∧ G ≤ 60) (w : World) : Calls Tryz.prog 29 #[.agg #[.int .u8 (K : Int), .int .i64 P, .int .u32 (R : Int), .int .u8 (B : Int), .int .i64 M, .int .i32 S, .int .i64 F, .int .i64 G]] w (Ret (.bool true) w) := by
  have hbx := Blk.new w 28 #[.int .u8 (K : Int), .int .i64 P, .int .u32 (R : Int), .int .u8 (B : Int), .int .i64 M, .int .i32 S, .int .i64 F, .int .i64 G]
  have hbl := (Below.refl _ w).alloc (Nat.le_refl _) (.cells #[.int .u8 (K : Int), .int .i64 P, .int .u32 (R : Int), .int .u8 (B : Int), .int .i64 M, .int .i32 S, .int .i64 F, .int .i64 G] 28)
  go_enter Tryz.func29, Tryz.ntmps29
  go_wp2_with fail
  refine (Name_any K _).mono ?_
  rintro e w1 ⟨rfl, rfl⟩
  have hne : (nameB K).toList.isEmpty = false := name_yes h0
  obtain ⟨s0, hs0⟩ : ∃ s, nameB K = s := ⟨_, rfl⟩
  rw [hs0] at hne ⊢
  clear hs0
  go_wp2_with fail
  refine (YR_yes h1 _).mono ?_
  rintro e w2 ⟨rfl, hb2⟩
  have HBX := Lib.hid (hbx.below hb2 hbx.lt)
  have HB := Lib.hid (hbl.trans (hb2.mono hbl.size))
  clear hb2 hbx hbl
  have hbx := HBX.out
  have c1 := hbx.cell 1
  have c4 := hbx.cell 4
  have c5 := hbx.cell 5
  have c6 := hbx.cell 6
  have c7 := hbx.cell 7
  simp at c1 c4 c5 c6 c7
  go_wp2_with fail
  refine (BtwC_any 1 P 1000000000000 _).mono ?_
  rintro e w9 ⟨rfl, rfl⟩
  rw [decide_eq_true h2]
  go_wp2_with fail
  refine (BtwI_any 1 M 480 _).mono ?_
  rintro e w9 ⟨rfl, rfl⟩
  rw [decide_eq_true h3]
  go_wp2_with fail
  refine (BtwD_any 0 S 3600000 _).mono ?_
  rintro e w9 ⟨rfl, rfl⟩
  rw [decide_eq_true h4]
  go_wp2_with fail
  refine (BtwC_any 0 F 1000000000 _).mono ?_
  rintro e w9 ⟨rfl, rfl⟩
  rw [decide_eq_true h5]
  go_wp2_with fail
  refine (BtwI_any 0 G 60 _).mono ?_
  rintro e w9 ⟨rfl, rfl⟩
  rw [decide_eq_true h6]
  go_wp2_with fail
  go_ret
  exact ⟨rfl, HB.out⟩
set_option maxRecDepth 20000 in
set_option maxHeartbeats 4000000 in
theorem QRight_0 {K R B : Nat} {P M S F G : Int} (hK : K < 256) (_ : B < 256) (h0 : ¬ (1 ≤ (K : Int) ∧ (K : Int) ≤ 2)) (w : World) : Calls Tryz.prog 26 #[.agg #[.int .u8 (K : Int), .int .i64 P, .int .u32 (R : Int), .int .u8 (B : Int), .int .i64 M, .int .i64 S, .int .i64 F, .int .i64 G]] w (Ret (.bool false) w) := by
  have hbl := (Below.refl _ w).alloc (Nat.le_refl _) (.cells #[.int .u8 (K : Int), .int .i64 P, .int .u32 (R : Int), .int .u8 (B : Int), .int .i64 M, .int .i64 S, .int .i64 F, .int .i64 G] 40)
  go_enter Tryz.func26, Tryz.ntmps26
  go_wp2_with fail
  refine (Within_any 1 (K : Int) 2 _).mono ?_
  rintro e w9 ⟨rfl, rfl⟩
  rw [decide_eq_false h0]
  go_wp2_with fail
  go_ret
  exact ⟨rfl, hbl⟩
set_option maxRecDepth 20000 in
set_option maxHeartbeats 4000000 in
theorem QRight_1 {K R B : Nat} {P M S F G : Int} (hK : K < 256) (_ : B < 256) (h0 : 1 ≤ (K : Int) ∧ (K : Int) ≤ 2) (h1 : ¬ (1 ≤ P ∧ P ≤ 1000000000000)) (w : World) : Calls Tryz.prog 26 #[.agg #[.int .u8 (K : Int), .int .i64 P, .int .u32 (R : Int), .int .u8 (B : Int), .int .i64 M, .int .i64 S, .int .i64 F, .int .i64 G]] w (Ret (.bool false) w) := by
  have hbl := (Below.refl _ w).alloc (Nat.le_refl _) (.cells #[.int .u8 (K : Int), .int .i64 P, .int .u32 (R : Int), .int .u8 (B : Int), .int .i64 M, .int .i64 S, .int .i64 F, .int .i64 G] 40)
  go_enter Tryz.func26, Tryz.ntmps26
  go_wp2_with fail
  refine (Within_any 1 (K : Int) 2 _).mono ?_
  rintro e w9 ⟨rfl, rfl⟩
  rw [decide_eq_true h0]
  go_wp2_with fail
  refine (Within_any 1 P 1000000000000 _).mono ?_
  rintro e w9 ⟨rfl, rfl⟩
  rw [decide_eq_false h1]
  go_wp2_with fail
  go_ret
  exact ⟨rfl, hbl⟩
set_option maxRecDepth 20000 in
set_option maxHeartbeats 4000000 in
theorem QRight_2 {K R B : Nat} {P M S F G : Int} (hK : K < 256) (_ : B < 256) (h0 : 1 ≤ (K : Int) ∧ (K : Int) ≤ 2) (h1 : 1 ≤ P ∧ P ≤ 1000000000000) (h2 : ¬ ((R : Int) ≤ 1000000)) (w : World) : Calls Tryz.prog 26 #[.agg #[.int .u8 (K : Int), .int .i64 P, .int .u32 (R : Int), .int .u8 (B : Int), .int .i64 M, .int .i64 S, .int .i64 F, .int .i64 G]] w (Ret (.bool false) w) := by
  have hbl := (Below.refl _ w).alloc (Nat.le_refl _) (.cells #[.int .u8 (K : Int), .int .i64 P, .int .u32 (R : Int), .int .u8 (B : Int), .int .i64 M, .int .i64 S, .int .i64 F, .int .i64 G] 40)
  go_enter Tryz.func26, Tryz.ntmps26
  go_wp2_with fail
  refine (Within_any 1 (K : Int) 2 _).mono ?_
  rintro e w9 ⟨rfl, rfl⟩
  rw [decide_eq_true h0]
  go_wp2_with fail
  refine (Within_any 1 P 1000000000000 _).mono ?_
  rintro e w9 ⟨rfl, rfl⟩
  rw [decide_eq_true h1]
  go_wp2_with fail
  go_ret
  exact ⟨rfl, hbl⟩
set_option maxRecDepth 20000 in
set_option maxHeartbeats 4000000 in
theorem QRight_3 {K R B : Nat} {P M S F G : Int} (hK : K < 256) (hB : B < 256) (h0 : 1 ≤ (K : Int) ∧ (K : Int) ≤ 2) (h1 : 1 ≤ P ∧ P ≤ 1000000000000) (h2 : (R : Int) ≤ 1000000) (h3 : ¬ (1 ≤ (B : Int) ∧ (B : Int) ≤ 2)) (w : World) : Calls Tryz.prog 26 #[.agg #[.int .u8 (K : Int), .int .i64 P, .int .u32 (R : Int), .int .u8 (B : Int), .int .i64 M, .int .i64 S, .int .i64 F, .int .i64 G]] w (Ret (.bool false) w) := by
  have hbl := (Below.refl _ w).alloc (Nat.le_refl _) (.cells #[.int .u8 (K : Int), .int .i64 P, .int .u32 (R : Int), .int .u8 (B : Int), .int .i64 M, .int .i64 S, .int .i64 F, .int .i64 G] 40)
  go_enter Tryz.func26, Tryz.ntmps26
  go_wp2_with fail
  refine (Within_any 1 (K : Int) 2 _).mono ?_
  rintro e w9 ⟨rfl, rfl⟩
  rw [decide_eq_true h0]
  go_wp2_with fail
  refine (Within_any 1 P 1000000000000 _).mono ?_
  rintro e w9 ⟨rfl, rfl⟩
  rw [decide_eq_true h1]
  go_wp2_with fail
  refine (Within_any 1 (B : Int) 2 _).mono ?_
  rintro e w9 ⟨rfl, rfl⟩
  rw [decide_eq_false h3]
  go_wp2_with fail
  go_ret
  exact ⟨rfl, hbl⟩
set_option maxRecDepth 20000 in
set_option maxHeartbeats 4000000 in
theorem QRight_4 {K R B : Nat} {P M S F G : Int} (hK : K < 256) (hB : B < 256) (h0 : 1 ≤ (K : Int) ∧ (K : Int) ≤ 2) (h1 : 1 ≤ P ∧ P ≤ 1000000000000) (h2 : (R : Int) ≤ 1000000) (h3 : 1 ≤ (B : Int) ∧ (B : Int) ≤ 2) (h4 : ¬ (1 ≤ M ∧ M ≤ 480)) (w : World) : Calls Tryz.prog 26 #[.agg #[.int .u8 (K : Int), .int .i64 P, .int .u32 (R : Int), .int .u8 (B : Int), .int .i64 M, .int .i64 S, .int .i64 F, .int .i64 G]] w (Ret (.bool false) w) := by
  have hbl := (Below.refl _ w).alloc (Nat.le_refl _) (.cells #[.int .u8 (K : Int), .int .i64 P, .int .u32 (R : Int), .int .u8 (B : Int), .int .i64 M, .int .i64 S, .int .i64 F, .int .i64 G] 40)
  go_enter Tryz.func26, Tryz.ntmps26
  go_wp2_with fail
  refine (Within_any 1 (K : Int) 2 _).mono ?_
  rintro e w9 ⟨rfl, rfl⟩
  rw [decide_eq_true h0]
  go_wp2_with fail
  refine (Within_any 1 P 1000000000000 _).mono ?_
  rintro e w9 ⟨rfl, rfl⟩
  rw [decide_eq_true h1]
  go_wp2_with fail
  refine (Within_any 1 (B : Int) 2 _).mono ?_
  rintro e w9 ⟨rfl, rfl⟩
  rw [decide_eq_true h3]
  go_wp2_with fail
  refine (Within_any 1 M 480 _).mono ?_
  rintro e w9 ⟨rfl, rfl⟩
  rw [decide_eq_false h4]
  go_wp2_with fail
  go_ret
  exact ⟨rfl, hbl⟩
set_option maxRecDepth 20000 in
set_option maxHeartbeats 4000000 in
theorem QRight_5 {K R B : Nat} {P M S F G : Int} (hK : K < 256) (hB : B < 256) (h0 : 1 ≤ (K : Int) ∧ (K : Int) ≤ 2) (h1 : 1 ≤ P ∧ P ≤ 1000000000000) (h2 : (R : Int) ≤ 1000000) (h3 : 1 ≤ (B : Int) ∧ (B : Int) ≤ 2) (h4 : 1 ≤ M ∧ M ≤ 480) (h5 : ¬ (0 ≤ S ∧ S ≤ 3600000)) (w : World) : Calls Tryz.prog 26 #[.agg #[.int .u8 (K : Int), .int .i64 P, .int .u32 (R : Int), .int .u8 (B : Int), .int .i64 M, .int .i64 S, .int .i64 F, .int .i64 G]] w (Ret (.bool false) w) := by
  have hbl := (Below.refl _ w).alloc (Nat.le_refl _) (.cells #[.int .u8 (K : Int), .int .i64 P, .int .u32 (R : Int), .int .u8 (B : Int), .int .i64 M, .int .i64 S, .int .i64 F, .int .i64 G] 40)
  go_enter Tryz.func26, Tryz.ntmps26
  go_wp2_with fail
  refine (Within_any 1 (K : Int) 2 _).mono ?_
  rintro e w9 ⟨rfl, rfl⟩
  rw [decide_eq_true h0]
  go_wp2_with fail
  refine (Within_any 1 P 1000000000000 _).mono ?_
  rintro e w9 ⟨rfl, rfl⟩
  rw [decide_eq_true h1]
  go_wp2_with fail
  refine (Within_any 1 (B : Int) 2 _).mono ?_
  rintro e w9 ⟨rfl, rfl⟩
  rw [decide_eq_true h3]
  go_wp2_with fail
  refine (Within_any 1 M 480 _).mono ?_
  rintro e w9 ⟨rfl, rfl⟩
  rw [decide_eq_true h4]
  go_wp2_with fail
  refine (Within_any 0 S 3600000 _).mono ?_
  rintro e w9 ⟨rfl, rfl⟩
  rw [decide_eq_false h5]
  go_wp2_with fail
  go_ret
  exact ⟨rfl, hbl⟩
set_option maxRecDepth 20000 in
set_option maxHeartbeats 4000000 in
theorem QRight_6 {K R B : Nat} {P M S F G : Int} (hK : K < 256) (hB : B < 256) (h0 : 1 ≤ (K : Int) ∧ (K : Int) ≤ 2) (h1 : 1 ≤ P ∧ P ≤ 1000000000000) (h2 : (R : Int) ≤ 1000000) (h3 : 1 ≤ (B : Int) ∧ (B : Int) ≤ 2) (h4 : 1 ≤ M ∧ M ≤ 480) (h5 : 0 ≤ S ∧ S ≤ 3600000) (h6 : ¬ (0 ≤ F ∧ F ≤ 1000000000)) (w : World) : Calls Tryz.prog 26 #[.agg #[.int .u8 (K : Int), .int .i64 P, .int .u32 (R : Int), .int .u8 (B : Int), .int .i64 M, .int .i64 S, .int .i64 F, .int .i64 G]] w (Ret (.bool false) w) := by
  have hbl := (Below.refl _ w).alloc (Nat.le_refl _) (.cells #[.int .u8 (K : Int), .int .i64 P, .int .u32 (R : Int), .int .u8 (B : Int), .int .i64 M, .int .i64 S, .int .i64 F, .int .i64 G] 40)
  go_enter Tryz.func26, Tryz.ntmps26
  go_wp2_with fail
  refine (Within_any 1 (K : Int) 2 _).mono ?_
  rintro e w9 ⟨rfl, rfl⟩
  rw [decide_eq_true h0]
  go_wp2_with fail
  refine (Within_any 1 P 1000000000000 _).mono ?_
  rintro e w9 ⟨rfl, rfl⟩
  rw [decide_eq_true h1]
  go_wp2_with fail
  refine (Within_any 1 (B : Int) 2 _).mono ?_
  rintro e w9 ⟨rfl, rfl⟩
  rw [decide_eq_true h3]
  go_wp2_with fail
  refine (Within_any 1 M 480 _).mono ?_
  rintro e w9 ⟨rfl, rfl⟩
  rw [decide_eq_true h4]
  go_wp2_with fail
  refine (Within_any 0 S 3600000 _).mono ?_
  rintro e w9 ⟨rfl, rfl⟩
  rw [decide_eq_true h5]
  go_wp2_with fail
  refine (Within_any 0 F 1000000000 _).mono ?_
  rintro e w9 ⟨rfl, rfl⟩
  rw [decide_eq_false h6]
  go_wp2_with fail
  go_ret
  exact ⟨rfl, hbl⟩
set_option maxRecDepth 20000 in
set_option maxHeartbeats 4000000 in
theorem QRight_7 {K R B : Nat} {P M S F G : Int} (hK : K < 256) (hB : B < 256) (h0 : 1 ≤ (K : Int) ∧ (K : Int) ≤ 2) (h1 : 1 ≤ P ∧ P ≤ 1000000000000) (h2 : (R : Int) ≤ 1000000) (h3 : 1 ≤ (B : Int) ∧ (B : Int) ≤ 2) (h4 : 1 ≤ M ∧ M ≤ 480) (h5 : 0 ≤ S ∧ S ≤ 3600000) (h6 : 0 ≤ F ∧ F ≤ 1000000000) (h7 : ¬ (0 ≤ G ∧ G ≤ 60)) (w : World) : Calls Tryz.prog 26 #[.agg #[.int .u8 (K : Int), .int .i64 P, .int .u32 (R : Int), .int .u8 (B : Int), .int .i64 M, .int .i64 S, .int .i64 F, .int .i64 G]] w (Ret (.bool false) w) := by
  have hbl := (Below.refl _ w).alloc (Nat.le_refl _) (.cells #[.int .u8 (K : Int), .int .i64 P, .int .u32 (R : Int), .int .u8 (B : Int), .int .i64 M, .int .i64 S, .int .i64 F, .int .i64 G] 40)
  go_enter Tryz.func26, Tryz.ntmps26
  go_wp2_with fail
  refine (Within_any 1 (K : Int) 2 _).mono ?_
  rintro e w9 ⟨rfl, rfl⟩
  rw [decide_eq_true h0]
  go_wp2_with fail
  refine (Within_any 1 P 1000000000000 _).mono ?_
  rintro e w9 ⟨rfl, rfl⟩
  rw [decide_eq_true h1]
  go_wp2_with fail
  refine (Within_any 1 (B : Int) 2 _).mono ?_
  rintro e w9 ⟨rfl, rfl⟩
  rw [decide_eq_true h3]
  go_wp2_with fail
  refine (Within_any 1 M 480 _).mono ?_
  rintro e w9 ⟨rfl, rfl⟩
  rw [decide_eq_true h4]
  go_wp2_with fail
  refine (Within_any 0 S 3600000 _).mono ?_
  rintro e w9 ⟨rfl, rfl⟩
  rw [decide_eq_true h5]
  go_wp2_with fail
  refine (Within_any 0 F 1000000000 _).mono ?_
  rintro e w9 ⟨rfl, rfl⟩
  rw [decide_eq_true h6]
  go_wp2_with fail
  refine (Within_any 0 G 60 _).mono ?_
  rintro e w9 ⟨rfl, rfl⟩
  rw [decide_eq_false h7]
  go_wp2_with fail
  go_ret
  exact ⟨rfl, hbl⟩
set_option maxRecDepth 20000 in
set_option maxHeartbeats 4000000 in
theorem QRight_yes {K R B : Nat} {P M S F G : Int} (hK : K < 256) (hB : B < 256) (h0 : 1 ≤ (K : Int) ∧ (K : Int) ≤ 2) (h1 : 1 ≤ P ∧ P ≤ 1000000000000) (h2 : (R : Int) ≤ 1000000) (h3 : 1 ≤ (B : Int) ∧ (B : Int) ≤ 2) (h4 : 1 ≤ M ∧ M ≤ 480) (h5 : 0 ≤ S ∧ S ≤ 3600000) (h6 : 0 ≤ F ∧ F ≤ 1000000000) (h7 : 0 ≤ G ∧ G ≤ 60) (w : World) : Calls Tryz.prog 26 #[.agg #[.int .u8 (K : Int), .int .i64 P, .int .u32 (R : Int), .int .u8 (B : Int), .int .i64 M, .int .i64 S, .int .i64 F, .int .i64 G]] w (Ret (.bool true) w) := by
  have hbl := (Below.refl _ w).alloc (Nat.le_refl _) (.cells #[.int .u8 (K : Int), .int .i64 P, .int .u32 (R : Int), .int .u8 (B : Int), .int .i64 M, .int .i64 S, .int .i64 F, .int .i64 G] 40)
  go_enter Tryz.func26, Tryz.ntmps26
  go_wp2_with fail
  refine (Within_any 1 (K : Int) 2 _).mono ?_
  rintro e w9 ⟨rfl, rfl⟩
  rw [decide_eq_true h0]
  go_wp2_with fail
  refine (Within_any 1 P 1000000000000 _).mono ?_
  rintro e w9 ⟨rfl, rfl⟩
  rw [decide_eq_true h1]
  go_wp2_with fail
  refine (Within_any 1 (B : Int) 2 _).mono ?_
  rintro e w9 ⟨rfl, rfl⟩
  rw [decide_eq_true h3]
  go_wp2_with fail
  refine (Within_any 1 M 480 _).mono ?_
  rintro e w9 ⟨rfl, rfl⟩
  rw [decide_eq_true h4]
  go_wp2_with fail
  refine (Within_any 0 S 3600000 _).mono ?_
  rintro e w9 ⟨rfl, rfl⟩
  rw [decide_eq_true h5]
  go_wp2_with fail
  refine (Within_any 0 F 1000000000 _).mono ?_
  rintro e w9 ⟨rfl, rfl⟩
  rw [decide_eq_true h6]
  go_wp2_with fail
  refine (Within_any 0 G 60 _).mono ?_
  rintro e w9 ⟨rfl, rfl⟩
  rw [decide_eq_true h7]
  go_wp2_with fail
  go_ret
  exact ⟨rfl, hbl⟩
theorem TRight_true {t : Trm} (h : t.Right) (w : World) : Calls Tryz.prog 29 #[t.v] w (Ret (.bool true) w) := TRight_yes h.K h.R h.P h.M h.S h.F h.G w
theorem TRight_false {t : Trm} (h : ¬ t.Right) (w : World) : Calls Tryz.prog 29 #[t.v] w (Ret (.bool false) w) := by
  by_cases h0 : t.K = 1 ∨ t.K = 2
  · by_cases h1 : rateB t.R t.B
    · by_cases h2 : 1 ≤ t.P ∧ t.P ≤ 1000000000000
      · by_cases h3 : 1 ≤ t.M ∧ t.M ≤ 480
        · by_cases h4 : 0 ≤ t.S ∧ t.S ≤ 3600000
          · by_cases h5 : 0 ≤ t.F ∧ t.F ≤ 1000000000
            · exact TRight_6 h0 h1 h2 h3 h4 h5 (fun h6 => h ⟨h0, h1, h2, h3, h4, h5, h6⟩) w
            · exact TRight_5 h0 h1 h2 h3 h4 h5 w
          · exact TRight_4 h0 h1 h2 h3 h4 w
        · exact TRight_3 h0 h1 h2 h3 w
      · exact TRight_2 h0 h1 h2 w
    · exact TRight_1 h0 h1 w
  · exact TRight_0 h0 w
theorem QRight_true {t : Trm} (hi : t.In) (h : t.Right) (w : World) : Calls Tryz.prog 26 #[t.r] w (Ret (.bool true) w) := by
  obtain ⟨hK, ⟨hR, hB⟩, hP, hM, hS, hF, hG⟩ := h
  exact QRight_yes hi.K hi.B (by omega) hP (by omega) (by omega) hM hS hF hG w
theorem QRight_false {t : Trm} (hi : t.In) (h : ¬ t.Right) (w : World) : Calls Tryz.prog 26 #[t.r] w (Ret (.bool false) w) := by
  by_cases h0 : 1 ≤ (t.K : Int) ∧ (t.K : Int) ≤ 2
  · by_cases h1 : 1 ≤ t.P ∧ t.P ≤ 1000000000000
    · by_cases h2 : (t.R : Int) ≤ 1000000
      · by_cases h3 : 1 ≤ (t.B : Int) ∧ (t.B : Int) ≤ 2
        · by_cases h4 : 1 ≤ t.M ∧ t.M ≤ 480
          · by_cases h5 : 0 ≤ t.S ∧ t.S ≤ 3600000
            · by_cases h6 : 0 ≤ t.F ∧ t.F ≤ 1000000000
              · exact QRight_7 hi.K hi.B h0 h1 h2 h3 h4 h5 h6 (fun h7 => h ⟨by omega, ⟨by omega, by omega⟩, h1, h4, h5, h6, h7⟩) w
              · exact QRight_6 hi.K hi.B h0 h1 h2 h3 h4 h5 h6 w
            · exact QRight_5 hi.K hi.B h0 h1 h2 h3 h4 h5 w
          · exact QRight_4 hi.K hi.B h0 h1 h2 h3 h4 w
        · exact QRight_3 hi.K hi.B h0 h1 h2 h3 w
      · exact QRight_2 hi.K hi.B h0 h1 h2 w
    · exact QRight_1 hi.K hi.B h0 h1 w
  · exact QRight_0 hi.K hi.B h0 w
end Go.Proofs.YtjlajnackecfgaaGreatDoor
