/-
  wide: Mul, Less, Div, Small, Scale. No condition but the numbers' kinds.
-/
import Derived.Test.YtbikfplipkhhcaaDivC
import Derived.Handy
namespace Go.Proofs.Ytbikfplipkhhcaa
open Go.RowKit

/-- A Wide as a value. -/
def wv (hi lo : Nat) : Value := .agg #[.int .u64 (hi : Int), .int .u64 (lo : Int)]
/-- .. that holds n. -/
def wof (n : Nat) : Value := wv (n / 18446744073709551616) (n % 18446744073709551616)
def Ret (v : Value) (w : World) (e : Ending) (w' : World) : Prop := e = .returned v ∧ Below w.heap.size w w'
theorem wof_parts (q p : Nat) (hp : p < 18446744073709551616) : wof (q * 18446744073709551616 + p) = wv q p := by
  unfold wof
  rw [show (q * 18446744073709551616 + p) / 18446744073709551616 = q by omega, show (q * 18446744073709551616 + p) % 18446744073709551616 = p by omega]
theorem wof_ex (n : Nat) : ∃ h l : Nat, wof n = .agg #[.int .u64 (h : Int), .int .u64 (l : Int)] ∧ n = h * 18446744073709551616 + l ∧ l < 18446744073709551616 :=
  ⟨n / 18446744073709551616, n % 18446744073709551616, rfl, by omega, by omega⟩
theorem wof_small (n : Nat) (hn : n < 18446744073709551616) : wof n = .agg #[.int .u64 0, .int .u64 (n : Int)] := by
  unfold wof wv
  rw [show n / 18446744073709551616 = 0 by omega, show n % 18446744073709551616 = n by omega]
  rfl
theorem wof_eq (n : Nat) : wof n = .agg #[.int .u64 ((n : Int) / 18446744073709551616), .int .u64 ((n : Int) % 18446744073709551616)] := by
  unfold wof wv
  rw [Int.natCast_ediv, Int.natCast_emod]
  rfl

set_option maxHeartbeats 1000000 in
theorem Mul_any (a b : Nat) (ha : a < 18446744073709551616) (hb : b < 18446744073709551616) (w : World) :
    Calls Try.prog 32 #[.int .u64 a, .int .u64 b] w (Ret (wof (a * b)) w) := by
  have hM := bits_Mul64 a b ha hb
  generalize a * b = n at *
  go_enter Try.func32, Try.ntmps32
  go_wp2_with (go_at_call 35; refine (hM _).mono ?_; rintro e w' ⟨rfl, rfl⟩)
  go_returns
  rw [wof_eq]
  exact ⟨rfl, (Below.refl _ _).alloc (Nat.le_refl _) _⟩

def eno (n : Int) : Value := .iface 49 (.int .i64 n)

set_option maxHeartbeats 1000000 in
theorem Div_zero (h l : Nat) (w : World) :
    Calls Try.prog 33 #[wv h l, .int .u64 0] w (Ret (.tuple #[wv 0 0, .int .u64 0, eno 1]) w) := by
  unfold wv
  go_enter Try.func33, Try.ntmps33
  go_wp2
  go_returns
  refine ⟨?_, ?_⟩
  · rfl
  · exact ((Below.refl _ _).alloc (Nat.le_refl _) _).alloc (by simp) _

theorem div_parts (h l n : Nat) (hn : 0 < n) : (h * 18446744073709551616 + l) / n = h / n * 18446744073709551616 + (h % n * 18446744073709551616 + l) / n ∧ (h * 18446744073709551616 + l) % n = (h % n * 18446744073709551616 + l) % n := by
  have e : h * 18446744073709551616 + l = n * (h / n * 18446744073709551616) + (h % n * 18446744073709551616 + l) := by
    have := Nat.div_add_mod h n
    rw [← Nat.mul_assoc]
    generalize n * (h / n) = m at *
    omega
  constructor
  · rw [e, Nat.mul_add_div hn]
  · rw [e, Nat.mul_add_mod]
theorem div_low (h l n : Nat) (hn : h < n) (hl : l < 18446744073709551616) : (h * 18446744073709551616 + l) / n < 18446744073709551616 := by
  rw [Nat.div_lt_iff_lt_mul (by omega), Nat.mul_comm]
  have : (h + 1) * 18446744073709551616 ≤ n * 18446744073709551616 := Nat.mul_le_mul_right _ hn
  omega

set_option maxHeartbeats 2000000 in
set_option maxRecDepth 20000 in
theorem Div_some (h l n : Nat) (hh : h < 18446744073709551616) (hl : l < 18446744073709551616) (hn0 : 0 < n) (hn : n < 18446744073709551616) (w : World) :
    Calls Try.prog 33 #[wv h l, .int .u64 n] w (Ret (.tuple #[wof ((h * 18446744073709551616 + l) / n), .int .u64 ((h * 18446744073709551616 + l) % n : Nat), .nilIface]) w) := by
  have hz : ¬ (n : Int) = 0 := by omega
  obtain ⟨d1, d2⟩ := div_parts h l n hn0
  have hlow := div_low (h % n) l n (Nat.mod_lt _ hn0) hl
  have hC := fun W => bits_Div64 (h % n) l n (Nat.mod_lt _ hn0) hl hn W
  have hle := Nat.div_le_self h n
  obtain ⟨q, hq⟩ : ∃ q, h / n = q := ⟨_, rfl⟩
  obtain ⟨r, hr⟩ : ∃ r, h % n = r := ⟨_, rfl⟩
  rw [hq] at d1 hle
  rw [hr] at d1 d2 hlow hC
  obtain ⟨p, hp⟩ : ∃ p, (r * 18446744073709551616 + l) / n = p := ⟨_, rfl⟩
  obtain ⟨s, hs⟩ : ∃ s, (r * 18446744073709551616 + l) % n = s := ⟨_, rfl⟩
  rw [hp] at d1 hlow hC
  rw [hs] at d2 hC
  have i1 : (h : Int) % (n : Int) = r := by rw [← hr]; rfl
  have i2 : (h : Int).tdiv (n : Int) = q := by rw [← hq]; rfl
  have i3 : IntKind.u64.wrap (q : Int) = q := by rw [IntKind.wrap_u64]; omega
  have i4 : (h : Int).tmod (n : Int) = r := by rw [← hr]; rfl
  have i5 : (h : Int) / (n : Int) = q := by rw [← hq]; rfl
  have D1 := Lib.hid d1
  have D2 := Lib.hid d2
  clear d1 d2 hq hr hp hs
  unfold wv
  go_enter Try.func33, Try.ntmps33
  go_wp2_with fail
  go_quiet ((go_at_call 36; exact Calls.quiet_of (hC _)))
  go_wp2_with fail
  go_returns
  refine ⟨?_, ?_⟩
  · rw [D1.out, D2.out, wof_parts q p hlow]
    rfl
  · exact (((below_drewN (((Below.refl _ _).alloc (Nat.le_refl _) _).alloc (by simp) _) nq).setCell (by simp) _).setCell (by simp) _)

set_option maxHeartbeats 1000000 in
theorem Small_over (h l : Nat) (hh : 0 < h) (w : World) :
    Calls Try.prog 30 #[wv h l] w (Ret (.tuple #[.int .u64 0, eno 12]) w) := by
  have i1 : ((h : Int) != 0) = true := by rw [bne_iff_ne]; omega
  have i2 : ((h : Int) == 0) = false := by rw [beq_eq_false_iff_ne]; omega
  unfold wv
  go_enter Try.func30, Try.ntmps30
  go_wp2
  go_returns
  exact ⟨rfl, (Below.refl _ _).alloc (Nat.le_refl _) _⟩

set_option maxHeartbeats 1000000 in
theorem Small_ok (l : Nat) (w : World) :
    Calls Try.prog 30 #[wv 0 l] w (Ret (.tuple #[.int .u64 l, .nilIface]) w) := by
  unfold wv
  go_enter Try.func30, Try.ntmps30
  go_wp2
  go_returns
  exact ⟨rfl, (Below.refl _ _).alloc (Nat.le_refl _) _⟩

set_option maxHeartbeats 1000000 in
theorem Scale_zero (a b : Nat) (ha : a < 18446744073709551616) (hb : b < 18446744073709551616) (w : World) :
    Calls Try.prog 28 #[.int .u64 a, .int .u64 b, .int .u64 0] w (Ret (.tuple #[.int .u64 0, .int .u64 0, eno 1]) w) := by
  have hM := fun W => Mul_any a b ha hb W
  obtain ⟨h, hh⟩ : ∃ h, a * b / 18446744073709551616 = h := ⟨_, rfl⟩
  obtain ⟨l, hl⟩ : ∃ l, a * b % 18446744073709551616 = l := ⟨_, rfl⟩
  have hD := fun W => Div_zero h l W
  unfold wof at hM
  rw [hh, hl] at hM
  clear hh hl
  unfold wv at hM hD
  unfold eno at hD ⊢
  go_enter Try.func28, Try.ntmps28
  go_wp2_with (first
    | (go_at_call 32; refine (hM _).mono ?_; rintro e w1 ⟨rfl, hb1⟩)
    | (go_at_call 33; refine (hD _).mono ?_; rintro e w2 ⟨rfl, hb2⟩))
  go_ret3
  exact ⟨rfl, (hb1.trans (hb2.mono hb1.size)).alloc (Nat.le_trans hb1.size hb2.size) _⟩

theorem of_mul (a b : Nat) (ha : a < 18446744073709551616) (hb : b < 18446744073709551616) : a * b / 18446744073709551616 < 18446744073709551616 := by
  rw [Nat.div_lt_iff_lt_mul (by decide)]
  exact Nat.mul_lt_mul_of_lt_of_le ha (Nat.le_of_lt hb) (by decide)

set_option maxHeartbeats 2000000 in
theorem Scale_over (a b c : Nat) (ha : a < 18446744073709551616) (hb : b < 18446744073709551616) (hc0 : 0 < c) (hc : c < 18446744073709551616) (hq : 18446744073709551616 ≤ a * b / c) (w : World) :
    Calls Try.prog 28 #[.int .u64 a, .int .u64 b, .int .u64 c] w (Ret (.tuple #[.int .u64 0, .int .u64 0, eno 12]) w) := by
  have hM := fun W => Mul_any a b ha hb W
  obtain ⟨h, hh⟩ : ∃ h, a * b / 18446744073709551616 = h := ⟨_, rfl⟩
  obtain ⟨l, hl⟩ : ∃ l, a * b % 18446744073709551616 = l := ⟨_, rfl⟩
  have hhl : h < 18446744073709551616 := by rw [← hh]; exact of_mul a b ha hb
  have hD := fun W => Div_some h l c hhl (by omega) hc0 hc W
  rw [show h * 18446744073709551616 + l = a * b by omega] at hD
  obtain ⟨s, hs⟩ : ∃ s, a * b % c = s := ⟨_, rfl⟩
  rw [hs] at hD
  unfold wof at hM hD
  rw [hh, hl] at hM
  obtain ⟨q, hqe⟩ : ∃ q, a * b / c = q := ⟨_, rfl⟩
  rw [hqe] at hD hq
  obtain ⟨qh, hqh⟩ : ∃ qh, q / 18446744073709551616 = qh := ⟨_, rfl⟩
  obtain ⟨ql, hql⟩ : ∃ ql, q % 18446744073709551616 = ql := ⟨_, rfl⟩
  rw [hqh, hql] at hD
  have hqp : 0 < qh := by omega
  have hS := fun W => Small_over qh ql hqp W
  clear hh hl hs hqe hqh hql hq hhl
  unfold wv at hM hD hS
  unfold eno at hS ⊢
  go_enter Try.func28, Try.ntmps28
  go_wp2_with (first
    | (go_at_call 32; refine (hM _).mono ?_; rintro e w1 ⟨rfl, hb1⟩)
    | (go_at_call 33; refine (hD _).mono ?_; rintro e w2 ⟨rfl, hb2⟩)
    | (go_at_call 30; refine (hS _).mono ?_; rintro e w3 ⟨rfl, hb3⟩))
  go_ret3
  have h2 := (hb1.trans (hb2.mono hb1.size)).alloc (Nat.le_trans hb1.size hb2.size) (.cells #[.int .u64 qh, .int .u64 ql] 62)
  exact ⟨rfl, h2.trans (hb3.mono h2.size)⟩

set_option maxHeartbeats 2000000 in
theorem Scale_ok (a b c : Nat) (ha : a < 18446744073709551616) (hb : b < 18446744073709551616) (hc0 : 0 < c) (hc : c < 18446744073709551616) (hq : a * b / c < 18446744073709551616) (w : World) :
    Calls Try.prog 28 #[.int .u64 a, .int .u64 b, .int .u64 c] w (Ret (.tuple #[.int .u64 (a * b / c : Nat), .int .u64 (a * b % c : Nat), .nilIface]) w) := by
  have hM := fun W => Mul_any a b ha hb W
  obtain ⟨h, hh⟩ : ∃ h, a * b / 18446744073709551616 = h := ⟨_, rfl⟩
  obtain ⟨l, hl⟩ : ∃ l, a * b % 18446744073709551616 = l := ⟨_, rfl⟩
  have hhl : h < 18446744073709551616 := by rw [← hh]; exact of_mul a b ha hb
  have hD := fun W => Div_some h l c hhl (by omega) hc0 hc W
  rw [show h * 18446744073709551616 + l = a * b by omega] at hD
  obtain ⟨s, hs⟩ : ∃ s, a * b % c = s := ⟨_, rfl⟩
  rw [hs] at hD ⊢
  unfold wof at hM hD
  rw [hh, hl] at hM
  obtain ⟨q, hqe⟩ : ∃ q, a * b / c = q := ⟨_, rfl⟩
  rw [hqe] at hD hq ⊢
  rw [show q / 18446744073709551616 = 0 by omega, show q % 18446744073709551616 = q by omega] at hD
  have hS := fun W => Small_ok q W
  clear hh hl hs hqe hq hhl
  unfold wv at hM hD hS
  go_enter Try.func28, Try.ntmps28
  go_wp2_with (first
    | (go_at_call 32; refine (hM _).mono ?_; rintro e w1 ⟨rfl, hb1⟩)
    | (go_at_call 33; refine (hD _).mono ?_; rintro e w2 ⟨rfl, hb2⟩)
    | (go_at_call 30; refine (hS _).mono ?_; rintro e w3 ⟨rfl, hb3⟩))
  go_ret3
  have h2 := (hb1.trans (hb2.mono hb1.size)).alloc (Nat.le_trans hb1.size hb2.size) (.cells #[.int .u64 0, .int .u64 q] 62)
  exact ⟨rfl, h2.trans (hb3.mono h2.size)⟩

end Go.Proofs.Ytbikfplipkhhcaa
