/-
wide: Mul, Less, Div, Small, Scale. No condition but the numbers' kinds.
wide: Plus, Add, Round. No condition but the numbers' kinds.
yield's arithmetic: pieces, parts by parts, months. No condition.
yield: Right, Unit, Days. Conditions: the numbers' kinds.
level's arithmetic: months of a payment, the least one. No condition.
yield's Month. Conditions: the numbers' kinds.
-/
import Derived.Test.YtpnoecjpplaicaaGreatDoorDivC
import Derived.Handy
import Derived.Laws.Externs
import Derived.Test.YtpnoecjpplaicaaGreatDoorMem
import Derived.Deep.RegionHeld3
namespace Go.Proofs.YtpnoecjpplaicaaGreatDoor
open Go.RowKit

/-- A Wide as a value. -/
def wv (hi lo : Nat) : Value := .agg #[.int .u64 (hi : Int), .int .u64 (lo : Int)]
/-- .. that holds n. -/
def wof (n : Nat) : Value := wv (n / 18446744073709551616) (n % 18446744073709551616)
def Ret (v : Value) (w : World) (e : Ending) (w' : World) : Prop := e = .returned v ∧ Below w.heap.size w w'
theorem wof_parts (q p : Nat) (hp : p < 18446744073709551616) : wof (q * 18446744073709551616 + p) = wv q p := by
  unfold wof
  rw [show (q * 18446744073709551616 + p) / 18446744073709551616 = q by omega, show (q * 18446744073709551616 + p) % 18446744073709551616 = p by omega]
theorem wof_ex (n : Nat) : ∃ h l : Nat, wof n = .agg #[.int .u64 (h : Int), .int .u64 (l : Int)] ∧ n = h * 18446744073709551616 + l ∧ l < 18446744073709551616 :=
  ⟨n / 18446744073709551616, n % 18446744073709551616, rfl, by omega, by omega⟩
theorem wof_small (n : Nat) (hn : n < 18446744073709551616) : wof n = .agg #[.int .u64 0, .int .u64 (n : Int)] := by
  unfold wof wv
  rw [show n / 18446744073709551616 = 0 by omega, show n % 18446744073709551616 = n by omega]
  rfl
theorem wof_eq (n : Nat) : wof n = .agg #[.int .u64 ((n : Int) / 18446744073709551616), .int .u64 ((n : Int) % 18446744073709551616)] := by
  unfold wof wv
  rw [Int.natCast_ediv, Int.natCast_emod]
  rfl

set_option maxHeartbeats 1000000 in
theorem Mul_any (a b : Nat) (ha : a < 18446744073709551616) (hb : b < 18446744073709551616) (w : World) :
    Calls Tryz.prog 193 #[.int .u64 a, .int .u64 b] w (Ret (wof (a * b)) w) := by
  have hM := bits_Mul64 a b ha hb
  generalize a * b = n at *
  go_enter Tryz.func193, Tryz.ntmps193
  go_wp2_with (go_at_call 209; refine (hM _).mono ?_; rintro e w' ⟨rfl, rfl⟩)
  go_returns
  rw [wof_eq]
  exact ⟨rfl, (Below.refl _ _).alloc (Nat.le_refl _) _⟩

def eno (n : Int) : Value := .iface 45 (.int .i64 n)

set_option maxHeartbeats 1000000 in
theorem Div_zero (h l : Nat) (w : World) :
    Calls Tryz.prog 194 #[wv h l, .int .u64 0] w (Ret (.tuple #[wv 0 0, .int .u64 0, eno 1]) w) := by
  unfold wv
  go_enter Tryz.func194, Tryz.ntmps194
  go_wp2
  go_returns
  refine ⟨?_, ?_⟩
  · rfl
  · exact ((Below.refl _ _).alloc (Nat.le_refl _) _).alloc (by simp) _

theorem div_parts (h l n : Nat) (hn : 0 < n) : (h * 18446744073709551616 + l) / n = h / n * 18446744073709551616 + (h % n * 18446744073709551616 + l) / n ∧ (h * 18446744073709551616 + l) % n = (h % n * 18446744073709551616 + l) % n := by
  have e : h * 18446744073709551616 + l = n * (h / n * 18446744073709551616) + (h % n * 18446744073709551616 + l) := by
    have := Nat.div_add_mod h n
    rw [← Nat.mul_assoc]
    generalize n * (h / n) = m at *
    omega
  constructor
  · rw [e, Nat.mul_add_div hn]
  · rw [e, Nat.mul_add_mod]
theorem div_low (h l n : Nat) (hn : h < n) (hl : l < 18446744073709551616) : (h * 18446744073709551616 + l) / n < 18446744073709551616 := by
  rw [Nat.div_lt_iff_lt_mul (by omega), Nat.mul_comm]
  have : (h + 1) * 18446744073709551616 ≤ n * 18446744073709551616 := Nat.mul_le_mul_right _ hn
  omega

set_option maxHeartbeats 2000000 in
set_option maxRecDepth 20000 in
theorem Div_some (h l n : Nat) (hh : h < 18446744073709551616) (hl : l < 18446744073709551616) (hn0 : 0 < n) (hn : n < 18446744073709551616) (w : World) :
    Calls Tryz.prog 194 #[wv h l, .int .u64 n] w (Ret (.tuple #[wof ((h * 18446744073709551616 + l) / n), .int .u64 ((h * 18446744073709551616 + l) % n : Nat), .nilIface]) w) := by
  have hz : ¬ (n : Int) = 0 := by omega
  obtain ⟨d1, d2⟩ := div_parts h l n hn0
  have hlow := div_low (h % n) l n (Nat.mod_lt _ hn0) hl
  have hC := fun W => bits_Div64 (h % n) l n (Nat.mod_lt _ hn0) hl hn W
  have hle := Nat.div_le_self h n
  obtain ⟨q, hq⟩ : ∃ q, h / n = q := ⟨_, rfl⟩
  obtain ⟨r, hr⟩ : ∃ r, h % n = r := ⟨_, rfl⟩
  rw [hq] at d1 hle
  rw [hr] at d1 d2 hlow hC
  obtain ⟨p, hp⟩ : ∃ p, (r * 18446744073709551616 + l) / n = p := ⟨_, rfl⟩
  obtain ⟨s, hs⟩ : ∃ s, (r * 18446744073709551616 + l) % n = s := ⟨_, rfl⟩
  rw [hp] at d1 hlow hC
  rw [hs] at d2 hC
  have i1 : (h : Int) % (n : Int) = r := by rw [← hr]; rfl
  have i2 : (h : Int).tdiv (n : Int) = q := by rw [← hq]; rfl
  have i3 : IntKind.u64.wrap (q : Int) = q := by rw [IntKind.wrap_u64]; omega
  have i4 : (h : Int).tmod (n : Int) = r := by rw [← hr]; rfl
  have i5 : (h : Int) / (n : Int) = q := by rw [← hq]; rfl
  have D1 := Lib.hid d1
  have D2 := Lib.hid d2
  clear d1 d2 hq hr hp hs
  unfold wv
  go_enter Tryz.func194, Tryz.ntmps194
  go_wp2_with fail
  go_quiet ((go_at_call 210; exact Calls.quiet_of (hC _)))
  go_wp2_with fail
  go_returns
  refine ⟨?_, ?_⟩
  · rw [D1.out, D2.out, wof_parts q p hlow]
    rfl
  · exact (((below_drewN (((Below.refl _ _).alloc (Nat.le_refl _) _).alloc (by simp) _) nq).setCell (by simp) _).setCell (by simp) _)

set_option maxHeartbeats 1000000 in
theorem Small_over (h l : Nat) (hh : 0 < h) (w : World) :
    Calls Tryz.prog 180 #[wv h l] w (Ret (.tuple #[.int .u64 0, eno 12]) w) := by
  have i1 : ((h : Int) != 0) = true := by rw [bne_iff_ne]; omega
  have i2 : ((h : Int) == 0) = false := by rw [beq_eq_false_iff_ne]; omega
  unfold wv
  go_enter Tryz.func180, Tryz.ntmps180
  go_wp2
  go_returns
  exact ⟨rfl, (Below.refl _ _).alloc (Nat.le_refl _) _⟩

set_option maxHeartbeats 1000000 in
theorem Small_ok (l : Nat) (w : World) :
    Calls Tryz.prog 180 #[wv 0 l] w (Ret (.tuple #[.int .u64 l, .nilIface]) w) := by
  unfold wv
  go_enter Tryz.func180, Tryz.ntmps180
  go_wp2
  go_returns
  exact ⟨rfl, (Below.refl _ _).alloc (Nat.le_refl _) _⟩

set_option maxHeartbeats 1000000 in
theorem Scale_zero (a b : Nat) (ha : a < 18446744073709551616) (hb : b < 18446744073709551616) (w : World) :
    Calls Tryz.prog 178 #[.int .u64 a, .int .u64 b, .int .u64 0] w (Ret (.tuple #[.int .u64 0, .int .u64 0, eno 1]) w) := by
  have hM := fun W => Mul_any a b ha hb W
  obtain ⟨h, hh⟩ : ∃ h, a * b / 18446744073709551616 = h := ⟨_, rfl⟩
  obtain ⟨l, hl⟩ : ∃ l, a * b % 18446744073709551616 = l := ⟨_, rfl⟩
  have hD := fun W => Div_zero h l W
  unfold wof at hM
  rw [hh, hl] at hM
  clear hh hl
  unfold wv at hM hD
  unfold eno at hD ⊢
  go_enter Tryz.func178, Tryz.ntmps178
  go_wp2_with (first
    | (go_at_call 193; refine (hM _).mono ?_; rintro e w1 ⟨rfl, hb1⟩)
    | (go_at_call 194; refine (hD _).mono ?_; rintro e w2 ⟨rfl, hb2⟩))
  go_ret3
  exact ⟨rfl, (hb1.trans (hb2.mono hb1.size)).alloc (Nat.le_trans hb1.size hb2.size) _⟩

theorem of_mul (a b : Nat) (ha : a < 18446744073709551616) (hb : b < 18446744073709551616) : a * b / 18446744073709551616 < 18446744073709551616 := by
  rw [Nat.div_lt_iff_lt_mul (by decide)]
  exact Nat.mul_lt_mul_of_lt_of_le ha (Nat.le_of_lt hb) (by decide)

set_option maxHeartbeats 2000000 in
theorem Scale_over (a b c : Nat) (ha : a < 18446744073709551616) (hb : b < 18446744073709551616) (hc0 : 0 < c) (hc : c < 18446744073709551616) (hq : 18446744073709551616 ≤ a * b / c) (w : World) :
    Calls Tryz.prog 178 #[.int .u64 a, .int .u64 b, .int .u64 c] w (Ret (.tuple #[.int .u64 0, .int .u64 0, eno 12]) w) := by
  have hM := fun W => Mul_any a b ha hb W
  obtain ⟨h, hh⟩ : ∃ h, a * b / 18446744073709551616 = h := ⟨_, rfl⟩
  obtain ⟨l, hl⟩ : ∃ l, a * b % 18446744073709551616 = l := ⟨_, rfl⟩
  have hhl : h < 18446744073709551616 := by rw [← hh]; exact of_mul a b ha hb
  have hD := fun W => Div_some h l c hhl (by omega) hc0 hc W
  rw [show h * 18446744073709551616 + l = a * b by omega] at hD
  obtain ⟨s, hs⟩ : ∃ s, a * b % c = s := ⟨_, rfl⟩
  rw [hs] at hD
  unfold wof at hM hD
  rw [hh, hl] at hM
  obtain ⟨q, hqe⟩ : ∃ q, a * b / c = q := ⟨_, rfl⟩
  rw [hqe] at hD hq
  obtain ⟨qh, hqh⟩ : ∃ qh, q / 18446744073709551616 = qh := ⟨_, rfl⟩
  obtain ⟨ql, hql⟩ : ∃ ql, q % 18446744073709551616 = ql := ⟨_, rfl⟩
  rw [hqh, hql] at hD
  have hqp : 0 < qh := by omega
  have hS := fun W => Small_over qh ql hqp W
  clear hh hl hs hqe hqh hql hq hhl
  unfold wv at hM hD hS
  unfold eno at hS ⊢
  go_enter Tryz.func178, Tryz.ntmps178
  go_wp2_with (first
    | (go_at_call 193; refine (hM _).mono ?_; rintro e w1 ⟨rfl, hb1⟩)
    | (go_at_call 194; refine (hD _).mono ?_; rintro e w2 ⟨rfl, hb2⟩)
    | (go_at_call 180; refine (hS _).mono ?_; rintro e w3 ⟨rfl, hb3⟩))
  go_ret3
  have h2 := (hb1.trans (hb2.mono hb1.size)).alloc (Nat.le_trans hb1.size hb2.size) (.cells #[.int .u64 qh, .int .u64 ql] 261)
  exact ⟨rfl, h2.trans (hb3.mono h2.size)⟩

set_option maxHeartbeats 2000000 in
theorem Scale_ok (a b c : Nat) (ha : a < 18446744073709551616) (hb : b < 18446744073709551616) (hc0 : 0 < c) (hc : c < 18446744073709551616) (hq : a * b / c < 18446744073709551616) (w : World) :
    Calls Tryz.prog 178 #[.int .u64 a, .int .u64 b, .int .u64 c] w (Ret (.tuple #[.int .u64 (a * b / c : Nat), .int .u64 (a * b % c : Nat), .nilIface]) w) := by
  have hM := fun W => Mul_any a b ha hb W
  obtain ⟨h, hh⟩ : ∃ h, a * b / 18446744073709551616 = h := ⟨_, rfl⟩
  obtain ⟨l, hl⟩ : ∃ l, a * b % 18446744073709551616 = l := ⟨_, rfl⟩
  have hhl : h < 18446744073709551616 := by rw [← hh]; exact of_mul a b ha hb
  have hD := fun W => Div_some h l c hhl (by omega) hc0 hc W
  rw [show h * 18446744073709551616 + l = a * b by omega] at hD
  obtain ⟨s, hs⟩ : ∃ s, a * b % c = s := ⟨_, rfl⟩
  rw [hs] at hD ⊢
  unfold wof at hM hD
  rw [hh, hl] at hM
  obtain ⟨q, hqe⟩ : ∃ q, a * b / c = q := ⟨_, rfl⟩
  rw [hqe] at hD hq ⊢
  rw [show q / 18446744073709551616 = 0 by omega, show q % 18446744073709551616 = q by omega] at hD
  have hS := fun W => Small_ok q W
  clear hh hl hs hqe hq hhl
  unfold wv at hM hD hS
  go_enter Tryz.func178, Tryz.ntmps178
  go_wp2_with (first
    | (go_at_call 193; refine (hM _).mono ?_; rintro e w1 ⟨rfl, hb1⟩)
    | (go_at_call 194; refine (hD _).mono ?_; rintro e w2 ⟨rfl, hb2⟩)
    | (go_at_call 180; refine (hS _).mono ?_; rintro e w3 ⟨rfl, hb3⟩))
  go_ret3
  have h2 := (hb1.trans (hb2.mono hb1.size)).alloc (Nat.le_trans hb1.size hb2.size) (.cells #[.int .u64 0, .int .u64 q] 261)
  exact ⟨rfl, h2.trans (hb3.mono h2.size)⟩

end Go.Proofs.YtpnoecjpplaicaaGreatDoor
namespace Go.Proofs.YtpnoecjpplaicaaGreatDoor
open Go.RowKit

theorem add64_run (x y c : Nat) (hc : c ≤ 1) (w : World) :
    (callFunc 211 #[.int .u64 x, .int .u64 y, .int .u64 c]).run Tryz.prog w =
      .ok (.value (.tuple #[.int .u64 (((x + y + c) % 18446744073709551616 : Nat) : Int), .int .u64 (((x + y + c) / 18446744073709551616 : Nat) : Int)])) w := by
  rw [run_callFunc_extern Tryz.func211 (by kernel_rfl) (by kernel_rfl) (by kernel_rfl) (e := add64Entry) (by kernel_rfl), run_add64 x y c (by omega) (by omega) (by omega) (by omega)]
  simp only [Result.andThen]
  congr 5 <;> omega

set_option maxHeartbeats 2000000 in
theorem Plus_over (h1 l1 h2 l2 : Nat) (a1 : h1 < 18446744073709551616) (a2 : l1 < 18446744073709551616) (a3 : h2 < 18446744073709551616) (a4 : l2 < 18446744073709551616)
    (hs : 340282366920938463463374607431768211456 ≤ h1 * 18446744073709551616 + l1 + (h2 * 18446744073709551616 + l2)) (w : World) :
    Calls Tryz.prog 195 #[wv h1 l1, wv h2 l2] w (Ret (.tuple #[wv 0 0, eno 12]) w) := by
  have r1 := fun W => add64_run l1 l2 0 (by decide) W
  obtain ⟨lo, hlo⟩ : ∃ lo, (l1 + l2 + 0) % 18446744073709551616 = lo := ⟨_, rfl⟩
  obtain ⟨ca, hca⟩ : ∃ ca, (l1 + l2 + 0) / 18446744073709551616 = ca := ⟨_, rfl⟩
  rw [hlo, hca] at r1
  have r2 := fun W => add64_run h1 h2 ca (by omega) W
  obtain ⟨hi, hhi⟩ : ∃ hi, (h1 + h2 + ca) % 18446744073709551616 = hi := ⟨_, rfl⟩
  rw [hhi, show (h1 + h2 + ca) / 18446744073709551616 = 1 by omega] at r2
  replace r1 : ∀ W, (callFunc 211 #[.int .u64 (l1 : Int), .int .u64 (l2 : Int), .int .u64 0]).run Tryz.prog W = .ok (.value (.tuple #[.int .u64 (lo : Int), .int .u64 (ca : Int)])) W := r1
  replace r2 : ∀ W, (callFunc 211 #[.int .u64 (h1 : Int), .int .u64 (h2 : Int), .int .u64 (ca : Int)]).run Tryz.prog W = .ok (.value (.tuple #[.int .u64 (hi : Int), .int .u64 1])) W := r2
  clear hlo hca hhi hs
  unfold wv eno
  go_enter Tryz.func195, Tryz.ntmps195
  go_wp2
  go_returns
  exact ⟨rfl, (((Below.refl _ _).alloc (Nat.le_refl _) _).alloc (by simp) _).alloc (by simp; omega) _⟩

set_option maxHeartbeats 2000000 in
theorem Plus_ok (h1 l1 h2 l2 S : Nat) (a2 : l1 < 18446744073709551616) (a4 : l2 < 18446744073709551616)
    (hS : h1 * 18446744073709551616 + l1 + (h2 * 18446744073709551616 + l2) = S) (hs : S < 340282366920938463463374607431768211456) (w : World) :
    Calls Tryz.prog 195 #[wv h1 l1, wv h2 l2] w (Ret (.tuple #[wof S, .nilIface]) w) := by
  have r1 := fun W => add64_run l1 l2 0 (by decide) W
  obtain ⟨lo, hlo⟩ : ∃ lo, (l1 + l2 + 0) % 18446744073709551616 = lo := ⟨_, rfl⟩
  obtain ⟨ca, hca⟩ : ∃ ca, (l1 + l2 + 0) / 18446744073709551616 = ca := ⟨_, rfl⟩
  rw [hlo, hca] at r1
  have r2 := fun W => add64_run h1 h2 ca (by omega) W
  obtain ⟨hi, hhi⟩ : ∃ hi, (h1 + h2 + ca) % 18446744073709551616 = hi := ⟨_, rfl⟩
  rw [hhi, show (h1 + h2 + ca) / 18446744073709551616 = 0 by omega] at r2
  replace r1 : ∀ W, (callFunc 211 #[.int .u64 (l1 : Int), .int .u64 (l2 : Int), .int .u64 0]).run Tryz.prog W = .ok (.value (.tuple #[.int .u64 (lo : Int), .int .u64 (ca : Int)])) W := r1
  replace r2 : ∀ W, (callFunc 211 #[.int .u64 (h1 : Int), .int .u64 (h2 : Int), .int .u64 (ca : Int)]).run Tryz.prog W = .ok (.value (.tuple #[.int .u64 (hi : Int), .int .u64 0])) W := r2
  rw [show S = hi * 18446744073709551616 + lo by omega, wof_parts hi lo (by omega)]
  clear hlo hca hhi hs hS
  unfold wv
  go_enter Tryz.func195, Tryz.ntmps195
  go_wp2
  go_returns
  exact ⟨rfl, (((Below.refl _ _).alloc (Nat.le_refl _) _).alloc (by simp) _).alloc (by simp; omega) _⟩

set_option maxHeartbeats 2000000 in
theorem Add_over (h1 l1 n : Nat) (a1 : h1 < 18446744073709551616) (a2 : l1 < 18446744073709551616) (a4 : n < 18446744073709551616)
    (hs : 340282366920938463463374607431768211456 ≤ h1 * 18446744073709551616 + l1 + n) (w : World) :
    Calls Tryz.prog 179 #[wv h1 l1, .int .u64 n] w (Ret (.tuple #[wv 0 0, eno 12]) w) := by
  have hP := fun W => Plus_over h1 l1 0 n a1 a2 (by decide) a4 (by omega) W
  clear hs
  unfold wv at hP ⊢
  unfold eno at hP ⊢
  go_enter Tryz.func179, Tryz.ntmps179
  go_wp2_with fail
  refine (hP _).mono ?_
  rintro e w1 ⟨rfl, hb1⟩
  have hs1 := hb1.size
  have hb : Below w.heap.size w w1 := (((Below.refl _ _).alloc (Nat.le_refl _) _).alloc (by simp) _).trans (hb1.mono (by simp; omega))
  have HK : Hid (Blk w1 (w.heap.size + 1) 261 #[.int .u64 0, .int .u64 0]) := Lib.hid (by
    have h := Blk.new (w.alloc (.cells #[.int .u64 (h1 : Int), .int .u64 (l1 : Int)] 261)) 261 #[.int .u64 0, .int .u64 0]
    simp only [World.size_alloc] at h
    exact h.below hb1 (by simp))
  have k0 : w1.cell? ⟨w.heap.size + 1, 0, none⟩ = some (.int .u64 0) := HK.out.cell 0
  have k1 : w1.cell? ⟨w.heap.size + 1, 1, none⟩ = some (.int .u64 0) := HK.out.cell 1
  have f0 : w1.frozen? ⟨w.heap.size + 1, 0, none⟩ = false := HK.out.frozen 0
  have f1 : w1.frozen? ⟨w.heap.size + 1, 1, none⟩ = false := HK.out.frozen 1
  clear hb1
  go_wp2_with fail
  have HB := (HK.out.set_ 0 (.int .u64 0)).set_ 1 (.int .u64 0)
  have q0 := HB.cell 0
  have q1 := HB.cell 1
  refine bodyPost_ret (by simp [results, Tryz.results179, go_sem, q0, q1]; try rfl) rfl ?_
  exact ⟨rfl, (hb.setCell (by simp) _).setCell (by simp) _⟩

set_option maxHeartbeats 2000000 in
theorem Add_ok (h1 l1 n S : Nat) (a2 : l1 < 18446744073709551616) (a4 : n < 18446744073709551616)
    (hS : h1 * 18446744073709551616 + l1 + n = S) (hs : S < 340282366920938463463374607431768211456) (w : World) :
    Calls Tryz.prog 179 #[wv h1 l1, .int .u64 n] w (Ret (.tuple #[wof S, .nilIface]) w) := by
  have hP := fun W => Plus_ok h1 l1 0 n S a2 a4 (by omega) hs W
  obtain ⟨sh, sl, es, -, -⟩ := wof_ex S
  rw [es] at hP ⊢
  clear hs hS es
  unfold wv at hP ⊢
  go_enter Tryz.func179, Tryz.ntmps179
  go_wp2_with fail
  refine (hP _).mono ?_
  rintro e w1 ⟨rfl, hb1⟩
  have hs1 := hb1.size
  have hb : Below w.heap.size w w1 := (((Below.refl _ _).alloc (Nat.le_refl _) _).alloc (by simp) _).trans (hb1.mono (by simp; omega))
  have HK : Hid (Blk w1 (w.heap.size + 1) 261 #[.int .u64 0, .int .u64 0]) := Lib.hid (by
    have h := Blk.new (w.alloc (.cells #[.int .u64 (h1 : Int), .int .u64 (l1 : Int)] 261)) 261 #[.int .u64 0, .int .u64 0]
    simp only [World.size_alloc] at h
    exact h.below hb1 (by simp))
  have k0 : w1.cell? ⟨w.heap.size + 1, 0, none⟩ = some (.int .u64 0) := HK.out.cell 0
  have k1 : w1.cell? ⟨w.heap.size + 1, 1, none⟩ = some (.int .u64 0) := HK.out.cell 1
  have f0 : w1.frozen? ⟨w.heap.size + 1, 0, none⟩ = false := HK.out.frozen 0
  have f1 : w1.frozen? ⟨w.heap.size + 1, 1, none⟩ = false := HK.out.frozen 1
  clear hb1
  go_wp2_with fail
  have HB := (HK.out.set_ 0 (.int .u64 sh)).set_ 1 (.int .u64 sl)
  have q0 := HB.cell 0
  have q1 := HB.cell 1
  refine bodyPost_ret (by simp [results, Tryz.results179, go_sem, q0, q1]; try rfl) rfl ?_
  exact ⟨rfl, (hb.setCell (by simp) _).setCell (by simp) _⟩

set_option maxHeartbeats 1000000 in
theorem Round_zero (a b : Nat) (ha : a < 18446744073709551616) (hb : b < 18446744073709551616) (w : World) :
    Calls Tryz.prog 152 #[.int .u64 a, .int .u64 b, .int .u64 0] w (Ret (.tuple #[.int .u64 0, eno 1]) w) := by
  have hS := fun W => Scale_zero a b ha hb W
  unfold eno at hS ⊢
  go_enter Tryz.func152, Tryz.ntmps152
  go_wp2_with (go_at_call 178; refine (hS _).mono ?_; rintro e w1 ⟨rfl, hb1⟩)
  go_returns
  exact ⟨rfl, hb1⟩

set_option maxHeartbeats 1000000 in
theorem Round_over (a b c : Nat) (ha : a < 18446744073709551616) (hb : b < 18446744073709551616) (hc0 : 0 < c) (hc : c < 18446744073709551616) (hq : 18446744073709551616 ≤ a * b / c) (w : World) :
    Calls Tryz.prog 152 #[.int .u64 a, .int .u64 b, .int .u64 c] w (Ret (.tuple #[.int .u64 0, eno 12]) w) := by
  have hS := fun W => Scale_over a b c ha hb hc0 hc hq W
  clear hq
  unfold eno at hS ⊢
  go_enter Tryz.func152, Tryz.ntmps152
  go_wp2_with (go_at_call 178; refine (hS _).mono ?_; rintro e w1 ⟨rfl, hb1⟩)
  go_returns
  exact ⟨rfl, hb1⟩

set_option maxHeartbeats 1000000 in
theorem Round_down (a b c : Nat) (ha : a < 18446744073709551616) (hb : b < 18446744073709551616) (hc0 : 0 < c) (hc : c < 18446744073709551616) (hq : a * b / c < 18446744073709551616)
    (hd : a * b % c < c - a * b % c) (w : World) :
    Calls Tryz.prog 152 #[.int .u64 a, .int .u64 b, .int .u64 c] w (Ret (.tuple #[.int .u64 (a * b / c : Nat), .nilIface]) w) := by
  have hS := fun W => Scale_ok a b c ha hb hc0 hc hq W
  obtain ⟨q, hqe⟩ : ∃ q, a * b / c = q := ⟨_, rfl⟩
  obtain ⟨s, hs⟩ : ∃ s, a * b % c = s := ⟨_, rfl⟩
  rw [hqe, hs] at hS
  rw [hs] at hd
  rw [hqe]
  have i1 : IntKind.u64.wrap ((c : Int) - (s : Int)) = ((c : Int) - (s : Int)) := by rw [IntKind.wrap_u64]; omega
  have i2 : (s : Int) < (c : Int) - (s : Int) := by omega
  clear hq hqe hs hd
  go_enter Tryz.func152, Tryz.ntmps152
  go_wp2_with (go_at_call 178; refine (hS _).mono ?_; rintro e w1 ⟨rfl, hb1⟩)
  go_returns
  exact ⟨rfl, hb1⟩

set_option maxHeartbeats 2000000 in
theorem Round_up (a b c : Nat) (ha : a < 18446744073709551616) (hb : b < 18446744073709551616) (hc0 : 0 < c) (hc : c < 18446744073709551616) (hq : a * b / c + 1 < 18446744073709551616)
    (hd : ¬ a * b % c < c - a * b % c) (w : World) :
    Calls Tryz.prog 152 #[.int .u64 a, .int .u64 b, .int .u64 c] w (Ret (.tuple #[.int .u64 (a * b / c + 1 : Nat), .nilIface]) w) := by
  have hS := fun W => Scale_ok a b c ha hb hc0 hc (by omega) W
  have hsl := Nat.mod_lt (a * b) hc0
  obtain ⟨q, hqe⟩ : ∃ q, a * b / c = q := ⟨_, rfl⟩
  obtain ⟨s, hs⟩ : ∃ s, a * b % c = s := ⟨_, rfl⟩
  rw [hqe, hs] at hS
  rw [hs] at hd hsl
  rw [hqe] at hq ⊢
  have hA := fun W => Add_ok 0 q 1 (q + 1) (by omega) (by decide) (by omega) (by omega) W
  rw [wof_small (q + 1) hq] at hA
  obtain ⟨k, hk⟩ : ∃ k, q + 1 = k := ⟨_, rfl⟩
  rw [hk] at hA ⊢
  have hM := fun W => Small_ok k W
  have i1 : IntKind.u64.wrap ((c : Int) - (s : Int)) = ((c : Int) - (s : Int)) := by rw [IntKind.wrap_u64]; omega
  have i2 : ¬ (s : Int) < (c : Int) - (s : Int) := by omega
  unfold wv at hA hM
  clear hq hqe hs hd hk hsl
  go_enter Tryz.func152, Tryz.ntmps152
  go_wp2_with (first
    | (go_at_call 178; refine (hS _).mono ?_; rintro e w1 ⟨rfl, hb1⟩)
    | (go_at_call 179; refine (hA _).mono ?_; rintro e w2 ⟨rfl, hb2⟩)
    | (go_at_call 180; refine (hM _).mono ?_; rintro e w3 ⟨rfl, hb3⟩))
  go_returns
  have h2 := (hb1.trans (hb2.mono hb1.size)).alloc (Nat.le_trans hb1.size hb2.size) (.cells #[.int .u64 0, .int .u64 k] 261)
  exact ⟨rfl, h2.trans (hb3.mono h2.size)⟩

set_option maxHeartbeats 2000000 in
theorem Round_top (a b c : Nat) (ha : a < 18446744073709551616) (hb : b < 18446744073709551616) (hc0 : 0 < c) (hc : c < 18446744073709551616) (hq : a * b / c + 1 = 18446744073709551616)
    (hd : ¬ a * b % c < c - a * b % c) (w : World) :
    Calls Tryz.prog 152 #[.int .u64 a, .int .u64 b, .int .u64 c] w (Ret (.tuple #[.int .u64 0, eno 12]) w) := by
  have hS := fun W => Scale_ok a b c ha hb hc0 hc (by omega) W
  have hsl := Nat.mod_lt (a * b) hc0
  obtain ⟨q, hqe⟩ : ∃ q, a * b / c = q := ⟨_, rfl⟩
  obtain ⟨s, hs⟩ : ∃ s, a * b % c = s := ⟨_, rfl⟩
  rw [hqe, hs] at hS
  rw [hs] at hd hsl
  rw [hqe] at hq
  have hA := fun W => Add_ok 0 q 1 18446744073709551616 (by omega) (by decide) (by omega) (by decide) W
  have e1 : wof 18446744073709551616 = .agg #[.int .u64 1, .int .u64 0] := rfl
  rw [e1] at hA
  have hM := fun W => Small_over 1 0 (by decide) W
  have i1 : IntKind.u64.wrap ((c : Int) - (s : Int)) = ((c : Int) - (s : Int)) := by rw [IntKind.wrap_u64]; omega
  have i2 : ¬ (s : Int) < (c : Int) - (s : Int) := by omega
  unfold wv at hA hM
  unfold eno at hM ⊢
  clear hq hqe hs hd hsl e1
  go_enter Tryz.func152, Tryz.ntmps152
  go_wp2_with (first
    | (go_at_call 178; refine (hS _).mono ?_; rintro e w1 ⟨rfl, hb1⟩)
    | (go_at_call 179; refine (hA _).mono ?_; rintro e w2 ⟨rfl, hb2⟩)
    | (go_at_call 180; refine (hM _).mono ?_; rintro e w3 ⟨rfl, hb3⟩))
  go_returns
  have h2 := (hb1.trans (hb2.mono hb1.size)).alloc (Nat.le_trans hb1.size hb2.size) (.cells #[.int .u64 1, .int .u64 0] 261)
  exact ⟨rfl, h2.trans (hb3.mono h2.size)⟩
end Go.Proofs.YtpnoecjpplaicaaGreatDoor
namespace Go.Proofs.YtpnoecjpplaicaaGreatDoor
/-- How many pieces one is, by the basis. -/
def unitN (b : Nat) : Nat := if b = 1 then 365000000 else 360000000
theorem unitN_bd (b : Nat) : 360000000 ≤ unitN b ∧ unitN b ≤ 365000000 := by
  unfold unitN; split <;> omega
theorem pp_le {P p : Nat} (hP : P ≤ 1000000000000) (hp : p ≤ 1000000) : P * p ≤ 1000000000000000000 := Nat.mul_le_mul hP hp
theorem pcs_le {X d c : Nat} (hX : X ≤ 1000000000000000000) (hd : d ≤ 100000) (hc : c < 18446744073709551616) : X * d + c < 340282366920938463463374607431768211456 := by
  have := Nat.mul_le_mul hX hd
  omega
theorem pcs_div {X d c U : Nat} (hX : X ≤ 1000000000000000000) (hd : d ≤ 100000) (hU : 360000000 ≤ U) (hc : c < U) : (X * d + c) / U < 9223372036854775808 := by
  have h := Nat.mul_le_mul hX hd
  rw [Nat.div_lt_iff_lt_mul (by omega)]
  have : 9223372036854775808 * 360000000 ≤ 9223372036854775808 * U := Nat.mul_le_mul_left _ hU
  omega
/-- Part by part: what was carried adds up. -/
theorem adds_step {X U s l c A k : Nat} (h : s * U + l = X * A + c) :
    (s + (X * k + l) / U) * U + (X * k + l) % U = X * (A + k) + c := by
  have e := Nat.div_add_mod (X * k + l) U
  rw [Nat.add_mul, Nat.mul_add, Nat.mul_comm ((X * k + l) / U) U]
  omega
theorem adds_end {U s l N : Nat} (h : s * U + l = N) (hl : l < U) : N / U = s ∧ N % U = l := by
  subst h
  constructor
  · rw [Nat.add_comm, Nat.add_mul_div_right _ _ (by omega), Nat.div_eq_of_lt hl, Nat.zero_add]
  · rw [Nat.add_comm, Nat.add_mul_mod_self_right, Nat.mod_eq_of_lt hl]
theorem bound_one {X U c : Nat} (hU : 0 < U) (hc : c < U) : X / U ≤ (X + c) / U ∧ (X + c) / U ≤ X / U + 1 := by
  constructor
  · exact Nat.div_le_div_right (Nat.le_add_right _ _)
  · calc (X + c) / U ≤ (X + U) / U := Nat.div_le_div_right (by omega)
      _ = X / U + 1 := Nat.add_div_right _ hU
theorem grows {P Q p q d e U : Nat} (h1 : P ≤ Q) (h2 : p ≤ q) (h3 : d ≤ e) : (P * p * d + 0) / U ≤ (Q * q * e + 0) / U :=
  Nat.div_le_div_right (Nat.mul_le_mul (Nat.mul_le_mul h1 h2) h3)
/-- A month: a twelfth of a year. -/
theorem month_div (X : Nat) : X * 30 / 360000000 = X / 12000000 ∧ X * 30 % 360000000 = X % 12000000 * 30 := by
  omega
end Go.Proofs.YtpnoecjpplaicaaGreatDoor
namespace Go.Proofs.YtpnoecjpplaicaaGreatDoor
open Go.RowKit

theorem b_alloc (w : World) (o : Obj) : Below w.heap.size w (w.alloc o) := (Below.refl _ w).alloc (Nat.le_refl _) o
theorem one_b {w w' : World} {o : Obj} (h : Below (w.alloc o).heap.size (w.alloc o) w') : Below w.heap.size w w' := (b_alloc w o).trans (h.mono (by simp))
/-- A rate. -/
def rv (p b : Nat) : Value := .agg #[.int .u32 (p : Int), .int .u8 (b : Int)]
def rateB (p b : Nat) : Prop := p ≤ 1000000 ∧ (b = 1 ∨ b = 2)
instance (p b : Nat) : Decidable (rateB p b) := inferInstanceAs (Decidable (_ ∧ _))

set_option maxHeartbeats 1000000 in
theorem Right_any (a : Int) (w : World) :
    Calls Tryz.prog 177 #[.int .i64 a] w fun e w' => e = .returned (.bool (decide (0 ≤ a ∧ a ≤ 1000000000000))) ∧ w' = w := by
  by_cases h0 : 0 ≤ a
  · by_cases h1 : a ≤ 1000000000000
    · rw [decide_eq_true ⟨h0, h1⟩]
      go_enter Tryz.func177, Tryz.ntmps177
      go_wp2
      go_ret
      exact ⟨rfl, rfl⟩
    · rw [decide_eq_false (fun h => h1 h.2)]
      go_enter Tryz.func177, Tryz.ntmps177
      go_wp2
      go_ret
      exact ⟨rfl, rfl⟩
  · rw [decide_eq_false (fun h => h0 h.1)]
    go_enter Tryz.func177, Tryz.ntmps177
    go_wp2
    go_ret
    exact ⟨rfl, rfl⟩
theorem Coin_yes {a : Int} (h0 : 0 ≤ a) (h1 : a ≤ 1000000000000) (w : World) : Calls Tryz.prog 177 #[.int .i64 a] w fun e w' => e = .returned (.bool true) ∧ w = w' := by
  refine (Right_any a w).mono ?_
  rintro e w' ⟨rfl, rfl⟩
  exact ⟨by rw [decide_eq_true ⟨h0, h1⟩], rfl⟩
theorem Coin_no {a : Int} (h : ¬ (0 ≤ a ∧ a ≤ 1000000000000)) (w : World) : Calls Tryz.prog 177 #[.int .i64 a] w fun e w' => e = .returned (.bool false) ∧ w = w' := by
  refine (Right_any a w).mono ?_
  rintro e w' ⟨rfl, rfl⟩
  exact ⟨by rw [decide_eq_false h], rfl⟩

set_option maxHeartbeats 1000000 in
theorem Year_any (b : Nat) (w : World) : Calls Tryz.prog 76 #[.int .u8 (b : Int)] w fun e w' => e = .returned (.int .i64 (if b = 1 then 365 else if b = 2 then 360 else 0)) ∧ w = w' := by
  by_cases h1 : b = 1
  · subst h1
    go_enter Tryz.func76, Tryz.ntmps76
    go_wp2_with fail
    go_ret
    exact ⟨rfl, rfl⟩
  · by_cases h2 : b = 2
    · subst h2
      go_enter Tryz.func76, Tryz.ntmps76
      go_wp2_with fail
      go_ret
      exact ⟨rfl, rfl⟩
    · rw [if_neg h1, if_neg h2]
      have i1 : ¬ (b : Int) = 1 := by omega
      have i2 : ¬ (b : Int) = 2 := by omega
      have j1 : ((b : Int) == 1) = false := by rw [beq_eq_false_iff_ne]; omega
      have j2 : ((b : Int) == 2) = false := by rw [beq_eq_false_iff_ne]; omega
      clear h1 h2
      go_enter Tryz.func76, Tryz.ntmps76
      go_wp2_with fail
      go_ret
      exact ⟨rfl, rfl⟩
theorem Year_bad {b : Nat} (h : ¬ (b = 1 ∨ b = 2)) (w : World) : Calls Tryz.prog 76 #[.int .u8 (b : Int)] w fun e w' => e = .returned (.int .i64 0) ∧ w = w' := by
  have := Year_any b w
  rwa [if_neg (fun e => h (Or.inl e)), if_neg (fun e => h (Or.inr e))] at this

set_option maxHeartbeats 2000000 in
theorem YR_yes {p b : Nat} (h : rateB p b) (w : World) : Calls Tryz.prog 34 #[rv p b] w (Ret (.bool true) w) := by
  obtain ⟨hp, hb⟩ := h
  have hY := fun W => Year_any b W
  unfold rv
  have i1 : (p : Int) ≤ 1000000 := by omega
  rcases hb with rfl | rfl
  · replace hY : ∀ W, Calls Tryz.prog 76 #[.int .u8 1] W fun e w' => e = .returned (.int .i64 365) ∧ W = w' := hY
    go_enter Tryz.func34, Tryz.ntmps34
    go_wp2_with (go_at_call 76; refine (hY _).mono ?_; rintro e w1 ⟨rfl, rfl⟩)
    go_ret
    exact ⟨rfl, b_alloc _ _⟩
  · replace hY : ∀ W, Calls Tryz.prog 76 #[.int .u8 2] W fun e w' => e = .returned (.int .i64 360) ∧ W = w' := hY
    go_enter Tryz.func34, Tryz.ntmps34
    go_wp2_with (go_at_call 76; refine (hY _).mono ?_; rintro e w1 ⟨rfl, rfl⟩)
    go_ret
    exact ⟨rfl, b_alloc _ _⟩
set_option maxHeartbeats 2000000 in
theorem YR_no {p b : Nat} (h : ¬ rateB p b) (w : World) : Calls Tryz.prog 34 #[rv p b] w (Ret (.bool false) w) := by
  unfold rv
  by_cases hp : p ≤ 1000000
  · have hY := fun W => Year_bad (b := b) (fun hb => h ⟨hp, hb⟩) W
    have i1 : (p : Int) ≤ 1000000 := by omega
    clear h
    go_enter Tryz.func34, Tryz.ntmps34
    go_wp2_with (go_at_call 76; refine (hY _).mono ?_; rintro e w1 ⟨rfl, rfl⟩)
    go_ret
    exact ⟨rfl, b_alloc _ _⟩
  · have i1 : ¬ (p : Int) ≤ 1000000 := by omega
    clear h
    go_enter Tryz.func34, Tryz.ntmps34
    go_wp2_with fail
    go_ret
    exact ⟨rfl, b_alloc _ _⟩
set_option maxHeartbeats 2000000 in
theorem unitOf_any {b : Nat} (hb : b = 1 ∨ b = 2) (w : World) : Calls Tryz.prog 154 #[.int .u8 (b : Int)] w (Ret (.int .u64 (unitN b : Nat)) w) := by
  have hY := fun W => Year_any b W
  rcases hb with rfl | rfl
  · replace hY : ∀ W, Calls Tryz.prog 76 #[.int .u8 1] W fun e w' => e = .returned (.int .i64 365) ∧ W = w' := hY
    rw [show unitN 1 = 365000000 from rfl]
    go_enter Tryz.func154, Tryz.ntmps154
    go_wp2_with (go_at_call 76; refine (hY _).mono ?_; rintro e w1 ⟨rfl, rfl⟩)
    go_ret
    exact ⟨rfl, Below.refl _ _⟩
  · replace hY : ∀ W, Calls Tryz.prog 76 #[.int .u8 2] W fun e w' => e = .returned (.int .i64 360) ∧ W = w' := hY
    rw [show unitN 2 = 360000000 from rfl]
    go_enter Tryz.func154, Tryz.ntmps154
    go_wp2_with (go_at_call 76; refine (hY _).mono ?_; rintro e w1 ⟨rfl, rfl⟩)
    go_ret
    exact ⟨rfl, Below.refl _ _⟩
set_option maxHeartbeats 2000000 in
theorem takes_yes {p b : Nat} {P : Int} (h : rateB p b) (h0 : 0 ≤ P) (h1 : P ≤ 1000000000000) (w : World) : Calls Tryz.prog 151 #[rv p b, .int .i64 P] w (Ret (.bool true) w) := by
  have hR := fun W => YR_yes h W
  have hC := fun W => Coin_yes h0 h1 W
  clear h
  unfold rv at hR ⊢
  go_enter Tryz.func151, Tryz.ntmps151
  have HQ0 := Lib.hid (Blk.new w 25 #[.int .u32 (p : Int), .int .u8 (b : Int)])
  have HB0 := Lib.hid (b_alloc w (.cells #[.int .u32 (p : Int), .int .u8 (b : Int)] 25))
  go_wp2_with fail
  refine (hR _).mono ?_
  rintro e w1 ⟨rfl, hb1⟩
  have HQ1_0 := Lib.hid (HQ0.out.below hb1 HQ0.out.lt)
  have HB1 := Lib.hid (HB0.out.trans (hb1.mono HB0.out.size))
  clear hb1
  have c1_0_0 := HQ1_0.out.cell 0
  have c1_0_1 := HQ1_0.out.cell 1
  have z1_0 := HQ1_0.out.lt
  simp at c1_0_0 c1_0_1
  go_wp2_with fail
  refine (hC _).mono ?_
  rintro e w99 ⟨rfl, rfl⟩
  go_wp2_with fail
  go_ret
  exact ⟨rfl, HB1.out⟩
set_option maxHeartbeats 2000000 in
theorem takes_rate {p b : Nat} (P : Int) (h : ¬ rateB p b) (w : World) : Calls Tryz.prog 151 #[rv p b, .int .i64 P] w (Ret (.bool false) w) := by
  have hR := fun W => YR_no h W
  clear h
  unfold rv at hR ⊢
  go_enter Tryz.func151, Tryz.ntmps151
  have HQ0 := Lib.hid (Blk.new w 25 #[.int .u32 (p : Int), .int .u8 (b : Int)])
  have HB0 := Lib.hid (b_alloc w (.cells #[.int .u32 (p : Int), .int .u8 (b : Int)] 25))
  go_wp2_with fail
  refine (hR _).mono ?_
  rintro e w1 ⟨rfl, hb1⟩
  have HQ1_0 := Lib.hid (HQ0.out.below hb1 HQ0.out.lt)
  have HB1 := Lib.hid (HB0.out.trans (hb1.mono HB0.out.size))
  clear hb1
  have c1_0_0 := HQ1_0.out.cell 0
  have c1_0_1 := HQ1_0.out.cell 1
  have z1_0 := HQ1_0.out.lt
  simp at c1_0_0 c1_0_1
  go_wp2_with fail
  go_ret
  exact ⟨rfl, HB1.out⟩
set_option maxHeartbeats 2000000 in
theorem takes_coin {p b : Nat} {P : Int} (h : rateB p b) (h0 : ¬ (0 ≤ P ∧ P ≤ 1000000000000)) (w : World) : Calls Tryz.prog 151 #[rv p b, .int .i64 P] w (Ret (.bool false) w) := by
  have hR := fun W => YR_yes h W
  have hC := fun W => Coin_no h0 W
  clear h h0
  unfold rv at hR ⊢
  go_enter Tryz.func151, Tryz.ntmps151
  have HQ0 := Lib.hid (Blk.new w 25 #[.int .u32 (p : Int), .int .u8 (b : Int)])
  have HB0 := Lib.hid (b_alloc w (.cells #[.int .u32 (p : Int), .int .u8 (b : Int)] 25))
  go_wp2_with fail
  refine (hR _).mono ?_
  rintro e w1 ⟨rfl, hb1⟩
  have HQ1_0 := Lib.hid (HQ0.out.below hb1 HQ0.out.lt)
  have HB1 := Lib.hid (HB0.out.trans (hb1.mono HB0.out.size))
  clear hb1
  have c1_0_0 := HQ1_0.out.cell 0
  have c1_0_1 := HQ1_0.out.cell 1
  have z1_0 := HQ1_0.out.lt
  simp at c1_0_0 c1_0_1
  go_wp2_with fail
  refine (hC _).mono ?_
  rintro e w99 ⟨rfl, rfl⟩
  go_wp2_with fail
  go_ret
  exact ⟨rfl, HB1.out⟩
set_option maxHeartbeats 2000000 in
theorem takes_no {p b : Nat} {P : Int} (h : ¬ (rateB p b ∧ 0 ≤ P ∧ P ≤ 1000000000000)) (w : World) : Calls Tryz.prog 151 #[rv p b, .int .i64 P] w (Ret (.bool false) w) := by
  by_cases hr : rateB p b
  · exact takes_coin hr (fun hc => h ⟨hr, hc⟩) w
  · exact takes_rate P hr w
set_option maxHeartbeats 2000000 in
theorem daily_any {P p X : Nat} (b : Nat) (hP : P ≤ 1000000000000) (hp : p ≤ 1000000) (hX : P * p = X) (w : World) : Calls Tryz.prog 153 #[rv p b, .int .i64 (P : Int)] w (Ret (.int .u64 (X : Int)) w) := by
  have hXl := pp_le hP hp
  rw [hX] at hXl
  have i1 : (P : Int) * (p : Int) = (X : Int) := by rw [← hX]; simp
  have i2 : IntKind.u64.wrap (X : Int) = (X : Int) := by rw [IntKind.wrap_u64]; omega
  have i3 : IntKind.u64.wrap (P : Int) = (P : Int) := by rw [IntKind.wrap_u64]; omega
  have i4 : IntKind.u64.wrap (p : Int) = (p : Int) := by rw [IntKind.wrap_u64]; omega
  clear hXl hX
  unfold rv
  go_enter Tryz.func153, Tryz.ntmps153
  go_wp2_with fail
  go_ret

  exact ⟨by first | rfl | rw [i1, i2], b_alloc _ _⟩
end Go.Proofs.YtpnoecjpplaicaaGreatDoor
namespace Go.Proofs.YtpnoecjpplaicaaGreatDoor
/-- A month's interest. -/
def monthN (X : Nat) : Nat := (X + 6000000) / 12000000
theorem month_half (X : Nat) : (X * 30 % 360000000 < 360000000 - X * 30 % 360000000 ↔ X % 12000000 < 6000000) ∧ (X % 12000000 < 6000000 → X * 30 / 360000000 = monthN X) ∧ (¬ X % 12000000 < 6000000 → X * 30 / 360000000 + 1 = monthN X) := by
  unfold monthN
  omega
theorem month_rest (X : Nat) : (X % 12000000 < 6000000 → X / 12000000 = monthN X) ∧ (¬ X % 12000000 < 6000000 → X / 12000000 + 1 = monthN X) := by
  unfold monthN
  omega
theorem month_bd (X : Nat) (h : X ≤ 1000000000000000000) : monthN X ≤ 100000000000 := by
  unfold monthN
  omega
/-- A month's interest on Q, at p millionths. -/
def mi (p Q : Nat) : Nat := monthN (Q * p)
theorem mi_mono {p Q R : Nat} (h : Q ≤ R) : mi p Q ≤ mi p R := by
  unfold mi monthN
  exact Nat.div_le_div_right (Nat.add_le_add_right (Nat.mul_le_mul_right _ h) _)
theorem mi_zero (p : Nat) : mi p 0 = 0 := by simp [mi, monthN]
/-- What a month of the payment y leaves of Q. -/
def mst (p y Q : Nat) : Nat := Q + mi p Q - y
theorem mst_mono {p y z Q R : Nat} (h : Q ≤ R) (hy : z ≤ y) : mst p y Q ≤ mst p z R := by
  unfold mst
  have := mi_mono (p := p) h
  omega
theorem mst_zero (p y : Nat) : mst p y 0 = 0 := by simp [mst, mi_zero]
/-- So many months. -/
def mit (p y : Nat) : Nat → Nat → Nat
  | 0, Q => Q
  | n + 1, Q => mit p y n (mst p y Q)
theorem mit_zero (p y : Nat) : ∀ n, mit p y n 0 = 0
  | 0 => rfl
  | n + 1 => by rw [mit, mst_zero]; exact mit_zero p y n
theorem mit_mono {p y z : Nat} (hy : z ≤ y) : ∀ (n : Nat) {Q R : Nat}, Q ≤ R → mit p y n Q ≤ mit p z n R
  | 0, _, _, h => h
  | n + 1, _, _, h => mit_mono hy n (mst_mono h hy)
theorem mit_succ (p y : Nat) : ∀ (n Q : Nat), mit p y (n + 1) Q = mst p y (mit p y n Q)
  | 0, _ => rfl
  | n + 1, Q => by rw [mit, mit_succ p y n]; rfl
theorem mit_stuck {p y Q : Nat} (h : Q ≤ mst p y Q) : ∀ n, Q ≤ mit p y n Q
  | 0 => Nat.le_refl _
  | n + 1 => by
    rw [mit_succ]
    exact Nat.le_trans h (mst_mono (mit_stuck h n) (Nat.le_refl _))
theorem mit_more {p y Q n : Nat} (h : mit p y n Q = 0) : ∀ k, mit p y (n + k) Q = 0
  | 0 => h
  | k + 1 => by rw [← Nat.add_assoc, mit_succ, mit_more h k, mst_zero]
/-- The months leave nothing. -/
def Clr (p n P y : Nat) : Prop := mit p y n P = 0
instance (p n P y : Nat) : Decidable (Clr p n P y) := inferInstanceAs (Decidable (_ = _))
theorem Clr.mono {p n m P Q y z : Nat} (h : Clr p m Q y) (hn : m ≤ n) (hP : P ≤ Q) (hy : y ≤ z) : Clr p n P z := by
  obtain ⟨k, rfl⟩ := Nat.le.dest hn
  have h1 := mit_more h k
  have h2 := mit_mono (p := p) hy (m + k) hP
  unfold Clr
  omega
theorem mit_low {p y : Nat} : ∀ (n Q : Nat), Q - n * y ≤ mit p y n Q
  | 0, Q => by simp [mit]
  | n + 1, Q => by
    have := mit_low (p := p) (y := y) n (mst p y Q)
    rw [mit, Nat.add_mul]
    unfold mst at this ⊢
    omega
theorem mit_high {p l P : Nat} : ∀ (n Q : Nat), Q ≤ P → mit p (l + mi p P) n Q ≤ Q - n * l
  | 0, Q, _ => by simp [mit]
  | n + 1, Q, h => by
    have hm := mi_mono (p := p) h
    have := mit_high (p := p) (l := l) (P := P) n (mst p (l + mi p P) Q) (by unfold mst; omega)
    rw [mit, Nat.add_mul]
    unfold mst at this ⊢
    omega
/-- An n-th part, rounded up. -/
def prt (P n : Nat) : Nat := (P + n - 1) / n
theorem prt_le {P n : Nat} (hn : 0 < n) : P ≤ n * prt P n := by
  unfold prt
  have h1 := Nat.div_add_mod (P + n - 1) n
  have h2 := Nat.mod_lt (P + n - 1) hn
  omega
theorem prt_lt {P n y : Nat} (hn : 0 < n) (hP : 0 < P) (h : y < prt P n) : n * y < P := by
  unfold prt at h
  have h1 : (y + 1) ≤ (P + n - 1) / n := h
  rw [Nat.le_div_iff_mul_le hn, Nat.add_mul, Nat.mul_comm y n] at h1
  omega
theorem prt_pos {P n : Nat} (hn : 0 < n) (hP : 0 < P) : 1 ≤ prt P n := by
  unfold prt
  rw [Nat.le_div_iff_mul_le hn]
  omega
theorem prt_bd {P n : Nat} (hn : 0 < n) (hP : 0 < P) : prt P n ≤ P := by
  unfold prt
  rw [Nat.div_le_iff_le_mul hn]
  have : P * 1 ≤ P * n := Nat.mul_le_mul_left _ hn
  have e : P * n = P * (n - 1) + P := by
    obtain ⟨k, rfl⟩ : ∃ k, n = k + 1 := ⟨n - 1, by omega⟩
    simp [Nat.mul_add]
  have : n - 1 ≤ P * (n - 1) := Nat.le_mul_of_pos_left _ hP
  omega
theorem clr_high {p P n : Nat} (hn : 0 < n) : Clr p n P (prt P n + mi p P) := by
  have h1 := mit_high (p := p) (l := prt P n) n P (Nat.le_refl _)
  have h2 := prt_le (P := P) hn
  unfold Clr
  omega
theorem clr_low {p P n y : Nat} (hn : 0 < n) (hP : 0 < P) (h : Clr p n P y) : prt P n ≤ y := by
  rcases Nat.lt_or_ge y (prt P n) with hlt | hge
  · have h1 := prt_lt hn hP hlt
    have h2 := mit_low (p := p) (y := y) n P
    unfold Clr at h
    omega
  · exact hge
/-- The least payment. -/
def Lst (p n P y : Nat) : Prop := Clr p n P y ∧ ∀ z, Clr p n P z → y ≤ z
theorem lst_any {p n P : Nat} (hn : 0 < n) : ∃ y, Lst p n P y := by
  have hh := clr_high (p := p) (P := P) hn
  generalize prt P n + mi p P = b at hh
  revert hh
  induction b with
  | zero => intro hh; exact ⟨0, hh, fun z _ => Nat.zero_le z⟩
  | succ b ih =>
    intro hh
    by_cases hb : Clr p n P b
    · exact ih hb
    · refine ⟨b + 1, hh, fun z hz => ?_⟩
      rcases Nat.lt_or_ge b z with h | h
      · exact h
      · exact absurd (hz.mono (Nat.le_refl _) (Nat.le_refl _) h) hb
theorem Lst.high {p n P y : Nat} (hn : 0 < n) (h : Lst p n P y) : y ≤ prt P n + mi p P := h.2 _ (clr_high hn)
theorem Lst.low {p n P y : Nat} (hn : 0 < n) (hP : 0 < P) (h : Lst p n P y) : prt P n ≤ y := clr_low hn hP h.1
theorem Lst.iff {p n P y z : Nat} (h : Lst p n P y) : Clr p n P z ↔ y ≤ z := ⟨fun hz => h.2 z hz, fun hz => h.1.mono (Nat.le_refl _) (Nat.le_refl _) hz⟩
theorem Lst.gt {p n P y : Nat} (hP : 0 < P) (h : Lst p n P y) : mi p P < y := by
  rcases Nat.lt_or_ge (mi p P) y with hlt | hge
  · exact hlt
  · have := mit_stuck (p := p) (y := y) (Q := P) (by unfold mst; omega) n
    have h1 := h.1
    unfold Clr at h1
    omega
/-- What the code asks, month by month. -/
def clB (p y : Nat) : Nat → Nat → Bool
  | 0, _ => false
  | n + 1, Q => if Q ≤ mst p y Q then false else if mst p y Q = 0 then true else clB p y n (mst p y Q)
theorem clB_iff {p y : Nat} : ∀ (n Q : Nat), 0 < Q → (clB p y n Q = true ↔ Clr p n Q y)
  | 0, Q, h => by simp [clB, Clr, mit]; omega
  | n + 1, Q, h => by
    unfold clB
    by_cases h1 : Q ≤ mst p y Q
    · rw [if_pos h1]
      have := mit_stuck h1 (n + 1)
      unfold Clr
      simp; omega
    · rw [if_neg h1]
      by_cases h2 : mst p y Q = 0
      · rw [if_pos h2]
        unfold Clr
        rw [mit, h2, mit_zero]; simp
      · rw [if_neg h2, clB_iff n _ (by omega)]
        unfold Clr
        rw [mit]
/-- What the document's reckoning leaves. -/
def rlN (p y : Nat) : Nat → Nat → Nat
  | 0, Q => Q
  | n + 1, Q => if Q = 0 then 0 else if Q + mi p Q ≤ y then 0 else if Q ≤ mst p y Q then Q else rlN p y n (mst p y Q)
theorem rlN_iff {p y : Nat} : ∀ (n Q : Nat), (rlN p y n Q = 0 ↔ Clr p n Q y)
  | 0, Q => by simp [rlN, Clr, mit]
  | n + 1, Q => by
    unfold rlN
    by_cases h0 : Q = 0
    · subst h0
      rw [if_pos rfl]
      unfold Clr
      rw [mit_zero]
    · rw [if_neg h0]
      by_cases h1 : Q + mi p Q ≤ y
      · rw [if_pos h1]
        unfold Clr
        rw [mit, show mst p y Q = 0 by unfold mst; omega, mit_zero]
      · rw [if_neg h1]
        by_cases h2 : Q ≤ mst p y Q
        · rw [if_pos h2]
          have := mit_stuck h2 (n + 1)
          unfold Clr
          omega
        · rw [if_neg h2, rlN_iff n]
          unfold Clr
          rw [mit]

theorem mi_bd {p Q : Nat} (hQ : Q ≤ 1000000000000) (hp : p ≤ 1000000) : mi p Q ≤ 100000000000 := month_bd _ (pp_le hQ hp)
theorem mst_le {p y Q P : Nat} (h : mi p P ≤ y) (hQ : Q ≤ P) : mst p y Q ≤ Q := by
  have := mi_mono (p := p) hQ
  unfold mst
  omega
theorem mit_le {p y P : Nat} (h : mi p P ≤ y) : ∀ (n Q : Nat), Q ≤ P → mit p y n Q ≤ Q
  | 0, _, _ => Nat.le_refl _
  | n + 1, Q, hQ => by
    have h1 := mst_le h hQ
    have h2 := mit_le h n (mst p y Q) (by omega)
    rw [mit]
    omega
theorem mit_only (p P : Nat) : ∀ n, mit p (mi p P) n P = P
  | 0 => rfl
  | n + 1 => by rw [mit, show mst p (mi p P) P = P by unfold mst; omega, mit_only p P n]
end Go.Proofs.YtpnoecjpplaicaaGreatDoor
namespace Go.Proofs.YtpnoecjpplaicaaGreatDoor
open Go.RowKit

set_option maxRecDepth 20000 in
set_option maxHeartbeats 4000000 in
theorem Month_yes {P p b : Nat} (hP : P ≤ 1000000000000) (hr : rateB p b) (w : World) :
    Calls Tryz.prog 114 #[rv p b, .int .i64 (P : Int)] w (Ret (.tuple #[.int .i64 ((monthN (P * p) : Nat) : Int), .nilIface]) w) := by
  have hT := fun W => takes_yes hr (P := (P : Int)) (by omega) (by omega) W
  have hX := pp_le hP hr.1
  obtain ⟨X, hXe⟩ : ∃ X, P * p = X := ⟨_, rfl⟩
  have hDl := fun W => daily_any b hP hr.1 hXe W
  rw [hXe] at hX ⊢
  have hU := fun W => unitOf_any (b := 2) (Or.inr rfl) W
  rw [show unitN 2 = 360000000 from rfl] at hU
  have hb := month_bd X hX
  obtain ⟨m1, m2, m3⟩ := month_half X
  have hRo : ∀ W, Calls Tryz.prog 152 #[.int .u64 (X : Int), .int .u64 30, .int .u64 360000000] W (Ret (.tuple #[.int .u64 ((monthN X : Nat) : Int), .nilIface]) W) := by
    intro W
    by_cases hl : X % 12000000 < 6000000
    · have := Round_down X 30 360000000 (by omega) (by omega) (by omega) (by omega) (by omega) (m1.2 hl) W
      rw [m2 hl] at this
      exact this
    · have := Round_up X 30 360000000 (by omega) (by omega) (by omega) (by omega) (by omega) (fun h => hl (m1.1 h)) W
      rw [m3 hl] at this
      exact this
  obtain ⟨m, hm⟩ : ∃ m, monthN X = m := ⟨_, rfl⟩
  rw [hm] at hRo hb ⊢
  have i1 : IntKind.i64.wrap (m : Int) = (m : Int) := by rw [IntKind.wrap_i64]; omega
  unfold rv at hT hDl ⊢
  clear hP hr hX hXe hb m1 m2 m3 hm
  go_enter Tryz.func114, Tryz.ntmps114
  have HQ0 := Lib.hid (Blk.new w 25 #[.int .u32 (p : Int), .int .u8 (b : Int)])
  have HB0 := Lib.hid (b_alloc w (.cells #[.int .u32 (p : Int), .int .u8 (b : Int)] 25))
  go_wp2_with fail
  refine (hT _).mono ?_
  rintro e w1 ⟨rfl, hb1⟩
  have HQ1_0 := Lib.hid (HQ0.out.below hb1 HQ0.out.lt)
  have HB1 := Lib.hid (HB0.out.trans (hb1.mono HB0.out.size))
  clear hb1
  have c1_0_0 := HQ1_0.out.cell 0
  have c1_0_1 := HQ1_0.out.cell 1
  have z1_0 := HQ1_0.out.lt
  simp at c1_0_0 c1_0_1
  go_wp2_with fail
  refine (hDl _).mono ?_
  rintro e w2 ⟨rfl, hb2⟩
  have HQ2_0 := Lib.hid (HQ1_0.out.below hb2 HQ1_0.out.lt)
  have HB2 := Lib.hid (HB1.out.trans (hb2.mono HB1.out.size))
  clear hb2 c1_0_0 c1_0_1 z1_0
  have c2_0_0 := HQ2_0.out.cell 0
  have c2_0_1 := HQ2_0.out.cell 1
  have z2_0 := HQ2_0.out.lt
  simp at c2_0_0 c2_0_1
  go_wp2_with fail
  refine (hU _).mono ?_
  rintro e w3 ⟨rfl, hb3⟩
  have HQ3_0 := Lib.hid (HQ2_0.out.below hb3 HQ2_0.out.lt)
  have HB3 := Lib.hid (HB2.out.trans (hb3.mono HB2.out.size))
  clear hb3 c2_0_0 c2_0_1 z2_0
  have c3_0_0 := HQ3_0.out.cell 0
  have c3_0_1 := HQ3_0.out.cell 1
  have z3_0 := HQ3_0.out.lt
  simp at c3_0_0 c3_0_1
  go_wp2_with fail
  refine (hRo _).mono ?_
  rintro e w4 ⟨rfl, hb4⟩
  have HQ4_0 := Lib.hid (HQ3_0.out.below hb4 HQ3_0.out.lt)
  have HB4 := Lib.hid (HB3.out.trans (hb4.mono HB3.out.size))
  clear hb4 c3_0_0 c3_0_1 z3_0
  have c4_0_0 := HQ4_0.out.cell 0
  have c4_0_1 := HQ4_0.out.cell 1
  have z4_0 := HQ4_0.out.lt
  simp at c4_0_0 c4_0_1
  go_wp2_with fail
  go_ret2
  exact ⟨rfl, HB4.out⟩
set_option maxRecDepth 20000 in
set_option maxHeartbeats 4000000 in
theorem Month_no {p b : Nat} {P : Int} (h : ¬ (rateB p b ∧ 0 ≤ P ∧ P ≤ 1000000000000)) (w : World) :
    Calls Tryz.prog 114 #[rv p b, .int .i64 P] w (Ret (.tuple #[.int .i64 0, eno 1]) w) := by
  have hT := fun W => takes_no h W
  unfold eno
  unfold rv at hT ⊢
  clear h
  go_enter Tryz.func114, Tryz.ntmps114
  have HQ0 := Lib.hid (Blk.new w 25 #[.int .u32 (p : Int), .int .u8 (b : Int)])
  have HB0 := Lib.hid (b_alloc w (.cells #[.int .u32 (p : Int), .int .u8 (b : Int)] 25))
  go_wp2_with fail
  refine (hT _).mono ?_
  rintro e w1 ⟨rfl, hb1⟩
  have HQ1_0 := Lib.hid (HQ0.out.below hb1 HQ0.out.lt)
  have HB1 := Lib.hid (HB0.out.trans (hb1.mono HB0.out.size))
  clear hb1
  have c1_0_0 := HQ1_0.out.cell 0
  have c1_0_1 := HQ1_0.out.cell 1
  have z1_0 := HQ1_0.out.lt
  simp at c1_0_0 c1_0_1
  go_wp2_with fail
  go_ret2
  exact ⟨rfl, HB1.out⟩
end Go.Proofs.YtpnoecjpplaicaaGreatDoor
