/-
Are two terms the same? cell by cell. No condition.
What may be asked: orders as they lie; which are right. No condition but the numbers' kinds.
-/
import Derived.Test.YtjlajnackecfgaaGreatDoorMemW9
import Derived.Test.YtjlajnackecfgaaGreatDoorTrmAW9
import Derived.Test.YtjlajnackecfgaaGreatDoorDateAW9
namespace Go.Proofs.YtjlajnackecfgaaGreatDoor
open Go.RowKit

theorem infoRt : (Tryz.prog.info? 25).map (fun i => (i.zero, i.size)) = some (some (.agg #[.int .u32 0, .int .u8 0]), 2) := by kernel_rfl
theorem infoRt2 : ∃ i0, Tryz.prog.info? 25 = some i0 ∧ i0.size = 2 := by
  have h := infoRt
  cases e : Tryz.prog.info? 25 with
  | none => rw [e] at h; cases h
  | some i0 =>
    rw [e] at h
    simp only [Option.map_some, Option.some.injEq, Prod.mk.injEq] at h
    exact ⟨i0, rfl, h.2⟩
set_option maxRecDepth 20000 in
theorem eqRt (R B R' B' : Int) (W : World) : (Op.equalIn 9999 25 (.agg #[.int .u32 R, .int .u8 B]) (.agg #[.int .u32 R', .int .u8 B'])).run Tryz.prog W = .ok (decide (R = R' ∧ B = B')) W := by
  show (Op.equalIn (9997 + 1 + 1) 25 _ _).run _ _ = _
  rw [Op.equalIn]
  simp only [Sem.run_bind, run_underlying Tryz.underlying25, Result.andThen_ok]
  simp [sizeOf, typeInfo, go_sem]
  by_cases h0 : R = R' <;> by_cases h1 : B = B' <;> simp [h0, h1]
set_option maxRecDepth 20000 in
theorem eqT (K P R B M S F G K' P' R' B' M' S' F' G' : Int) (W : World) : (Op.equalIn 10000 28 (.agg #[.int .u8 K, .int .i64 P, .int .u32 R, .int .u8 B, .int .i64 M, .int .i32 S, .int .i64 F, .int .i64 G]) (.agg #[.int .u8 K', .int .i64 P', .int .u32 R', .int .u8 B', .int .i64 M', .int .i32 S', .int .i64 F', .int .i64 G'])).run Tryz.prog W = .ok (decide (K = K' ∧ P = P' ∧ R = R' ∧ B = B' ∧ M = M' ∧ S = S' ∧ F = F' ∧ G = G')) W := by
  obtain ⟨i0, hi, hz⟩ := infoRt2
  show (Op.equalIn (9997 + 1 + 1 + 1) 28 _ _).run _ _ = _
  rw [Op.equalIn]
  simp only [Sem.run_bind, run_underlying Tryz.underlying28, Result.andThen_ok]
  simp [sizeOf, typeInfo, go_sem, hi, hz, eqRt]
  by_cases h0 : K = K' <;> by_cases h1 : P = P' <;> by_cases h2 : R = R' <;> by_cases h3 : B = B' <;> by_cases h4 : M = M' <;> by_cases h5 : S = S' <;> by_cases h6 : F = F' <;> by_cases h7 : G = G' <;> simp [h0, h1, h2, h3, h4, h5, h6, h7]
end Go.Proofs.YtjlajnackecfgaaGreatDoor
namespace Go.Proofs.YtjlajnackecfgaaGreatDoor
open Go.RowKit
/-- An event as it lies. -/
structure Evt where
  s : Nat
  d : Int
  k : Nat
  m : Int
def Evt.v (e : Evt) : Value := .agg #[.int .u32 (e.s : Int), .int .i32 e.d, .int .u8 (e.k : Int), .int .i64 e.m]
def Evt.r (e : Evt) : Value := .agg #[.int .u32 (e.s : Int), .int .i64 e.d, .int .u8 (e.k : Int), .int .i64 e.m]
structure Evt.In (e : Evt) : Prop where
  s : e.s < 4294967296
  d : -2147483648 ≤ e.d ∧ e.d ≤ 2147483647
  k : e.k < 256
  m : -9223372036854775808 ≤ e.m ∧ e.m ≤ 9223372036854775807
/-- An event that may be. -/
structure Evt.Right (e : Evt) : Prop where
  d : 0 ≤ e.d ∧ e.d ≤ 3652058
  k : (4 ≤ e.k ∧ e.k ≤ 6 ∧ 1 ≤ e.m ∧ e.m ≤ 1000000000000) ∨ (e.k = 7 ∧ e.m = 0)
/-- An order as it lies. -/
structure Ord where
  k : Nat
  a : Nat
  t : Trm
  e : Evt
def Ord.cs (o : Ord) : Array Value := #[.int .u8 (o.k : Int), .int .u32 (o.a : Int), .int .u8 (o.t.K : Int), .int .i64 o.t.P, .int .u32 (o.t.R : Int), .int .u8 (o.t.B : Int), .int .i64 o.t.M, .int .i32 o.t.S, .int .i64 o.t.F, .int .i64 o.t.G, .int .u32 (o.e.s : Int), .int .i32 o.e.d, .int .u8 (o.e.k : Int), .int .i64 o.e.m]
def Ord.v (o : Ord) : Value := .agg o.cs
def Ord.r (o : Ord) : Value := .agg #[.int .u8 (o.k : Int), .int .u32 (o.a : Int), .int .u8 (o.t.K : Int), .int .i64 o.t.P, .int .u32 (o.t.R : Int), .int .u8 (o.t.B : Int), .int .i64 o.t.M, .int .i64 o.t.S, .int .i64 o.t.F, .int .i64 o.t.G, .int .u32 (o.e.s : Int), .int .i64 o.e.d, .int .u8 (o.e.k : Int), .int .i64 o.e.m]
structure Ord.In (o : Ord) : Prop where
  k : o.k < 256
  a : o.a < 4294967296
  t : o.t.In
  e : o.e.In
def Trm.zero : Trm := ⟨0, 0, 0, 0, 0, 0, 0, 0⟩
def Evt.zero : Evt := ⟨0, 0, 0, 0⟩
/-- What its kind names alone. -/
def Ord.named (o : Ord) : Ord :=
  if o.k = 1 then ⟨1, o.a, o.t, Evt.zero⟩ else if o.k = 2 then ⟨2, o.a, Trm.zero, o.e⟩ else if o.k = 3 then ⟨3, o.a, Trm.zero, ⟨o.e.s, 0, 0, 0⟩⟩ else ⟨o.k, 0, Trm.zero, Evt.zero⟩
/-- An order that may be. -/
def Ord.Right (o : Ord) : Prop := o = o.named ∧ (o.k = 1 → o.t.Right) ∧ (o.k = 2 → o.e.Right) ∧ 1 ≤ o.k ∧ o.k ≤ 4
theorem trm_ext2 {t u : Trm} : t = u ↔ (t.K : Int) = u.K ∧ t.P = u.P ∧ (t.R : Int) = u.R ∧ (t.B : Int) = u.B ∧ t.M = u.M ∧ t.S = u.S ∧ t.F = u.F ∧ t.G = u.G := by
  constructor
  · rintro rfl; exact ⟨rfl, rfl, rfl, rfl, rfl, rfl, rfl, rfl⟩
  · obtain ⟨K, P, R, B, M, S, F, G⟩ := t
    obtain ⟨K', P', R', B', M', S', F', G'⟩ := u
    rintro ⟨h0, h1, h2, h3, h4, h5, h6, h7⟩
    dsimp only at h0 h1 h2 h3 h4 h5 h6 h7
    obtain rfl : K = K' := by omega
    obtain rfl : R = R' := by omega
    obtain rfl : B = B' := by omega
    subst h1 h4 h5 h6 h7
    rfl
theorem evt_ext {t u : Evt} : t = u ↔ (t.s : Int) = u.s ∧ t.d = u.d ∧ (t.k : Int) = u.k ∧ t.m = u.m := by
  constructor
  · rintro rfl; exact ⟨rfl, rfl, rfl, rfl⟩
  · obtain ⟨s, d, k, m⟩ := t
    obtain ⟨s', d', k', m'⟩ := u
    rintro ⟨h0, h1, h2, h3⟩
    dsimp only at h0 h1 h2 h3
    obtain rfl : s = s' := by omega
    obtain rfl : k = k' := by omega
    subst h1 h3
    rfl
theorem ord_ext {o p : Ord} : o = p ↔ (o.k : Int) = p.k ∧ (o.a : Int) = p.a ∧ o.t = p.t ∧ o.e = p.e := by
  constructor
  · rintro rfl; exact ⟨rfl, rfl, rfl, rfl⟩
  · obtain ⟨k, a, t, e⟩ := o
    obtain ⟨k', a', t', e'⟩ := p
    rintro ⟨h0, h1, h2, h3⟩
    dsimp only at h0 h1 h2 h3
    obtain rfl : k = k' := by omega
    obtain rfl : a = a' := by omega
    subst h2 h3
    rfl
theorem infoTm : (Tryz.prog.info? 28).map (fun i => i.size) = some 8 := by kernel_rfl
theorem infoTm2 : ∃ i0, Tryz.prog.info? 28 = some i0 ∧ i0.size = 8 := by
  have h := infoTm
  cases e : Tryz.prog.info? 28 with
  | none => rw [e] at h; cases h
  | some i0 =>
    rw [e] at h
    simp only [Option.map_some, Option.some.injEq] at h
    exact ⟨i0, rfl, h⟩
theorem infoEv : (Tryz.prog.info? 30).map (fun i => i.size) = some 4 := by kernel_rfl
theorem infoEv2 : ∃ i0, Tryz.prog.info? 30 = some i0 ∧ i0.size = 4 := by
  have h := infoEv
  cases e : Tryz.prog.info? 30 with
  | none => rw [e] at h; cases h
  | some i0 =>
    rw [e] at h
    simp only [Option.map_some, Option.some.injEq] at h
    exact ⟨i0, rfl, h⟩
set_option maxRecDepth 20000 in
theorem eqRtN (n : Nat) (R B R' B' : Int) (W : World) : (Op.equalIn (n + 1 + 1) 25 (.agg #[.int .u32 R, .int .u8 B]) (.agg #[.int .u32 R', .int .u8 B'])).run Tryz.prog W = .ok (decide (R = R' ∧ B = B')) W := by
  rw [Op.equalIn]
  simp only [Sem.run_bind, run_underlying Tryz.underlying25, Result.andThen_ok]
  simp [sizeOf, typeInfo, go_sem]
  by_cases h0 : R = R' <;> by_cases h1 : B = B' <;> simp [h0, h1]
set_option maxRecDepth 20000 in
theorem eqTN (n : Nat) (K P R B M S F G K' P' R' B' M' S' F' G' : Int) (W : World) : (Op.equalIn (n + 1 + 1 + 1) 28 (.agg #[.int .u8 K, .int .i64 P, .int .u32 R, .int .u8 B, .int .i64 M, .int .i32 S, .int .i64 F, .int .i64 G]) (.agg #[.int .u8 K', .int .i64 P', .int .u32 R', .int .u8 B', .int .i64 M', .int .i32 S', .int .i64 F', .int .i64 G'])).run Tryz.prog W =
    .ok (decide (K = K' ∧ P = P' ∧ R = R' ∧ B = B' ∧ M = M' ∧ S = S' ∧ F = F' ∧ G = G')) W := by
  obtain ⟨i0, hi, hz⟩ := infoRt2
  rw [Op.equalIn]
  simp only [Sem.run_bind, run_underlying Tryz.underlying28, Result.andThen_ok]
  simp [sizeOf, typeInfo, go_sem, hi, hz, eqRtN]
  by_cases h0 : K = K' <;> by_cases h1 : P = P' <;> by_cases h2 : R = R' <;> by_cases h3 : B = B' <;> by_cases h4 : M = M' <;> by_cases h5 : S = S' <;> by_cases h6 : F = F' <;> by_cases h7 : G = G' <;> simp [h0, h1, h2, h3, h4, h5, h6, h7]
set_option maxRecDepth 20000 in
theorem eqEvN (n : Nat) (s d k m s' d' k' m' : Int) (W : World) : (Op.equalIn (n + 1 + 1) 30 (.agg #[.int .u32 s, .int .i32 d, .int .u8 k, .int .i64 m]) (.agg #[.int .u32 s', .int .i32 d', .int .u8 k', .int .i64 m'])).run Tryz.prog W = .ok (decide (s = s' ∧ d = d' ∧ k = k' ∧ m = m')) W := by
  rw [Op.equalIn]
  simp only [Sem.run_bind, run_underlying Tryz.underlying30, Result.andThen_ok]
  simp [sizeOf, typeInfo, go_sem]
  by_cases h0 : s = s' <;> by_cases h1 : d = d' <;> by_cases h2 : k = k' <;> by_cases h3 : m = m' <;> simp [h0, h1, h2, h3]
set_option maxRecDepth 20000 in
theorem eqO (o p : Ord) (W : World) [Decidable (o = p)] : (Op.equalIn 10000 32 o.v p.v).run Tryz.prog W = .ok (decide (o = p)) W := by
  obtain ⟨i0, hi, hz⟩ := infoTm2
  obtain ⟨i1, hj, hy⟩ := infoEv2
  obtain ⟨k, a, ⟨K, P, R, B, M, S, F, G⟩, s, d, ek, m⟩ := o
  obtain ⟨k', a', ⟨K', P', R', B', M', S', F', G'⟩, s', d', ek', m'⟩ := p
  have hT := fun W => eqTN 9996 K P R B M S F G K' P' R' B' M' S' F' G' W
  have hE := fun W => eqEvN 9997 s d ek m s' d' ek' m' W
  obtain ⟨b1, hb1⟩ : ∃ b : Bool, decide ((K : Int) = K' ∧ P = P' ∧ (R : Int) = R' ∧ (B : Int) = B' ∧ M = M' ∧ S = S' ∧ F = F' ∧ G = G') = b := ⟨_, rfl⟩
  obtain ⟨b2, hb2⟩ : ∃ b : Bool, decide ((s : Int) = s' ∧ d = d' ∧ (ek : Int) = ek' ∧ m = m') = b := ⟨_, rfl⟩
  have hd : decide ((⟨k, a, ⟨K, P, R, B, M, S, F, G⟩, ⟨s, d, ek, m⟩⟩ : Ord) = ⟨k', a', ⟨K', P', R', B', M', S', F', G'⟩, ⟨s', d', ek', m'⟩⟩) = (decide ((k : Int) = k') && (decide ((a : Int) = a') && (b1 && b2))) := by
    rw [← hb1, ← hb2, ← Bool.decide_and, ← Bool.decide_and, ← Bool.decide_and]
    exact decide_eq_decide.2 (by rw [ord_ext, trm_ext2, evt_ext])
  rw [hd]
  simp only [hb1] at hT
  simp only [hb2] at hE
  clear hd hb1 hb2
  unfold Ord.v Ord.cs
  dsimp only
  show (Op.equalIn (9996 + 1 + 1 + 1 + 1) 32 _ _).run _ _ = _
  rw [Op.equalIn]
  simp only [Sem.run_bind, run_underlying Tryz.underlying32, Result.andThen_ok]
  simp [sizeOf, typeInfo, go_sem, hi, hz, hj, hy, hT, hE]
  by_cases h0 : (k : Int) = (k' : Int) <;> by_cases h1 : (a : Int) = (a' : Int) <;> cases b1 <;> cases b2 <;> simp [h0, h1]
end Go.Proofs.YtjlajnackecfgaaGreatDoor
