/-
Are two terms the same? cell by cell. No condition.
-/
import Derived.Test.YtjcnglkjjhnpbaaGreatDoorMem
namespace Go.Proofs.YtjcnglkjjhnpbaaGreatDoor
open Go.RowKit

theorem infoRt : (Tryz.prog.info? 25).map (fun i => (i.zero, i.size)) = some (some (.agg #[.int .u32 0, .int .u8 0]), 2) := by kernel_rfl
theorem infoRt2 : ∃ i0, Tryz.prog.info? 25 = some i0 ∧ i0.size = 2 := by
  have h := infoRt
  cases e : Tryz.prog.info? 25 with
  | none => rw [e] at h; cases h
  | some i0 =>
    rw [e] at h
    simp only [Option.map_some, Option.some.injEq, Prod.mk.injEq] at h
    exact ⟨i0, rfl, h.2⟩
set_option maxRecDepth 20000 in
theorem eqRt (R B R' B' : Int) (W : World) : (Op.equalIn 9999 25 (.agg #[.int .u32 R, .int .u8 B]) (.agg #[.int .u32 R', .int .u8 B'])).run Tryz.prog W = .ok (decide (R = R' ∧ B = B')) W := by
  show (Op.equalIn (9997 + 1 + 1) 25 _ _).run _ _ = _
  rw [Op.equalIn]
  simp only [Sem.run_bind, run_underlying Tryz.underlying25, Result.andThen_ok]
  simp [sizeOf, typeInfo, go_sem]
  by_cases h0 : R = R' <;> by_cases h1 : B = B' <;> simp [h0, h1]
set_option maxRecDepth 20000 in
theorem eqT (K P R B M S F G K' P' R' B' M' S' F' G' : Int) (W : World) : (Op.equalIn 10000 28 (.agg #[.int .u8 K, .int .i64 P, .int .u32 R, .int .u8 B, .int .i64 M, .int .i32 S, .int .i64 F, .int .i64 G]) (.agg #[.int .u8 K', .int .i64 P', .int .u32 R', .int .u8 B', .int .i64 M', .int .i32 S', .int .i64 F', .int .i64 G'])).run Tryz.prog W = .ok (decide (K = K' ∧ P = P' ∧ R = R' ∧ B = B' ∧ M = M' ∧ S = S' ∧ F = F' ∧ G = G')) W := by
  obtain ⟨i0, hi, hz⟩ := infoRt2
  show (Op.equalIn (9997 + 1 + 1 + 1) 28 _ _).run _ _ = _
  rw [Op.equalIn]
  simp only [Sem.run_bind, run_underlying Tryz.underlying28, Result.andThen_ok]
  simp [sizeOf, typeInfo, go_sem, hi, hz, eqRt]
  by_cases h0 : K = K' <;> by_cases h1 : P = P' <;> by_cases h2 : R = R' <;> by_cases h3 : B = B' <;> by_cases h4 : M = M' <;> by_cases h5 : S = S' <;> by_cases h6 : F = F' <;> by_cases h7 : G = G' <;> simp [h0, h1, h2, h3, h4, h5, h6, h7]
end Go.Proofs.YtjcnglkjjhnpbaaGreatDoor
