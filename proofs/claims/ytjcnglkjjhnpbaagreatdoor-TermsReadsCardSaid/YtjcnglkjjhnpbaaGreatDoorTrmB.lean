/-
own: terms as the document has them. No condition but the numbers' kinds.
-/
import Derived.Test.YtjcnglkjjhnpbaaGreatDoorTrmA
namespace Go.Proofs.YtjcnglkjjhnpbaaGreatDoor
open Go.RowKit

theorem blk8 {w : World} {q : Nat} {ty : TypeId} {a0 a1 a2 a3 a4 a5 a6 a7 : Value} (h : Blk w q ty #[a0, a1, a2, a3, a4, a5, a6, a7]) : w.cell? ⟨q, 0, none⟩ = some a0 ∧ w.cell? ⟨q, 1, none⟩ = some a1 ∧ w.cell? ⟨q, 2, none⟩ = some a2 ∧ w.cell? ⟨q, 3, none⟩ = some a3 ∧ w.cell? ⟨q, 4, none⟩ = some a4 ∧ w.cell? ⟨q, 5, none⟩ = some a5 ∧ w.cell? ⟨q, 6, none⟩ = some a6 ∧ w.cell? ⟨q, 7, none⟩ = some a7 := by
  have c0 := h.cell 0
  have c1 := h.cell 1
  have c2 := h.cell 2
  have c3 := h.cell 3
  have c4 := h.cell 4
  have c5 := h.cell 5
  have c6 := h.cell 6
  have c7 := h.cell 7
  simp at c0 c1 c2 c3 c4 c5 c6 c7
  exact ⟨c0, c1, c2, c3, c4, c5, c6, c7⟩
set_option maxRecDepth 20000 in
set_option maxHeartbeats 4000000 in
theorem own16_any {t : Trm} (hi : t.In) (w : World) : Calls Tryz.prog 9 #[t.v] w (Ret t.r w) := by
  obtain ⟨K, P, R, B, M, S, F, G⟩ := t
  have hs1 : -9223372036854775808 ≤ S := by have := hi.S; dsimp only at this; omega
  have hs2 : S ≤ 9223372036854775807 := by have := hi.S; dsimp only at this; omega
  unfold Trm.v Trm.r
  clear hi
  dsimp only at hs1 hs2 ⊢
  have HK := Blk.new (w.alloc (.cells #[.int .u8 (K : Int), .int .i64 P, .int .u32 (R : Int), .int .u8 (B : Int), .int .i64 M, .int .i32 S, .int .i64 F, .int .i64 G] 28)) 33 #[.int .u8 (K : Int), .int .i64 P, .int .u32 (R : Int), .int .u8 (B : Int), .int .i64 M, .int .i64 S, .int .i64 F, .int .i64 G]
  obtain ⟨s0, s1, s2, s3, s4, s5, s6, s7⟩ := blk8 HK
  simp at s0 s1 s2 s3 s4 s5 s6 s7
  clear HK
  go_enter Tryz.func9, Tryz.ntmps9
  go_wp2_with fail
  exact bodyPost_ret (v := .agg #[.int .u8 (K : Int), .int .i64 P, .int .u32 (R : Int), .int .u8 (B : Int), .int .i64 M, .int .i64 S, .int .i64 F, .int .i64 G]) (by simp [results, Tryz.results9, go_sem, Result.andThen]) rfl ⟨rfl, (b_alloc w _).alloc (by simp) _⟩
end Go.Proofs.YtjcnglkjjhnpbaaGreatDoor
