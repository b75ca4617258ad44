/-
  arrearslaw03.same: a Wide that holds n is the document's n. Condition: n is of 128 bits.
-/
import Derived.Test.YtkgadbnfaoijaabDoorRefO
import Derived.Test.YtkgadbnfaoijaabDoorWideA
import Derived.Lib.QuietBelow
import Derived.BigQuiet
namespace Go.Proofs.YtkgadbnfaoijaabDoor
open Go.RowKit Go.BigFrame

theorem quiet_word (w0 : World) (y0 y1 y2 y3 y4 y5 y6 y7 r : Nat) (b : Bool)
    (h : ∀ W, Calls Tryd.prog 38 #[.agg #[.int .u32 (y0 : Int), .int .u32 (y1 : Int), .int .u32 (y2 : Int), .int .u32 (y3 : Int), .int .u32 (y4 : Int), .int .u32 (y5 : Int), .int .u32 (y6 : Int), .int .u32 (y7 : Int)], .bool b] W fun e w' => e = .returned (.int .u64 (r : Int)) ∧ Below W.heap.size W w') (d : Nat) (os : Array Obj) :
    Calls Tryd.prog 38 #[.agg #[.int .u32 (y0 : Int), .int .u32 (y1 : Int), .int .u32 (y2 : Int), .int .u32 (y3 : Int), .int .u32 (y4 : Int), .int .u32 (y5 : Int), .int .u32 (y6 : Int), .int .u32 (y7 : Int)], .bool b] (Go.Sort.grow (redrawn w0 d) os) fun e w'' => e = .returned (.int .u64 (r : Int)) ∧ ∃ p : Regrown, w'' = Go.Sort.grow (redrawn w0 p.d) p.os :=
  (h _).mono fun _ _ hp => ⟨hp.1, regrown_of_below ((below_regrown w0 d os).trans (hp.2.mono (below_regrown w0 d os).size))⟩

set_option maxHeartbeats 4000000 in
set_option maxRecDepth 20000 in
theorem same_any (n : Nat) (h : n < 340282366920938463463374607431768211456) (w : World) :
    Calls Tryd.prog 16 #[wof n, bgv (digs 8 n)] w (Ret (.bool true) w) := by
  have hT := fun W => Word_any n h true W
  have hF := fun W => Word_any n h false W
  obtain ⟨y0, y1, y2, y3, y4, y5, y6, y7, ey⟩ := eight (digs 8 n) (digs_length 8 n)
  rw [ey] at hT hF ⊢
  simp only [if_true, Bool.false_eq_true, if_false] at hT hF
  unfold wof wv
  obtain ⟨nh, e1⟩ : ∃ nh, n / 18446744073709551616 = nh := ⟨_, rfl⟩
  obtain ⟨nl, e2⟩ : ∃ nl, n % 18446744073709551616 = nl := ⟨_, rfl⟩
  rw [e1] at hT
  rw [e2] at hF
  rw [e1, e2]
  simp only [bgv, List.map_cons, List.map_nil] at hT hF ⊢
  clear e1 e2 ey h
  go_enter Tryd.func16, Tryd.ntmps16
  go_wp2_with fail
  obtain ⟨w0, hw0⟩ : ∃ W, (w.alloc (.cells #[.int .u64 (nh : Int), .int .u64 (nl : Int)] 25)).alloc (.cells #[.int .u32 (y0 : Int), .int .u32 (y1 : Int), .int .u32 (y2 : Int), .int .u32 (y3 : Int), .int .u32 (y4 : Int), .int .u32 (y5 : Int), .int .u32 (y6 : Int), .int .u32 (y7 : Int)] 28) = W := ⟨_, rfl⟩
  have hbw : Below w.heap.size w w0 := by rw [← hw0]; exact ((Below.refl _ _).alloc (Nat.le_refl _) _).alloc (by simp) _
  have HT := quiet_word w0 y0 y1 y2 y3 y4 y5 y6 y7 nh true hT
  have HF := quiet_word w0 y0 y1 y2 y3 y4 y5 y6 y7 nl false hF
  have HKa : Blk w0 w.heap.size 25 #[.int .u64 (nh : Int), .int .u64 (nl : Int)] := by rw [← hw0]; exact (Blk.new w _ _).alloc _
  have HKb : Blk w0 (w.heap.size + 1) 28 #[.int .u32 (y0 : Int), .int .u32 (y1 : Int), .int .u32 (y2 : Int), .int .u32 (y3 : Int), .int .u32 (y4 : Int), .int .u32 (y5 : Int), .int .u32 (y6 : Int), .int .u32 (y7 : Int)] := by
    have h := Blk.new (w.alloc (.cells #[.int .u64 (nh : Int), .int .u64 (nl : Int)] 25)) 28 #[.int .u32 (y0 : Int), .int .u32 (y1 : Int), .int .u32 (y2 : Int), .int .u32 (y3 : Int), .int .u32 (y4 : Int), .int .u32 (y5 : Int), .int .u32 (y6 : Int), .int .u32 (y7 : Int)]
    rw [World.size_alloc, hw0] at h
    exact h
  rw [hw0]
  have hA := fun (d : Nat) (os : Array Obj) => HKa.below (below_regrown w0 d os) HKa.lt
  have hB := fun (d : Nat) (os : Array Obj) => HKb.below (below_regrown w0 d os) HKb.lt
  have a0 : ∀ d os, (Go.Sort.grow (redrawn w0 d) os).cell? ⟨w.heap.size, 0, none⟩ = some (.int .u64 (nh : Int)) := fun d os => (hA d os).cell 0
  have a1 : ∀ d os, (Go.Sort.grow (redrawn w0 d) os).cell? ⟨w.heap.size, 1, none⟩ = some (.int .u64 (nl : Int)) := fun d os => (hA d os).cell 1
  have b0 : ∀ d os, (Go.Sort.grow (redrawn w0 d) os).cell? ⟨w.heap.size + 1, 0, none⟩ = some (.int .u32 (y0 : Int)) := fun d os => (hB d os).cell 0
  have b1 : ∀ d os, (Go.Sort.grow (redrawn w0 d) os).cell? ⟨w.heap.size + 1, 1, none⟩ = some (.int .u32 (y1 : Int)) := fun d os => (hB d os).cell 1
  have b2 : ∀ d os, (Go.Sort.grow (redrawn w0 d) os).cell? ⟨w.heap.size + 1, 2, none⟩ = some (.int .u32 (y2 : Int)) := fun d os => (hB d os).cell 2
  have b3 : ∀ d os, (Go.Sort.grow (redrawn w0 d) os).cell? ⟨w.heap.size + 1, 3, none⟩ = some (.int .u32 (y3 : Int)) := fun d os => (hB d os).cell 3
  have b4 : ∀ d os, (Go.Sort.grow (redrawn w0 d) os).cell? ⟨w.heap.size + 1, 4, none⟩ = some (.int .u32 (y4 : Int)) := fun d os => (hB d os).cell 4
  have b5 : ∀ d os, (Go.Sort.grow (redrawn w0 d) os).cell? ⟨w.heap.size + 1, 5, none⟩ = some (.int .u32 (y5 : Int)) := fun d os => (hB d os).cell 5
  have b6 : ∀ d os, (Go.Sort.grow (redrawn w0 d) os).cell? ⟨w.heap.size + 1, 6, none⟩ = some (.int .u32 (y6 : Int)) := fun d os => (hB d os).cell 6
  have b7 : ∀ d os, (Go.Sort.grow (redrawn w0 d) os).cell? ⟨w.heap.size + 1, 7, none⟩ = some (.int .u32 (y7 : Int)) := fun d os => (hB d os).cell 7
  clear hA hB HKa HKb hw0 hT hF
  refine wp_region_quiet_below (by kernel_rfl) (by kernel_rfl) ?_
  iterate 4
    go_big_quiet_step (exact HT _ _)
  iterate 9
    go_big_quiet_step (exact HF _ _)
  refine wpQuiet_nil ?_
  intro w9 hw'
  have hbx : Below w0.heap.size w0 w9 := by
    obtain ⟨p, rfl⟩ := hw'
    exact below_regrown _ _ _
  clear hw' HT HF a0 a1 b0 b1 b2 b3 b4 b5 b6 b7
  go_wp2_with fail
  go_ret
  exact ⟨rfl, hbw.trans (hbx.mono hbw.size)⟩
end Go.Proofs.YtkgadbnfaoijaabDoor
