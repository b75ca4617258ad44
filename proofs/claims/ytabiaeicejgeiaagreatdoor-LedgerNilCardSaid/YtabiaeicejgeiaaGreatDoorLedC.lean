/-
  The ledger's small calls: place, Len, New, sums.of, Balance, Control, fault. Conditions: the ledger is there.
-/
import Derived.Test.YtabiaeicejgeiaaGreatDoorLedB
import Derived.Lib.QuietBelow
import Derived.BigQuiet
import Derived.Deep.CutBlock
namespace Go.Proofs.YtabiaeicejgeiaaGreatDoor
open Go.ChangeShapes Go.WideShapes Go.ChangeAt Go.RowKit Go.Maps

theorem zeroM (w : World) : (zeroValue 93).run Tryz.prog w = .ok (.map none) w := by kernel_rfl
theorem zeroI (w : World) : (zeroValue 3).run Tryz.prog w = .ok (.int .i64 0) w := by kernel_rfl
theorem zeroS (w : World) : (zeroValue 85).run Tryz.prog w = .ok (.agg (vec (fun _ => 0))) w := by kernel_rfl
def placeV (o : Option Nat) : Value := match o with | some i => .tuple #[.int .i64 (i : Int), .bool true] | none => .tuple #[.int .i64 0, .bool false]
/-- What the two look-ups tell. -/
theorem Led.looks {w : World} {q : Nat} {D : Nat → Prop} {M : List Li} (h : Led w q D M) {y : Ky} (hy : y.In) : ∃ (lm : Option Nat) (r : Option Nat), w.cell? ⟨q, 1, none⟩ = some (.map lm) ∧
    (∀ w', Below w.heap.size w w' → (Instr.lookup 82 (.map lm) (.int .u32 (y.a : Int)) false).run Tryz.prog w' = .ok (.map r) w') ∧
    (∀ w', Below w.heap.size w w' → (Instr.lookup 93 (.map r) y.v true).run Tryz.prog w' = .ok (placeV (liveL M y)) w') := by
  obtain ⟨lv, V, lm, bm, inn, h1, h2, h3, h4, h5, h6, h7, h8, h9, h10, h11⟩ := h
  have c1 := h1.cell 1
  unfold ledC at c1
  simp at c1
  cases lm with
  | none =>
    have hn := h4.nil rfl y
    refine ⟨none, none, c1, fun w' _ => ?_, fun w' _ => ?_⟩
    · have := look_none (w := w') keyU32 Tryz.underlying82 (zeroM w') (x := y.a) hy.a false
      exact this
    · have := look_none (w := w') keyKy Tryz.underlying93 (zeroI w') hy true
      rw [hn]
      exact this
  | some b =>
    obtain ⟨hb1, hb2, hb3⟩ := h4.out b rfl
    cases hr : inn y.a with
    | none =>
      have hn := h4.no y hr
      refine ⟨some b, none, c1, fun w' hb => ?_, fun w' _ => ?_⟩
      · have := (hb2.below hb (h9 b hb1)).look keyU32 Tryz.underlying82 (zeroM w') (x := y.a) hy.a false
        rw [hr] at this
        exact this
      · have := look_none (w := w') keyKy Tryz.underlying93 (zeroI w') hy true
        rw [hn]
        exact this
    | some r =>
      obtain ⟨hr1, hr2⟩ := h4.at_ y.a r hr
      refine ⟨some b, some r, c1, fun w' hb => ?_, fun w' hb => ?_⟩
      · have := (hb2.below hb (h9 b hb1)).look keyU32 Tryz.underlying82 (zeroM w') (x := y.a) hy.a false
        rw [hr] at this
        exact this
      · have := (hr2.below hb (h9 r hr1)).look keyKy Tryz.underlying93 (zeroI w') hy true
        rw [if_pos (show y.a = y.a from rfl)] at this
        cases hl : liveL M y with
        | none =>
          rw [hl] at this
          exact this
        | some i =>
          rw [hl] at this
          exact this
set_option maxRecDepth 100000 in
set_option maxHeartbeats 2000000 in
theorem place_nil (y : Ky) (w : World) : Calls Tryz.prog 39 #[.pointer none, y.v] w (Ret (placeV none) w) := by
  unfold Ky.v
  go_enter Tryz.func39, Tryz.ntmps39
  go_wp2
  go_ret2
  exact ⟨rfl, b_alloc _ _⟩
set_option maxRecDepth 100000 in
set_option maxHeartbeats 4000000 in
theorem place_any (q : Nat) (D : Nat → Prop) (M : List Li) (y : Ky) (hy : y.In) (w : World) (h : Led w q D M) : Calls Tryz.prog 39 #[.pointer (some ⟨q, 0, none⟩), y.v] w (Ret (placeV (liveL M y)) w) := by
  obtain ⟨lm, r, c1, hl1, hl2⟩ := h.looks hy
  obtain ⟨o, ho⟩ : ∃ o, liveL M y = o := ⟨_, rfl⟩
  rw [ho] at hl2 ⊢
  have hB := b_alloc w (.cells #[.int .u32 (y.a : Int), .int .i32 y.d, .int .u8 (y.k : Int), .int .u32 (y.s : Int)] 33)
  have hQ := Blk.new w 33 #[.int .u32 (y.a : Int), .int .i32 y.d, .int .u8 (y.k : Int), .int .u32 (y.s : Int)]
  have d1 := (hB.cell (p := ⟨q, 1, none⟩) (h.lt q h.self)).trans c1
  obtain ⟨W, hW⟩ : ∃ W, w.alloc (.cells #[.int .u32 (y.a : Int), .int .i32 y.d, .int .u8 (y.k : Int), .int .u32 (y.s : Int)] 33) = W := ⟨_, rfl⟩
  have HW := Lib.hid hW
  rw [hW] at hB hQ d1
  have k1 : ∀ n, (Instr.lookup 82 (.map lm) (.int .u32 (y.a : Int)) false).run Tryz.prog (W.drewN n) = .ok (.map r) (W.drewN n) := fun n => hl1 _ (below_drewN hB n)
  have k2 : ∀ n, (Instr.lookup 93 (.map r) (.agg #[.int .u32 (y.a : Int), .int .i32 y.d, .int .u8 (y.k : Int), .int .u32 (y.s : Int)]) true).run Tryz.prog (W.drewN n) = .ok (placeV o) (W.drewN n) := fun n => hl2 _ (below_drewN hB n)
  have HB := Lib.hid hB
  clear hl1 hl2 hB c1 h hW ho
  have n0 := hQ.cell 0
  have n1 := hQ.cell 1
  have n2 := hQ.cell 2
  have n3 := hQ.cell 3
  clear hQ
  simp at n0 n1 n2 n3
  unfold Ky.v
  go_enter Tryz.func39, Tryz.ntmps39
  go_upto_region 3 with (fail)
  rw [HW.out]
  cases o with
  | none =>
    unfold placeV at k2
    simp only at k2
    go_quiet (fail)
    go_wp2
    go_ret2
    exact ⟨rfl, below_drewN HB.out _⟩
  | some i =>
    unfold placeV at k2
    simp only at k2
    go_quiet (fail)
    go_wp2
    go_ret2
    exact ⟨rfl, below_drewN HB.out _⟩
set_option maxRecDepth 100000 in
set_option maxHeartbeats 1000000 in
theorem Len_nil (w : World) : Calls Tryz.prog 11 #[.pointer none] w (Ret (.int .i64 0) w) := by
  go_enter Tryz.func11, Tryz.ntmps11
  go_wp2
  go_ret
  exact ⟨rfl, Below.refl _ _⟩
theorem LedL.lines {w : World} {q : Nat} {D : Nat → Prop} {M : List Li} {L : Ky → Option Nat} (h : LedL w q D M L) : ∃ A c, w.cell? ⟨q, 0, none⟩ = some (.slice A M.length c) ∧ M.length ≤ c := by
  obtain ⟨lv, V, lm, bm, inn, h1, h2, h3, h4, h5, h6, h7, h8, h9, h10, h11⟩ := h
  have c0 := h1.cell 0
  unfold ledC at c0
  simp at c0
  obtain ⟨_, A, c, rfl, hc, _⟩ := h2.form (by decide)
  exact ⟨A, c, c0, hc⟩
set_option maxRecDepth 100000 in
set_option maxHeartbeats 1000000 in
theorem Len_any (q : Nat) (D : Nat → Prop) (M : List Li) (w : World) (h : Led w q D M) : Calls Tryz.prog 11 #[.pointer (some ⟨q, 0, none⟩)] w (Ret (.int .i64 (M.length : Int)) w) := by
  obtain ⟨A, c, c0, _⟩ := h.lines
  go_enter Tryz.func11, Tryz.ntmps11
  go_wp2
  go_ret
  exact ⟨rfl, Below.refl _ _⟩
def NewPost (w : World) (e : Ending) (w' : World) : Prop := e = .returned (.pointer (some ⟨w.heap.size, 0, none⟩)) ∧ Led w' w.heap.size (fun i => i = w.heap.size) [] ∧ Below w.heap.size w w'
set_option maxRecDepth 100000 in
set_option maxHeartbeats 1000000 in
theorem New_any (w : World) : Calls Tryz.prog 8 #[] w (NewPost w) := by
  go_enter Tryz.func8, Tryz.ntmps8
  go_wp2
  go_ret
  exact ⟨rfl, Led.new (Blk.new w _ _), b_alloc _ _⟩
/-- sums.of. -/
def ofV (f : Nat → Int) (c : Nat) : Int := if c < 10 then f c else 0
set_option maxRecDepth 100000 in
set_option maxHeartbeats 2000000 in
theorem of_any (f : Nat → Int) (c : Nat) (hc : c < 256) (w : World) : Calls Tryz.prog 49 #[.agg (vec f), .int .u8 (c : Int)] w (Ret (.int .i64 (ofV f c)) w) := by
  unfold vec
  by_cases h : c < 10
  · have hv : ofV f c = f c := by unfold ofV; rw [if_pos h]
    rw [hv]
    have hQ := Blk.new w 85 #[.int .i64 (f 0), .int .i64 (f 1), .int .i64 (f 2), .int .i64 (f 3), .int .i64 (f 4), .int .i64 (f 5), .int .i64 (f 6), .int .i64 (f 7), .int .i64 (f 8), .int .i64 (f 9)]
    have hq := hQ.cell c
    have hq2 : (#[Value.int .i64 (f 0), .int .i64 (f 1), .int .i64 (f 2), .int .i64 (f 3), .int .i64 (f 4), .int .i64 (f 5), .int .i64 (f 6), .int .i64 (f 7), .int .i64 (f 8), .int .i64 (f 9)] : Array Value)[c]? = some (.int .i64 (f c)) := by
      match c, h with
      | 0, _ | 1, _ | 2, _ | 3, _ | 4, _ | 5, _ | 6, _ | 7, _ | 8, _ | 9, _ => rfl
    rw [hq2] at hq
    have hB := Lib.hid (b_alloc w (.cells #[.int .i64 (f 0), .int .i64 (f 1), .int .i64 (f 2), .int .i64 (f 3), .int .i64 (f 4), .int .i64 (f 5), .int .i64 (f 6), .int .i64 (f 7), .int .i64 (f 8), .int .i64 (f 9)] 85))
    clear hQ hq2 hv
    go_enter Tryz.func49, Tryz.ntmps49
    go_upto_region 1 with (fail)
    obtain ⟨W, hW⟩ : ∃ W, w.alloc (.cells #[.int .i64 (f 0), .int .i64 (f 1), .int .i64 (f 2), .int .i64 (f 3), .int .i64 (f 4), .int .i64 (f 5), .int .i64 (f 6), .int .i64 (f 7), .int .i64 (f 8), .int .i64 (f 9)] 85) = W := ⟨_, rfl⟩
    rw [hW] at hq hB ⊢
    clear hW
    go_wp2
    go_ret
    exact ⟨rfl, hB.out⟩
  · have hv : ofV f c = 0 := by unfold ofV; rw [if_neg h]
    rw [hv]
    clear hv
    go_enter Tryz.func49, Tryz.ntmps49
    go_wp2
    go_ret
    exact ⟨rfl, b_alloc _ _⟩
end Go.Proofs.YtabiaeicejgeiaaGreatDoor
