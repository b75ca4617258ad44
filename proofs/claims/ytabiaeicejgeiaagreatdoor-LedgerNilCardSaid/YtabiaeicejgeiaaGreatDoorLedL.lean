/-
  Ledger.Line, Live, Balance, Control. Conditions: the ledger is there.
-/
import Derived.Test.YtabiaeicejgeiaaGreatDoorLedJ
import Derived.Test.YtabiaeicejgeiaaGreatDoorLedI
namespace Go.Proofs.YtabiaeicejgeiaaGreatDoor
open Go.ChangeShapes Go.WideShapes Go.ChangeAt Go.RowKit Go.Maps

/-- Line i, cell by cell. -/
theorem LedL.line {w : World} {q : Nat} {D : Nat → Prop} {M : List Li} {L : Ky → Option Nat} (h : LedL w q D M L) {i : Nat} {x : Li} (hx : M[i]? = some x) : ∃ g o c A n k, w.cell? ⟨q, 0, none⟩ = some (.slice (some ⟨g, o, none⟩) M.length c) ∧ M.length ≤ c ∧ n = x.l.length ∧ Rs legT w w.heap.size A x.l ∧
    w.cell? ⟨g, o + i * 6, none⟩ = some (.int .u32 (x.y.a : Int)) ∧ w.cell? ⟨g, o + i * 6 + 1, none⟩ = some (.int .i32 x.y.d) ∧ w.cell? ⟨g, o + i * 6 + 2, none⟩ = some (.int .u8 (x.y.k : Int)) ∧ w.cell? ⟨g, o + i * 6 + 3, none⟩ = some (.int .u32 (x.y.s : Int)) ∧ w.cell? ⟨g, o + i * 6 + 4, none⟩ = some (.slice A n k) ∧ w.cell? ⟨g, o + i * 6 + 5, none⟩ = some (.int .i64 (x.o : Int)) := by
  obtain ⟨lv, V, lm, bm, inn, h1, h2, h3, h4, h5, h6, h7, h8, h9, h10, h11⟩ := h
  have c0 := h1.cell 0
  unfold ledC at c0
  simp at c0
  obtain ⟨_, A0, c, rfl, hc, _, hr⟩ := h2.form (by decide)
  have hi : i < V.length := by
    rw [h3.len]
    exact (List.getElem?_eq_some_iff.1 hx).1
  have hv : V[i]? = some V[i] := List.getElem?_eq_getElem hi
  obtain ⟨g, o, rfl, _, hcs⟩ := hr.at_ hi
  obtain ⟨y1, y2, y3⟩ := h3.y i _ x hv hx
  have hR := (h3.r i _ x hv hx).1
  refine ⟨g, o, c, (V[i]).A, (V[i]).n, (V[i]).c, c0, hc, y3, hR, ?_, ?_, ?_, ?_, ?_, ?_⟩
  · have := hcs 0 _ rfl
    rw [y1] at this
    exact this
  · have := hcs 1 _ rfl
    rw [y1] at this
    exact this
  · have := hcs 2 _ rfl
    rw [y1] at this
    exact this
  · have := hcs 3 _ rfl
    rw [y1] at this
    exact this
  · exact hcs 4 _ rfl
  · have := hcs 5 _ rfl
    rw [y2] at this
    exact this
def zeroLn : Value := .agg #[.int .u32 0, .int .i32 0, .int .u8 0, .int .u32 0, .slice none 0 0, .int .i64 0]
/-- A line that is told: its legs are nobody else's. -/
def LinePost (o : Option Li) (w : World) (e : Ending) (w' : World) : Prop :=
  match o with
  | none => e = .returned (.tuple #[zeroLn, .bool false]) ∧ Below w.heap.size w w'
  | some x => ∃ A c, e = .returned (.tuple #[linW x.y (.slice A x.l.length c) x.o, .bool true]) ∧ OwnS legT 53 w' w.heap.size (.slice A x.l.length c) x.l.length x.l ∧ Below w.heap.size w w'
theorem fin_line {Post : Ending → World → Prop} {f : Func} {W : World} {T : Array Value} {g i j : Nat} {c0 c1 c2 c3 c4 c5 v : Value} (hQ : Blk W g 42 #[c0, c1, c2, c3, c4, c5])
    (hf : f.results = #[.cell i 42, .tmp j]) (h2 : T[i]? = some (.pointer (some ⟨g, 0, none⟩))) (h3 : T[j]? = some v) (hP : Post (.returned (.tuple #[.agg #[c0, c1, c2, c3, c4, c5], v])) W) :
    bodyPost Tryz.prog f Post Exit.ret { tmps := T, defers := [] } W := by
  have c0 := hQ.cell 0
  have c1 := hQ.cell 1
  have c2 := hQ.cell 2
  have c3 := hQ.cell 3
  have c4 := hQ.cell 4
  have c5 := hQ.cell 5
  simp at c0 c1 c2 c3 c4 c5
  refine bodyPost_ret (v := .tuple #[.agg #[_, _, _, _, _, _], v]) ?_ rfl hP
  simp [results, hf, go_sem, h2, h3, c0, c1, c2, c3, c4, c5, Result.andThen]
set_option maxRecDepth 100000 in
set_option maxHeartbeats 2000000 in
theorem Line_nil (i : Int) (hi : -9223372036854775808 ≤ i ∧ i ≤ 9223372036854775807) (w : World) : Calls Tryz.prog 12 #[.pointer none, .int .i64 i] w (LinePost none w) := by
  obtain ⟨Z, hZ⟩ : ∃ Z : Array Value, Z = #[.int .u32 0, .int .i32 0, .int .u8 0, .int .u32 0, .slice none 0 0, .int .i64 0] := ⟨_, rfl⟩
  have HZ := Lib.hid (Blk.new w 42 Z)
  have HB := Lib.hid (b_alloc w (.cells Z 42))
  obtain ⟨W, hW⟩ : ∃ W, w.alloc (.cells Z 42) = W := ⟨_, rfl⟩
  rw [hW] at HZ HB
  have HL := Lib.hid (Len_nil W)
  subst hZ
  have HW := Lib.hid hW
  clear hW
  have m0 := HZ.out.cell 0
  have m1 := HZ.out.cell 1
  have m2 := HZ.out.cell 2
  have m3 := HZ.out.cell 3
  have m4 := HZ.out.cell 4
  have m5 := HZ.out.cell 5
  simp at m0 m1 m2 m3 m4 m5
  have z0 := HZ.out.frozen 0
  have z1 := HZ.out.frozen 1
  have z2 := HZ.out.frozen 2
  have z3 := HZ.out.frozen 3
  have z4 := HZ.out.frozen 4
  have z5 := HZ.out.frozen 5
  by_cases h0 : i < 0
  · go_enter Tryz.func12, Tryz.ntmps12
    go_upto_region 1 with (fail)
    rw [HW.out]
    go_wp2_with fail
    have hz := set6c HZ.out (.int .u32 0) (.int .i32 0) (.int .u8 0) (.int .u32 0) (.slice none 0 0) (.int .i64 0)
    exact fin_line hz Tryz.results12 (by rfl) (by rfl) ⟨rfl, below_set6 HB.out (Nat.le_refl _) _ _ _ _ _ _⟩
  · have h1 : (0 : Int) ≤ i := by omega
    go_enter Tryz.func12, Tryz.ntmps12
    go_upto_region 1 with (fail)
    rw [HW.out]
    go_wp2_with fail
    refine HL.out.mono ?_
    rintro e w2 ⟨rfl, hb⟩
    have HZ2 := Lib.hid (HZ.out.below hb HZ.out.lt)
    have HB2 := Lib.hid (HB.out.trans (hb.mono HB.out.size))
    clear hb m0 m1 m2 m3 m4 m5 z0 z1 z2 z3 z4 z5 HZ HB
    have m0 := HZ2.out.cell 0
    have m1 := HZ2.out.cell 1
    have m2 := HZ2.out.cell 2
    have m3 := HZ2.out.cell 3
    have m4 := HZ2.out.cell 4
    have m5 := HZ2.out.cell 5
    simp at m0 m1 m2 m3 m4 m5
    have z0 := HZ2.out.frozen 0
    have z1 := HZ2.out.frozen 1
    have z2 := HZ2.out.frozen 2
    have z3 := HZ2.out.frozen 3
    have z4 := HZ2.out.frozen 4
    have z5 := HZ2.out.frozen 5
    go_wp2_with fail
    have hz := set6c HZ2.out (.int .u32 0) (.int .i32 0) (.int .u8 0) (.int .u32 0) (.slice none 0 0) (.int .i64 0)
    exact fin_line hz Tryz.results12 (by rfl) (by rfl) ⟨rfl, below_set6 HB2.out (Nat.le_refl _) _ _ _ _ _ _⟩
end Go.Proofs.YtabiaeicejgeiaaGreatDoor
