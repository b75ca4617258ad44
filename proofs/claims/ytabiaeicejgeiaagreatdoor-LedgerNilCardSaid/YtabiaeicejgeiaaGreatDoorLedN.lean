/-
  Ledger.Line and Live of a ledger. Conditions: the ledger is there.
-/
import Derived.Test.YtabiaeicejgeiaaGreatDoorLedL
namespace Go.Proofs.YtabiaeicejgeiaaGreatDoor
open Go.ChangeShapes Go.WideShapes Go.ChangeAt Go.RowKit Go.Maps

def cellsZ : Array Value := #[.int .u32 0, .int .i32 0, .int .u8 0, .int .u32 0, .slice none 0 0, .int .i64 0]
set_option maxRecDepth 100000 in
set_option maxHeartbeats 4000000 in
theorem Line_any (q : Nat) (D : Nat → Prop) (M : List Li) (i : Int) (hi : -9223372036854775808 ≤ i ∧ i ≤ 9223372036854775807) (w : World) (h : Led w q D M) (_ : M.length ≤ 1000000) : Calls Tryz.prog 12 #[.pointer (some ⟨q, 0, none⟩), .int .i64 i] w (LinePost (if i < 0 then none else M[i.toNat]?) w) := by
  obtain ⟨Z, hZ⟩ : ∃ Z : Array Value, Z = #[.int .u32 0, .int .i32 0, .int .u8 0, .int .u32 0, .slice none 0 0, .int .i64 0] := ⟨_, rfl⟩
  have HZ := Lib.hid (Blk.new w 42 Z)
  have HB := Lib.hid (b_alloc w (.cells Z 42))
  obtain ⟨W, hW⟩ : ∃ W, w.alloc (.cells Z 42) = W := ⟨_, rfl⟩
  rw [hW] at HZ HB
  have HL := Lib.hid (h.below HB.out)
  have HN := Lib.hid (Len_any q D M W HL.out)
  subst hZ
  have HW := Lib.hid hW
  clear hW h
  have m0 := HZ.out.cell 0
  have m1 := HZ.out.cell 1
  have m2 := HZ.out.cell 2
  have m3 := HZ.out.cell 3
  have m4 := HZ.out.cell 4
  have m5 := HZ.out.cell 5
  simp at m0 m1 m2 m3 m4 m5
  have z0 := HZ.out.frozen 0
  have z1 := HZ.out.frozen 1
  have z2 := HZ.out.frozen 2
  have z3 := HZ.out.frozen 3
  have z4 := HZ.out.frozen 4
  have z5 := HZ.out.frozen 5
  by_cases h0 : i < 0
  · rw [if_pos h0]
    go_enter Tryz.func12, Tryz.ntmps12
    go_upto_region 1 with (fail)
    rw [HW.out]
    go_wp2_with fail
    have hz := set6c HZ.out (.int .u32 0) (.int .i32 0) (.int .u8 0) (.int .u32 0) (.slice none 0 0) (.int .i64 0)
    exact fin_line hz Tryz.results12 (by rfl) (by rfl) ⟨rfl, below_set6 HB.out (Nat.le_refl _) _ _ _ _ _ _⟩
  · rw [if_neg h0]
    have h1 : (0 : Int) ≤ i := by omega
    obtain ⟨k, rfl⟩ : ∃ k : Nat, i = (k : Int) := ⟨i.toNat, by omega⟩
    rw [show ((k : Int)).toNat = k from rfl]
    by_cases hlt : k < M.length
    · rw [List.getElem?_eq_getElem hlt]
      have hlt' : (k : Int) < (M.length : Int) := by omega
      have hge' : ¬ (M.length : Int) ≤ (k : Int) := by omega
      have hx : M[k]? = some M[k] := List.getElem?_eq_getElem hlt
      obtain ⟨x, hxx⟩ : ∃ x, M[k] = x := ⟨_, rfl⟩
      rw [hxx] at hx ⊢
      have hin := HL.out.fine.inn x (List.mem_of_getElem? hx)
      have HX := Lib.hid hx
      have HIN := Lib.hid hin
      clear hxx hx hin h0
      go_enter Tryz.func12, Tryz.ntmps12
      go_upto_region 1 with (fail)
      rw [HW.out]
      go_wp2_with fail
      refine HN.out.mono ?_
      rintro e w2 ⟨rfl, hb⟩
      have HZ2 := Lib.hid (HZ.out.below hb HZ.out.lt)
      have HB2 := Lib.hid (HB.out.trans (hb.mono HB.out.size))
      have HL2 := Lib.hid (HL.out.below hb)
      clear hb m0 m1 m2 m3 m4 m5 z0 z1 z2 z3 z4 z5 HZ HB HL HN
      obtain ⟨g, o, c, A, n, kk, c0, hc, hn, hR, r0, r1, r2, r3, r4, r5⟩ := HL2.out.line HX.out
      have hO := own_any14 x.y A n kk x.o w2.heap.size x.l w2 hR hn.symm (by have := HIN.out.2.2.2.1; omega) (by have := HIN.out.2.2.2.1; omega) (Nat.le_refl _)
      have HO := Lib.hid hO
      clear hO hR hn
      unfold linW at HO
      go_wp2_with fail
      refine HO.out.mono ?_
      rintro e w3 ⟨A3, c3, rfl, ho3, hb3⟩
      have HZ3 := Lib.hid (HZ2.out.below hb3 HZ2.out.lt)
      have HB3 := Lib.hid (HB2.out.trans (hb3.mono HB2.out.size))
      have HO3 := Lib.hid ho3
      have HS := Lib.hid (show w.heap.size < w2.heap.size from HZ2.out.lt)
      clear hb3 ho3 c0 r0 r1 r2 r3 r4 r5 HZ2 HB2 HL2 HO
      have m0 := HZ3.out.cell 0
      have m1 := HZ3.out.cell 1
      have m2 := HZ3.out.cell 2
      have m3 := HZ3.out.cell 3
      have m4 := HZ3.out.cell 4
      have m5 := HZ3.out.cell 5
      simp at m0 m1 m2 m3 m4 m5
      have z0 := HZ3.out.frozen 0
      have z1 := HZ3.out.frozen 1
      have z2 := HZ3.out.frozen 2
      have z3 := HZ3.out.frozen 3
      have z4 := HZ3.out.frozen 4
      have z5 := HZ3.out.frozen 5
      unfold linW
      go_wp2_with fail
      have hz := set6c HZ3.out (.int .u32 (x.y.a : Int)) (.int .i32 x.y.d) (.int .u8 (x.y.k : Int)) (.int .u32 (x.y.s : Int)) (.slice A3 x.l.length c3) (.int .i64 (x.o : Int))
      refine fin_line hz Tryz.results12 (by rfl) (by rfl) ⟨A3, c3, rfl, ?_, below_set6 HB3.out (Nat.le_refl _) _ _ _ _ _ _⟩
      refine own_lowT (HO3.out.same (fun k hk => ?_)) (Nat.le_of_lt HS.out)
      have h1 := (HO3.out.lt k hk).1
      have h2 := HS.out
      exact heap_set6 _ _ _ _ _ _ _ _ _ (by omega)
    · rw [List.getElem?_eq_none (by omega)]
      have hge' : (M.length : Int) ≤ (k : Int) := by omega
      go_enter Tryz.func12, Tryz.ntmps12
      go_upto_region 1 with (fail)
      rw [HW.out]
      go_wp2_with fail
      refine HN.out.mono ?_
      rintro e w2 ⟨rfl, hb⟩
      have HZ2 := Lib.hid (HZ.out.below hb HZ.out.lt)
      have HB2 := Lib.hid (HB.out.trans (hb.mono HB.out.size))
      clear hb m0 m1 m2 m3 m4 m5 z0 z1 z2 z3 z4 z5 HZ HB
      have m0 := HZ2.out.cell 0
      have m1 := HZ2.out.cell 1
      have m2 := HZ2.out.cell 2
      have m3 := HZ2.out.cell 3
      have m4 := HZ2.out.cell 4
      have m5 := HZ2.out.cell 5
      simp at m0 m1 m2 m3 m4 m5
      have z0 := HZ2.out.frozen 0
      have z1 := HZ2.out.frozen 1
      have z2 := HZ2.out.frozen 2
      have z3 := HZ2.out.frozen 3
      have z4 := HZ2.out.frozen 4
      have z5 := HZ2.out.frozen 5
      go_wp2_with fail
      have hz := set6c HZ2.out (.int .u32 0) (.int .i32 0) (.int .u8 0) (.int .u32 0) (.slice none 0 0) (.int .i64 0)
      exact fin_line hz Tryz.results12 (by rfl) (by rfl) ⟨rfl, below_set6 HB2.out (Nat.le_refl _) _ _ _ _ _ _⟩
end Go.Proofs.YtabiaeicejgeiaaGreatDoor
