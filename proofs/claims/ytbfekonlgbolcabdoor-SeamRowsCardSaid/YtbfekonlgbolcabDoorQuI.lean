/-
  Values of the law: lay, take. Conditions: the Quill, the Lens are known, the value's numbers fit their kinds.
-/
import Derived.Test.YtbfekonlgbolcabDoorQuH
namespace Go.Proofs.YtbfekonlgbolcabDoor
open Go.RowKit

structure Val where
  k : Nat
  u : Nat
  i : Int
  s : ByteArray
  m : Nat
/-- Its numbers fit their kinds; its text is short. -/
structure Val.Ok (v : Val) : Prop where
  k : v.k < 256
  u : v.u < 18446744073709551616
  i : -9223372036854775808 ≤ v.i ∧ v.i ≤ 9223372036854775807
  s : v.s.size ≤ 1000
  m : v.m < 18446744073709551616
def Val.cells (v : Val) : List Value := [.int .u8 (v.k : Int), .int .u64 (v.u : Int), .int .i64 v.i, .string v.s, .int .u64 (v.m : Int)]
def Val.enc (v : Val) : Value := .agg #[.int .u8 (v.k : Int), .int .u64 (v.u : Int), .int .i64 v.i, .string v.s, .int .u64 (v.m : Int)]
def layV (v : Val) : List UInt8 := if v.k % 4 = 0 then layN 0 v.u else if v.k % 4 = 1 then layI v.i else if v.k % 4 = 2 then layF (v.u % 2 == 1) else layT v.s.data.toList
def takeO (st : Option (List UInt8)) (v : Val) : Val :=
  if v.k % 4 = 0 then ⟨v.k, uV v.m st, 0, ⟨#[]⟩, 0⟩ else if v.k % 4 = 1 then ⟨v.k, 0, iV st, ⟨#[]⟩, 0⟩ else if v.k % 4 = 2 then ⟨v.k, if uV 1 st = 1 then 1 else 0, 0, ⟨#[]⟩, 0⟩ else ⟨v.k, 0, 0, tV (v.m % 1000) st, 0⟩
def takeR (st : Option (List UInt8)) (v : Val) : Option (List UInt8) :=
  if v.k % 4 = 0 then uS v.m st else if v.k % 4 = 1 then iS st else if v.k % 4 = 2 then uS 1 st else tS (v.m % 1000) st

section
variable (B q : Nat) (r : Option Nat) (l : List UInt8)
end

theorem set5 {w : World} {g : Nat} {T : TypeId} {a b c d e : Value} (h : Blk w g T #[a, b, c, d, e]) (x y z u v : Value) :
    (w.setCell ⟨g, 0, none⟩ x).cell? ⟨g, 0, none⟩ = some x ∧ ((w.setCell ⟨g, 0, none⟩ x).setCell ⟨g, 1, none⟩ y).cell? ⟨g, 1, none⟩ = some y ∧
      (((w.setCell ⟨g, 0, none⟩ x).setCell ⟨g, 1, none⟩ y).setCell ⟨g, 2, none⟩ z).cell? ⟨g, 2, none⟩ = some z ∧
      ((((w.setCell ⟨g, 0, none⟩ x).setCell ⟨g, 1, none⟩ y).setCell ⟨g, 2, none⟩ z).setCell ⟨g, 3, none⟩ u).cell? ⟨g, 3, none⟩ = some u ∧
      (((((w.setCell ⟨g, 0, none⟩ x).setCell ⟨g, 1, none⟩ y).setCell ⟨g, 2, none⟩ z).setCell ⟨g, 3, none⟩ u).setCell ⟨g, 4, none⟩ v).cell? ⟨g, 4, none⟩ = some v :=
  ⟨(h.set_ 0 x).cell 0, ((h.set_ 0 x).set_ 1 y).cell 1, (((h.set_ 0 x).set_ 1 y).set_ 2 z).cell 2, ((((h.set_ 0 x).set_ 1 y).set_ 2 z).set_ 3 u).cell 3, (((((h.set_ 0 x).set_ 1 y).set_ 2 z).set_ 3 u).set_ 4 v).cell 4⟩

theorem Far.setNew {a w : World} {q p : Nat} {r : Option Nat} (h : Far a w q r) (hp : a.heap.size ≤ p) (i : Nat) (u : Value) : Far a (w.setCell ⟨p, i, none⟩ u) q r :=
  ⟨h.1, h.2.1, h.2.2.1, by simpa [World.setCell] using h.2.2.2.1, fun j hj h1 h2 => (Below.heap_setCell w ⟨p, i, none⟩ u j (fun e => by have e' : j = p := e; omega)).trans (h.2.2.2.2 j hj h1 h2)⟩

section
variable (b g : Nat)
def TOPost (v : Val) (w : World) (st : Option (List UInt8)) (e : Ending) (w' : World) : Prop := e = .returned (takeO st v).enc ∧ Ln w' b g (takeR st v) ∧ Far w w' b none
/-- Three boxes of a call of take. -/
theorem three_vals {w W1 : World} {T : TypeId} {a c d : Array Value} (h : ((w.alloc (.cells a T)).alloc (.cells c T)).alloc (.cells d T) = W1) :
    Below w.heap.size w W1 ∧ Blk W1 w.heap.size T a ∧ Blk W1 (w.heap.size + 1) T c ∧ Blk W1 (w.heap.size + 2) T d := by
  subst h
  have z1 : (w.alloc (.cells a T)).heap.size = w.heap.size + 1 := by simp
  have z2 : ((w.alloc (.cells a T)).alloc (.cells c T)).heap.size = w.heap.size + 2 := by simp
  refine ⟨(((Below.refl _ w).alloc (Nat.le_refl _) _).alloc (by simp) _).alloc (by simp; omega) _, ((Blk.new w _ _).alloc _).alloc _, ?_, ?_⟩
  · rw [← z1]; exact (Blk.new _ _ _).alloc _
  · rw [← z2]; exact Blk.new _ _ _
theorem Far.of_below {w w' : World} {q : Nat} {r : Option Nat} (h : Below w.heap.size w w') : Far w w' q r := ⟨h.os, h.tape, h.output, h.size, fun i hi _ _ => h.block i hi⟩
abbrev noS : ByteArray := ⟨#[]⟩
set_option maxRecDepth 20000 in
set_option maxHeartbeats 1000000 in
theorem take_k0 (k u m : Nat) (i : Int) (s : ByteArray) (hk : k < 256) (hm : m < 18446744073709551616) (hk0 : (k : Int) % 4 = 0) (st : Option (List UInt8)) (w : World) (h : Ln w b g st) (hg : g < w.heap.size) :
    Calls Tryd.prog 10 #[.pointer (some ⟨b, 0, none⟩), .agg #[.int .u8 (k : Int), .int .u64 (u : Int), .int .i64 i, .string s, .int .u64 (m : Int)]] w fun e w' => e = .returned (.agg #[.int .u8 (k : Int), .int .u64 (uV m st : Int), .int .i64 0, .string noS, .int .u64 0]) ∧ Ln w' b g (uS m st) ∧ Far w w' b none := by
  obtain ⟨W1, hW1⟩ : ∃ W, ((w.alloc (.cells #[.int .u8 (k : Int), .int .u64 (u : Int), .int .i64 i, .string s, .int .u64 (m : Int)] 31)).alloc (.cells #[.int .u8 0, .int .u64 0, .int .i64 0, .string noS, .int .u64 0] 31)).alloc (.cells #[.int .u8 0, .int .u64 0, .int .i64 0, .string noS, .int .u64 0] 31) = W := ⟨_, rfl⟩
  obtain ⟨hb1, hA, hB, hC⟩ := three_vals hW1
  have hblt := h.lt
  have h1 := h.below hb1
  have hf2 : Far W1 (((((W1.setCell ⟨w.heap.size + 2, 0, none⟩ (.int .u8 (k : Int))).setCell ⟨w.heap.size + 2, 1, none⟩ (.int .u64 0)).setCell ⟨w.heap.size + 2, 2, none⟩ (.int .i64 0)).setCell ⟨w.heap.size + 2, 3, none⟩ (.string noS)).setCell ⟨w.heap.size + 2, 4, none⟩ (.int .u64 0)) (w.heap.size + 2) none := (((((Far.refl W1 _ none).set 0 _).set 1 _).set 2 _).set 3 _).set 4 _
  have hF2 : Far w (((((W1.setCell ⟨w.heap.size + 2, 0, none⟩ (.int .u8 (k : Int))).setCell ⟨w.heap.size + 2, 1, none⟩ (.int .u64 0)).setCell ⟨w.heap.size + 2, 2, none⟩ (.int .i64 0)).setCell ⟨w.heap.size + 2, 3, none⟩ (.string noS)).setCell ⟨w.heap.size + 2, 4, none⟩ (.int .u64 0)) b none := (((((Far.of_below hb1 : Far w W1 b none).setNew (by omega) 0 _).setNew (by omega) 1 _).setNew (by omega) 2 _).setNew (by omega) 3 _).setNew (by omega) 4 _
  have hC2 := ((((hC.set_ 0 (.int .u8 (k : Int))).set_ 1 (.int .u64 0)).set_ 2 (.int .i64 0)).set_ 3 (.string noS)).set_ 4 (.int .u64 0)
  obtain ⟨W2, hW2⟩ : ∃ W, (((((W1.setCell ⟨w.heap.size + 2, 0, none⟩ (.int .u8 (k : Int))).setCell ⟨w.heap.size + 2, 1, none⟩ (.int .u64 0)).setCell ⟨w.heap.size + 2, 2, none⟩ (.int .i64 0)).setCell ⟨w.heap.size + 2, 3, none⟩ (.string noS)).setCell ⟨w.heap.size + 2, 4, none⟩ (.int .u64 0)) = W := ⟨_, rfl⟩
  rw [hW2] at hf2 hC2 hF2
  have hC3 : Blk W2 (w.heap.size + 2) 31 #[.int .u8 (k : Int), .int .u64 0, .int .i64 0, .string noS, .int .u64 0] := by simpa using hC2
  have h2 := h1.past hf2 (by omega) (by simp) (by omega) (by simp)
  have hA2 := hA.past hf2 (by omega) (by simp)
  have hB2 := hB.past hf2 (by omega) (by simp)
  have hL := LUint_any b g m hm st W2 h2
  unfold UtPost at hL
  have HL := Lib.hid hL
  have a0 := hA.cell 0
  have g0 := hC.cell 0
  have g1 := hC.cell 1
  have g2 := hC.cell 2
  have g3 := hC.cell 3
  have g4 := hC.cell 4
  have f0 := hC.frozen 0
  have f1 := hC.frozen 1
  have f2 := hC.frozen 2
  have f3 := hC.frozen 3
  have f4 := hC.frozen 4
  have b0 := hA2.cell 0
  have b4 := hA2.cell 4
  simp at a0 g0 g1 g2 g3 g4 b0 b4
  have HB2 := Lib.hid hB2
  have HC3 := Lib.hid hC3
  have HF2 := Lib.hid hF2
  clear hA hB hC h h1 hf2 hC2 hA2 hB2 hC3 hL hF2 h2 hb1
  go_enter Tryd.func10, Tryd.ntmps10
  go_wp2_with fail
  refine HL.out.mono ?_
  rintro e w3 ⟨rfl, hl3, hf3⟩
  clear hW1 hW2 a0 g0 g1 g2 g3 g4 f0 f1 f2 f3 f4 b0 b4
  have hC4 := HC3.out.past hf3 (by omega) (by simp)
  have hB4 := HB2.out.past hf3 (by omega) (by simp)
  have hF3 := HF2.out.trans hf3 (Stays.refl _ _)
  have e1 := hC4.cell 1
  have e2 := hC4.frozen 1
  simp at e1
  obtain ⟨w4, hW4⟩ : ∃ W, w3.setCell ⟨w.heap.size + 2, 1, none⟩ (.int .u64 (uV m st : Int)) = W := ⟨_, rfl⟩
  have hC5 : Blk w4 (w.heap.size + 2) 31 #[.int .u8 (k : Int), .int .u64 (uV m st : Int), .int .i64 0, .string noS, .int .u64 0] := by rw [← hW4]; simpa using hC4.set_ 1 (.int .u64 (uV m st : Int))
  have hB5 : Blk w4 (w.heap.size + 1) 31 #[.int .u8 0, .int .u64 0, .int .i64 0, .string noS, .int .u64 0] := by rw [← hW4]; exact hB4.far (by simp) _
  have hl4 := hl3.past (by rw [← hW4]; exact (Far.refl w3 (w.heap.size + 2) none).set 1 _ : Far w3 w4 (w.heap.size + 2) none) (by omega) (by simp) (by omega) (by simp)
  have hF4 : Far w w4 b none := by rw [← hW4]; exact hF3.setNew (by omega) 1 _
  have d0 := hC5.cell 0
  have d1 := hC5.cell 1
  have d2 := hC5.cell 2
  have d3 := hC5.cell 3
  have d4 := hC5.cell 4
  have g0 := hB5.cell 0
  have g1 := hB5.cell 1
  have g2 := hB5.cell 2
  have g3 := hB5.cell 3
  have g4 := hB5.cell 4
  have f0 := hB5.frozen 0
  have f1 := hB5.frozen 1
  have f2 := hB5.frozen 2
  have f3 := hB5.frozen 3
  have f4 := hB5.frozen 4
  simp at d0 d1 d2 d3 d4 g0 g1 g2 g3 g4
  obtain ⟨s0, s1, s2, s3, s4⟩ := set5 hB5 (.int .u8 (k : Int)) (.int .u64 (uV m st : Int)) (.int .i64 0) (.string noS) (.int .u64 0)
  have HLN := Lib.hid (hl4.past ((((((Far.refl w4 (w.heap.size + 1) none).set 0 _).set 1 _).set 2 _).set 3 _).set 4 _ : Far w4 (((((w4.setCell ⟨w.heap.size + 1, 0, none⟩ (.int .u8 (k : Int))).setCell ⟨w.heap.size + 1, 1, none⟩ (.int .u64 (uV m st : Int))).setCell ⟨w.heap.size + 1, 2, none⟩ (.int .i64 0)).setCell ⟨w.heap.size + 1, 3, none⟩ (.string noS)).setCell ⟨w.heap.size + 1, 4, none⟩ (.int .u64 0)) (w.heap.size + 1) none) (by omega) (by simp) (by omega) (by simp))
  have HFN := Lib.hid (((((hF4.setNew (by omega) 0 _).setNew (by omega) 1 _).setNew (by omega) 2 _).setNew (by omega) 3 _).setNew (by omega) 4 _ : Far w (((((w4.setCell ⟨w.heap.size + 1, 0, none⟩ (.int .u8 (k : Int))).setCell ⟨w.heap.size + 1, 1, none⟩ (.int .u64 (uV m st : Int))).setCell ⟨w.heap.size + 1, 2, none⟩ (.int .i64 0)).setCell ⟨w.heap.size + 1, 3, none⟩ (.string noS)).setCell ⟨w.heap.size + 1, 4, none⟩ (.int .u64 0)) b none)
  clear hC4 hB4 hF3 hC5 hB5 hl3 hf3 hl4 hF4
  go_wp2_with fail
  exact bodyPost_ret (v := .agg #[.int .u8 (k : Int), .int .u64 (uV m st : Int), .int .i64 0, .string noS, .int .u64 0]) (by simp [results, Tryd.results10, go_sem, s0, s1, s2, s3, s4, Result.andThen]) rfl ⟨rfl, HLN.out, HFN.out⟩
set_option maxRecDepth 20000 in
set_option maxHeartbeats 1000000 in
theorem take_k1 (k u m : Nat) (i : Int) (s : ByteArray) (hk : k < 256) (hm : m < 18446744073709551616) (hk0 : (k : Int) % 4 = 1) (st : Option (List UInt8)) (w : World) (h : Ln w b g st) (hg : g < w.heap.size) :
    Calls Tryd.prog 10 #[.pointer (some ⟨b, 0, none⟩), .agg #[.int .u8 (k : Int), .int .u64 (u : Int), .int .i64 i, .string s, .int .u64 (m : Int)]] w fun e w' => e = .returned (.agg #[.int .u8 (k : Int), .int .u64 0, .int .i64 (iV st), .string noS, .int .u64 0]) ∧ Ln w' b g (iS st) ∧ Far w w' b none := by
  obtain ⟨W1, hW1⟩ : ∃ W, ((w.alloc (.cells #[.int .u8 (k : Int), .int .u64 (u : Int), .int .i64 i, .string s, .int .u64 (m : Int)] 31)).alloc (.cells #[.int .u8 0, .int .u64 0, .int .i64 0, .string noS, .int .u64 0] 31)).alloc (.cells #[.int .u8 0, .int .u64 0, .int .i64 0, .string noS, .int .u64 0] 31) = W := ⟨_, rfl⟩
  obtain ⟨hb1, hA, hB, hC⟩ := three_vals hW1
  have hblt := h.lt
  have h1 := h.below hb1
  have hf2 : Far W1 (((((W1.setCell ⟨w.heap.size + 2, 0, none⟩ (.int .u8 (k : Int))).setCell ⟨w.heap.size + 2, 1, none⟩ (.int .u64 0)).setCell ⟨w.heap.size + 2, 2, none⟩ (.int .i64 0)).setCell ⟨w.heap.size + 2, 3, none⟩ (.string noS)).setCell ⟨w.heap.size + 2, 4, none⟩ (.int .u64 0)) (w.heap.size + 2) none := (((((Far.refl W1 _ none).set 0 _).set 1 _).set 2 _).set 3 _).set 4 _
  have hF2 : Far w (((((W1.setCell ⟨w.heap.size + 2, 0, none⟩ (.int .u8 (k : Int))).setCell ⟨w.heap.size + 2, 1, none⟩ (.int .u64 0)).setCell ⟨w.heap.size + 2, 2, none⟩ (.int .i64 0)).setCell ⟨w.heap.size + 2, 3, none⟩ (.string noS)).setCell ⟨w.heap.size + 2, 4, none⟩ (.int .u64 0)) b none := (((((Far.of_below hb1 : Far w W1 b none).setNew (by omega) 0 _).setNew (by omega) 1 _).setNew (by omega) 2 _).setNew (by omega) 3 _).setNew (by omega) 4 _
  have hC2 := ((((hC.set_ 0 (.int .u8 (k : Int))).set_ 1 (.int .u64 0)).set_ 2 (.int .i64 0)).set_ 3 (.string noS)).set_ 4 (.int .u64 0)
  obtain ⟨W2, hW2⟩ : ∃ W, (((((W1.setCell ⟨w.heap.size + 2, 0, none⟩ (.int .u8 (k : Int))).setCell ⟨w.heap.size + 2, 1, none⟩ (.int .u64 0)).setCell ⟨w.heap.size + 2, 2, none⟩ (.int .i64 0)).setCell ⟨w.heap.size + 2, 3, none⟩ (.string noS)).setCell ⟨w.heap.size + 2, 4, none⟩ (.int .u64 0)) = W := ⟨_, rfl⟩
  rw [hW2] at hf2 hC2 hF2
  have hC3 : Blk W2 (w.heap.size + 2) 31 #[.int .u8 (k : Int), .int .u64 0, .int .i64 0, .string noS, .int .u64 0] := by simpa using hC2
  have h2 := h1.past hf2 (by omega) (by simp) (by omega) (by simp)
  have hA2 := hA.past hf2 (by omega) (by simp)
  have hB2 := hB.past hf2 (by omega) (by simp)
  have hL := LInt_any b g st W2 h2
  unfold ItPost at hL
  have HL := Lib.hid hL
  have a0 := hA.cell 0
  have g0 := hC.cell 0
  have g1 := hC.cell 1
  have g2 := hC.cell 2
  have g3 := hC.cell 3
  have g4 := hC.cell 4
  have f0 := hC.frozen 0
  have f1 := hC.frozen 1
  have f2 := hC.frozen 2
  have f3 := hC.frozen 3
  have f4 := hC.frozen 4
  have b0 := hA2.cell 0
  have b4 := hA2.cell 4
  simp at a0 g0 g1 g2 g3 g4 b0 b4
  have HB2 := Lib.hid hB2
  have HC3 := Lib.hid hC3
  have HF2 := Lib.hid hF2
  clear hA hB hC h h1 hf2 hC2 hA2 hB2 hC3 hL hF2 h2 hb1
  go_enter Tryd.func10, Tryd.ntmps10
  go_wp2_with fail
  refine HL.out.mono ?_
  rintro e w3 ⟨rfl, hl3, hf3⟩
  clear hW1 hW2 a0 g0 g1 g2 g3 g4 f0 f1 f2 f3 f4 b0 b4
  have hC4 := HC3.out.past hf3 (by omega) (by simp)
  have hB4 := HB2.out.past hf3 (by omega) (by simp)
  have hF3 := HF2.out.trans hf3 (Stays.refl _ _)
  have e1 := hC4.cell 2
  have e2 := hC4.frozen 2
  simp at e1
  obtain ⟨w4, hW4⟩ : ∃ W, w3.setCell ⟨w.heap.size + 2, 2, none⟩ (.int .i64 (iV st)) = W := ⟨_, rfl⟩
  have hC5 : Blk w4 (w.heap.size + 2) 31 #[.int .u8 (k : Int), .int .u64 0, .int .i64 (iV st), .string noS, .int .u64 0] := by rw [← hW4]; simpa using hC4.set_ 2 (.int .i64 (iV st))
  have hB5 : Blk w4 (w.heap.size + 1) 31 #[.int .u8 0, .int .u64 0, .int .i64 0, .string noS, .int .u64 0] := by rw [← hW4]; exact hB4.far (by simp) _
  have hl4 := hl3.past (by rw [← hW4]; exact (Far.refl w3 (w.heap.size + 2) none).set 2 _ : Far w3 w4 (w.heap.size + 2) none) (by omega) (by simp) (by omega) (by simp)
  have hF4 : Far w w4 b none := by rw [← hW4]; exact hF3.setNew (by omega) 2 _
  have d0 := hC5.cell 0
  have d1 := hC5.cell 1
  have d2 := hC5.cell 2
  have d3 := hC5.cell 3
  have d4 := hC5.cell 4
  have g0 := hB5.cell 0
  have g1 := hB5.cell 1
  have g2 := hB5.cell 2
  have g3 := hB5.cell 3
  have g4 := hB5.cell 4
  have f0 := hB5.frozen 0
  have f1 := hB5.frozen 1
  have f2 := hB5.frozen 2
  have f3 := hB5.frozen 3
  have f4 := hB5.frozen 4
  simp at d0 d1 d2 d3 d4 g0 g1 g2 g3 g4
  obtain ⟨s0, s1, s2, s3, s4⟩ := set5 hB5 (.int .u8 (k : Int)) (.int .u64 0) (.int .i64 (iV st)) (.string noS) (.int .u64 0)
  have HLN := Lib.hid (hl4.past ((((((Far.refl w4 (w.heap.size + 1) none).set 0 _).set 1 _).set 2 _).set 3 _).set 4 _ : Far w4 (((((w4.setCell ⟨w.heap.size + 1, 0, none⟩ (.int .u8 (k : Int))).setCell ⟨w.heap.size + 1, 1, none⟩ (.int .u64 0)).setCell ⟨w.heap.size + 1, 2, none⟩ (.int .i64 (iV st))).setCell ⟨w.heap.size + 1, 3, none⟩ (.string noS)).setCell ⟨w.heap.size + 1, 4, none⟩ (.int .u64 0)) (w.heap.size + 1) none) (by omega) (by simp) (by omega) (by simp))
  have HFN := Lib.hid (((((hF4.setNew (by omega) 0 _).setNew (by omega) 1 _).setNew (by omega) 2 _).setNew (by omega) 3 _).setNew (by omega) 4 _ : Far w (((((w4.setCell ⟨w.heap.size + 1, 0, none⟩ (.int .u8 (k : Int))).setCell ⟨w.heap.size + 1, 1, none⟩ (.int .u64 0)).setCell ⟨w.heap.size + 1, 2, none⟩ (.int .i64 (iV st))).setCell ⟨w.heap.size + 1, 3, none⟩ (.string noS)).setCell ⟨w.heap.size + 1, 4, none⟩ (.int .u64 0)) b none)
  clear hC4 hB4 hF3 hC5 hB5 hl3 hf3 hl4 hF4
  go_wp2_with fail
  exact bodyPost_ret (v := .agg #[.int .u8 (k : Int), .int .u64 0, .int .i64 (iV st), .string noS, .int .u64 0]) (by simp [results, Tryd.results10, go_sem, s0, s1, s2, s3, s4, Result.andThen]) rfl ⟨rfl, HLN.out, HFN.out⟩
set_option maxRecDepth 20000 in
set_option maxHeartbeats 1000000 in
theorem take_k3 (k u m : Nat) (i : Int) (s : ByteArray) (hk : k < 256) (hm : m < 18446744073709551616) (hk0 : (k : Int) % 4 = 3) (st : Option (List UInt8)) (w : World) (h : Ln w b g st) (hg : g < w.heap.size) :
    Calls Tryd.prog 10 #[.pointer (some ⟨b, 0, none⟩), .agg #[.int .u8 (k : Int), .int .u64 (u : Int), .int .i64 i, .string s, .int .u64 (m : Int)]] w fun e w' => e = .returned (.agg #[.int .u8 (k : Int), .int .u64 0, .int .i64 0, .string (tV (m % 1000) st), .int .u64 0]) ∧ Ln w' b g (tS (m % 1000) st) ∧ Far w w' b none := by
  obtain ⟨W1, hW1⟩ : ∃ W, ((w.alloc (.cells #[.int .u8 (k : Int), .int .u64 (u : Int), .int .i64 i, .string s, .int .u64 (m : Int)] 31)).alloc (.cells #[.int .u8 0, .int .u64 0, .int .i64 0, .string noS, .int .u64 0] 31)).alloc (.cells #[.int .u8 0, .int .u64 0, .int .i64 0, .string noS, .int .u64 0] 31) = W := ⟨_, rfl⟩
  obtain ⟨hb1, hA, hB, hC⟩ := three_vals hW1
  have hblt := h.lt
  have h1 := h.below hb1
  have hf2 : Far W1 (((((W1.setCell ⟨w.heap.size + 2, 0, none⟩ (.int .u8 (k : Int))).setCell ⟨w.heap.size + 2, 1, none⟩ (.int .u64 0)).setCell ⟨w.heap.size + 2, 2, none⟩ (.int .i64 0)).setCell ⟨w.heap.size + 2, 3, none⟩ (.string noS)).setCell ⟨w.heap.size + 2, 4, none⟩ (.int .u64 0)) (w.heap.size + 2) none := (((((Far.refl W1 _ none).set 0 _).set 1 _).set 2 _).set 3 _).set 4 _
  have hF2 : Far w (((((W1.setCell ⟨w.heap.size + 2, 0, none⟩ (.int .u8 (k : Int))).setCell ⟨w.heap.size + 2, 1, none⟩ (.int .u64 0)).setCell ⟨w.heap.size + 2, 2, none⟩ (.int .i64 0)).setCell ⟨w.heap.size + 2, 3, none⟩ (.string noS)).setCell ⟨w.heap.size + 2, 4, none⟩ (.int .u64 0)) b none := (((((Far.of_below hb1 : Far w W1 b none).setNew (by omega) 0 _).setNew (by omega) 1 _).setNew (by omega) 2 _).setNew (by omega) 3 _).setNew (by omega) 4 _
  have hC2 := ((((hC.set_ 0 (.int .u8 (k : Int))).set_ 1 (.int .u64 0)).set_ 2 (.int .i64 0)).set_ 3 (.string noS)).set_ 4 (.int .u64 0)
  obtain ⟨W2, hW2⟩ : ∃ W, (((((W1.setCell ⟨w.heap.size + 2, 0, none⟩ (.int .u8 (k : Int))).setCell ⟨w.heap.size + 2, 1, none⟩ (.int .u64 0)).setCell ⟨w.heap.size + 2, 2, none⟩ (.int .i64 0)).setCell ⟨w.heap.size + 2, 3, none⟩ (.string noS)).setCell ⟨w.heap.size + 2, 4, none⟩ (.int .u64 0)) = W := ⟨_, rfl⟩
  rw [hW2] at hf2 hC2 hF2
  have hC3 : Blk W2 (w.heap.size + 2) 31 #[.int .u8 (k : Int), .int .u64 0, .int .i64 0, .string noS, .int .u64 0] := by simpa using hC2
  have h2 := h1.past hf2 (by omega) (by simp) (by omega) (by simp)
  have hA2 := hA.past hf2 (by omega) (by simp)
  have hB2 := hB.past hf2 (by omega) (by simp)
  have hL := LText_any b g (m % 1000) (by omega) st W2 h2
  unfold TtPost at hL
  have HL := Lib.hid hL
  have a0 := hA.cell 0
  have g0 := hC.cell 0
  have g1 := hC.cell 1
  have g2 := hC.cell 2
  have g3 := hC.cell 3
  have g4 := hC.cell 4
  have f0 := hC.frozen 0
  have f1 := hC.frozen 1
  have f2 := hC.frozen 2
  have f3 := hC.frozen 3
  have f4 := hC.frozen 4
  have b0 := hA2.cell 0
  have b4 := hA2.cell 4
  simp at a0 g0 g1 g2 g3 g4 b0 b4
  have HB2 := Lib.hid hB2
  have HC3 := Lib.hid hC3
  have HF2 := Lib.hid hF2
  clear hA hB hC h h1 hf2 hC2 hA2 hB2 hC3 hL hF2 h2 hb1
  go_enter Tryd.func10, Tryd.ntmps10
  go_wp2_with fail
  refine HL.out.mono ?_
  rintro e w3 ⟨rfl, hl3, hf3⟩
  clear hW1 hW2 a0 g0 g1 g2 g3 g4 f0 f1 f2 f3 f4 b0 b4
  have hC4 := HC3.out.past hf3 (by omega) (by simp)
  have hB4 := HB2.out.past hf3 (by omega) (by simp)
  have hF3 := HF2.out.trans hf3 (Stays.refl _ _)
  have e1 := hC4.cell 3
  have e2 := hC4.frozen 3
  simp at e1
  obtain ⟨w4, hW4⟩ : ∃ W, w3.setCell ⟨w.heap.size + 2, 3, none⟩ (.string (tV (m % 1000) st)) = W := ⟨_, rfl⟩
  have hC5 : Blk w4 (w.heap.size + 2) 31 #[.int .u8 (k : Int), .int .u64 0, .int .i64 0, .string (tV (m % 1000) st), .int .u64 0] := by rw [← hW4]; simpa using hC4.set_ 3 (.string (tV (m % 1000) st))
  have hB5 : Blk w4 (w.heap.size + 1) 31 #[.int .u8 0, .int .u64 0, .int .i64 0, .string noS, .int .u64 0] := by rw [← hW4]; exact hB4.far (by simp) _
  have hl4 := hl3.past (by rw [← hW4]; exact (Far.refl w3 (w.heap.size + 2) none).set 3 _ : Far w3 w4 (w.heap.size + 2) none) (by omega) (by simp) (by omega) (by simp)
  have hF4 : Far w w4 b none := by rw [← hW4]; exact hF3.setNew (by omega) 3 _
  have d0 := hC5.cell 0
  have d1 := hC5.cell 1
  have d2 := hC5.cell 2
  have d3 := hC5.cell 3
  have d4 := hC5.cell 4
  have g0 := hB5.cell 0
  have g1 := hB5.cell 1
  have g2 := hB5.cell 2
  have g3 := hB5.cell 3
  have g4 := hB5.cell 4
  have f0 := hB5.frozen 0
  have f1 := hB5.frozen 1
  have f2 := hB5.frozen 2
  have f3 := hB5.frozen 3
  have f4 := hB5.frozen 4
  simp at d0 d1 d2 d3 d4 g0 g1 g2 g3 g4
  obtain ⟨s0, s1, s2, s3, s4⟩ := set5 hB5 (.int .u8 (k : Int)) (.int .u64 0) (.int .i64 0) (.string (tV (m % 1000) st)) (.int .u64 0)
  have HLN := Lib.hid (hl4.past ((((((Far.refl w4 (w.heap.size + 1) none).set 0 _).set 1 _).set 2 _).set 3 _).set 4 _ : Far w4 (((((w4.setCell ⟨w.heap.size + 1, 0, none⟩ (.int .u8 (k : Int))).setCell ⟨w.heap.size + 1, 1, none⟩ (.int .u64 0)).setCell ⟨w.heap.size + 1, 2, none⟩ (.int .i64 0)).setCell ⟨w.heap.size + 1, 3, none⟩ (.string (tV (m % 1000) st))).setCell ⟨w.heap.size + 1, 4, none⟩ (.int .u64 0)) (w.heap.size + 1) none) (by omega) (by simp) (by omega) (by simp))
  have HFN := Lib.hid (((((hF4.setNew (by omega) 0 _).setNew (by omega) 1 _).setNew (by omega) 2 _).setNew (by omega) 3 _).setNew (by omega) 4 _ : Far w (((((w4.setCell ⟨w.heap.size + 1, 0, none⟩ (.int .u8 (k : Int))).setCell ⟨w.heap.size + 1, 1, none⟩ (.int .u64 0)).setCell ⟨w.heap.size + 1, 2, none⟩ (.int .i64 0)).setCell ⟨w.heap.size + 1, 3, none⟩ (.string (tV (m % 1000) st))).setCell ⟨w.heap.size + 1, 4, none⟩ (.int .u64 0)) b none)
  clear hC4 hB4 hF3 hC5 hB5 hl3 hf3 hl4 hF4
  go_wp2_with fail
  exact bodyPost_ret (v := .agg #[.int .u8 (k : Int), .int .u64 0, .int .i64 0, .string (tV (m % 1000) st), .int .u64 0]) (by simp [results, Tryd.results10, go_sem, s0, s1, s2, s3, s4, Result.andThen]) rfl ⟨rfl, HLN.out, HFN.out⟩
set_option maxRecDepth 20000 in
set_option maxHeartbeats 1000000 in
theorem take_k2t (k u m : Nat) (i : Int) (s : ByteArray) (hk : k < 256) (hm : m < 18446744073709551616) (hk0 : (k : Int) % 4 = 2) (st : Option (List UInt8)) (w : World) (h : Ln w b g st) (hg : g < w.heap.size) (hfl : (uV 1 st == 1) = true) :
    Calls Tryd.prog 10 #[.pointer (some ⟨b, 0, none⟩), .agg #[.int .u8 (k : Int), .int .u64 (u : Int), .int .i64 i, .string s, .int .u64 (m : Int)]] w fun e w' => e = .returned (.agg #[.int .u8 (k : Int), .int .u64 1, .int .i64 0, .string noS, .int .u64 0]) ∧ Ln w' b g (uS 1 st) ∧ Far w w' b none := by
  obtain ⟨W1, hW1⟩ : ∃ W, ((w.alloc (.cells #[.int .u8 (k : Int), .int .u64 (u : Int), .int .i64 i, .string s, .int .u64 (m : Int)] 31)).alloc (.cells #[.int .u8 0, .int .u64 0, .int .i64 0, .string noS, .int .u64 0] 31)).alloc (.cells #[.int .u8 0, .int .u64 0, .int .i64 0, .string noS, .int .u64 0] 31) = W := ⟨_, rfl⟩
  obtain ⟨hb1, hA, hB, hC⟩ := three_vals hW1
  have hblt := h.lt
  have h1 := h.below hb1
  have hf2 : Far W1 (((((W1.setCell ⟨w.heap.size + 2, 0, none⟩ (.int .u8 (k : Int))).setCell ⟨w.heap.size + 2, 1, none⟩ (.int .u64 0)).setCell ⟨w.heap.size + 2, 2, none⟩ (.int .i64 0)).setCell ⟨w.heap.size + 2, 3, none⟩ (.string noS)).setCell ⟨w.heap.size + 2, 4, none⟩ (.int .u64 0)) (w.heap.size + 2) none := (((((Far.refl W1 _ none).set 0 _).set 1 _).set 2 _).set 3 _).set 4 _
  have hF2 : Far w (((((W1.setCell ⟨w.heap.size + 2, 0, none⟩ (.int .u8 (k : Int))).setCell ⟨w.heap.size + 2, 1, none⟩ (.int .u64 0)).setCell ⟨w.heap.size + 2, 2, none⟩ (.int .i64 0)).setCell ⟨w.heap.size + 2, 3, none⟩ (.string noS)).setCell ⟨w.heap.size + 2, 4, none⟩ (.int .u64 0)) b none := (((((Far.of_below hb1 : Far w W1 b none).setNew (by omega) 0 _).setNew (by omega) 1 _).setNew (by omega) 2 _).setNew (by omega) 3 _).setNew (by omega) 4 _
  have hC2 := ((((hC.set_ 0 (.int .u8 (k : Int))).set_ 1 (.int .u64 0)).set_ 2 (.int .i64 0)).set_ 3 (.string noS)).set_ 4 (.int .u64 0)
  obtain ⟨W2, hW2⟩ : ∃ W, (((((W1.setCell ⟨w.heap.size + 2, 0, none⟩ (.int .u8 (k : Int))).setCell ⟨w.heap.size + 2, 1, none⟩ (.int .u64 0)).setCell ⟨w.heap.size + 2, 2, none⟩ (.int .i64 0)).setCell ⟨w.heap.size + 2, 3, none⟩ (.string noS)).setCell ⟨w.heap.size + 2, 4, none⟩ (.int .u64 0)) = W := ⟨_, rfl⟩
  rw [hW2] at hf2 hC2 hF2
  have hC3 : Blk W2 (w.heap.size + 2) 31 #[.int .u8 (k : Int), .int .u64 0, .int .i64 0, .string noS, .int .u64 0] := by simpa using hC2
  have h2 := h1.past hf2 (by omega) (by simp) (by omega) (by simp)
  have hA2 := hA.past hf2 (by omega) (by simp)
  have hB2 := hB.past hf2 (by omega) (by simp)
  have hL := LFlag_any b g st W2 h2
  unfold FtPost at hL
  rw [hfl] at hL
  have HL := Lib.hid hL
  have a0 := hA.cell 0
  have g0 := hC.cell 0
  have g1 := hC.cell 1
  have g2 := hC.cell 2
  have g3 := hC.cell 3
  have g4 := hC.cell 4
  have f0 := hC.frozen 0
  have f1 := hC.frozen 1
  have f2 := hC.frozen 2
  have f3 := hC.frozen 3
  have f4 := hC.frozen 4
  have b0 := hA2.cell 0
  have b4 := hA2.cell 4
  simp at a0 g0 g1 g2 g3 g4 b0 b4
  have HB2 := Lib.hid hB2
  have HC3 := Lib.hid hC3
  have HF2 := Lib.hid hF2
  clear hA hB hC h h1 hf2 hC2 hA2 hB2 hC3 hL hF2 h2 hb1
  go_enter Tryd.func10, Tryd.ntmps10
  go_wp2_with fail
  refine HL.out.mono ?_
  rintro e w3 ⟨rfl, hl3, hf3⟩
  clear hW1 hW2 a0 g0 g1 g2 g3 g4 f0 f1 f2 f3 f4 b0 b4
  have hC4 := HC3.out.past hf3 (by omega) (by simp)
  have hB4 := HB2.out.past hf3 (by omega) (by simp)
  have hF3 := HF2.out.trans hf3 (Stays.refl _ _)
  have e1 := hC4.cell 1
  have e2 := hC4.frozen 1
  simp at e1
  obtain ⟨w4, hW4⟩ : ∃ W, w3.setCell ⟨w.heap.size + 2, 1, none⟩ (.int .u64 1) = W := ⟨_, rfl⟩
  have hC5 : Blk w4 (w.heap.size + 2) 31 #[.int .u8 (k : Int), .int .u64 1, .int .i64 0, .string noS, .int .u64 0] := by rw [← hW4]; simpa using hC4.set_ 1 (.int .u64 1)
  have hB5 : Blk w4 (w.heap.size + 1) 31 #[.int .u8 0, .int .u64 0, .int .i64 0, .string noS, .int .u64 0] := by rw [← hW4]; exact hB4.far (by simp) _
  have hl4 := hl3.past (by rw [← hW4]; exact (Far.refl w3 (w.heap.size + 2) none).set 1 _ : Far w3 w4 (w.heap.size + 2) none) (by omega) (by simp) (by omega) (by simp)
  have hF4 : Far w w4 b none := by rw [← hW4]; exact hF3.setNew (by omega) 1 _
  have d0 := hC5.cell 0
  have d1 := hC5.cell 1
  have d2 := hC5.cell 2
  have d3 := hC5.cell 3
  have d4 := hC5.cell 4
  have g0 := hB5.cell 0
  have g1 := hB5.cell 1
  have g2 := hB5.cell 2
  have g3 := hB5.cell 3
  have g4 := hB5.cell 4
  have f0 := hB5.frozen 0
  have f1 := hB5.frozen 1
  have f2 := hB5.frozen 2
  have f3 := hB5.frozen 3
  have f4 := hB5.frozen 4
  simp at d0 d1 d2 d3 d4 g0 g1 g2 g3 g4
  obtain ⟨s0, s1, s2, s3, s4⟩ := set5 hB5 (.int .u8 (k : Int)) (.int .u64 1) (.int .i64 0) (.string noS) (.int .u64 0)
  have HLN := Lib.hid (hl4.past ((((((Far.refl w4 (w.heap.size + 1) none).set 0 _).set 1 _).set 2 _).set 3 _).set 4 _ : Far w4 (((((w4.setCell ⟨w.heap.size + 1, 0, none⟩ (.int .u8 (k : Int))).setCell ⟨w.heap.size + 1, 1, none⟩ (.int .u64 1)).setCell ⟨w.heap.size + 1, 2, none⟩ (.int .i64 0)).setCell ⟨w.heap.size + 1, 3, none⟩ (.string noS)).setCell ⟨w.heap.size + 1, 4, none⟩ (.int .u64 0)) (w.heap.size + 1) none) (by omega) (by simp) (by omega) (by simp))
  have HFN := Lib.hid (((((hF4.setNew (by omega) 0 _).setNew (by omega) 1 _).setNew (by omega) 2 _).setNew (by omega) 3 _).setNew (by omega) 4 _ : Far w (((((w4.setCell ⟨w.heap.size + 1, 0, none⟩ (.int .u8 (k : Int))).setCell ⟨w.heap.size + 1, 1, none⟩ (.int .u64 1)).setCell ⟨w.heap.size + 1, 2, none⟩ (.int .i64 0)).setCell ⟨w.heap.size + 1, 3, none⟩ (.string noS)).setCell ⟨w.heap.size + 1, 4, none⟩ (.int .u64 0)) b none)
  clear hC4 hB4 hF3 hC5 hB5 hl3 hf3 hl4 hF4
  go_wp2_with fail
  exact bodyPost_ret (v := .agg #[.int .u8 (k : Int), .int .u64 1, .int .i64 0, .string noS, .int .u64 0]) (by simp [results, Tryd.results10, go_sem, s0, s1, s2, s3, s4, Result.andThen]) rfl ⟨rfl, HLN.out, HFN.out⟩
set_option maxRecDepth 20000 in
set_option maxHeartbeats 1000000 in
theorem take_k2f (k u m : Nat) (i : Int) (s : ByteArray) (hk : k < 256) (hm : m < 18446744073709551616) (hk0 : (k : Int) % 4 = 2) (st : Option (List UInt8)) (w : World) (h : Ln w b g st) (hg : g < w.heap.size) (hfl : (uV 1 st == 1) = false) :
    Calls Tryd.prog 10 #[.pointer (some ⟨b, 0, none⟩), .agg #[.int .u8 (k : Int), .int .u64 (u : Int), .int .i64 i, .string s, .int .u64 (m : Int)]] w fun e w' => e = .returned (.agg #[.int .u8 (k : Int), .int .u64 0, .int .i64 0, .string noS, .int .u64 0]) ∧ Ln w' b g (uS 1 st) ∧ Far w w' b none := by
  obtain ⟨W1, hW1⟩ : ∃ W, ((w.alloc (.cells #[.int .u8 (k : Int), .int .u64 (u : Int), .int .i64 i, .string s, .int .u64 (m : Int)] 31)).alloc (.cells #[.int .u8 0, .int .u64 0, .int .i64 0, .string noS, .int .u64 0] 31)).alloc (.cells #[.int .u8 0, .int .u64 0, .int .i64 0, .string noS, .int .u64 0] 31) = W := ⟨_, rfl⟩
  obtain ⟨hb1, hA, hB, hC⟩ := three_vals hW1
  have hblt := h.lt
  have h1 := h.below hb1
  have hf2 : Far W1 (((((W1.setCell ⟨w.heap.size + 2, 0, none⟩ (.int .u8 (k : Int))).setCell ⟨w.heap.size + 2, 1, none⟩ (.int .u64 0)).setCell ⟨w.heap.size + 2, 2, none⟩ (.int .i64 0)).setCell ⟨w.heap.size + 2, 3, none⟩ (.string noS)).setCell ⟨w.heap.size + 2, 4, none⟩ (.int .u64 0)) (w.heap.size + 2) none := (((((Far.refl W1 _ none).set 0 _).set 1 _).set 2 _).set 3 _).set 4 _
  have hF2 : Far w (((((W1.setCell ⟨w.heap.size + 2, 0, none⟩ (.int .u8 (k : Int))).setCell ⟨w.heap.size + 2, 1, none⟩ (.int .u64 0)).setCell ⟨w.heap.size + 2, 2, none⟩ (.int .i64 0)).setCell ⟨w.heap.size + 2, 3, none⟩ (.string noS)).setCell ⟨w.heap.size + 2, 4, none⟩ (.int .u64 0)) b none := (((((Far.of_below hb1 : Far w W1 b none).setNew (by omega) 0 _).setNew (by omega) 1 _).setNew (by omega) 2 _).setNew (by omega) 3 _).setNew (by omega) 4 _
  have hC2 := ((((hC.set_ 0 (.int .u8 (k : Int))).set_ 1 (.int .u64 0)).set_ 2 (.int .i64 0)).set_ 3 (.string noS)).set_ 4 (.int .u64 0)
  obtain ⟨W2, hW2⟩ : ∃ W, (((((W1.setCell ⟨w.heap.size + 2, 0, none⟩ (.int .u8 (k : Int))).setCell ⟨w.heap.size + 2, 1, none⟩ (.int .u64 0)).setCell ⟨w.heap.size + 2, 2, none⟩ (.int .i64 0)).setCell ⟨w.heap.size + 2, 3, none⟩ (.string noS)).setCell ⟨w.heap.size + 2, 4, none⟩ (.int .u64 0)) = W := ⟨_, rfl⟩
  rw [hW2] at hf2 hC2 hF2
  have hC3 : Blk W2 (w.heap.size + 2) 31 #[.int .u8 (k : Int), .int .u64 0, .int .i64 0, .string noS, .int .u64 0] := by simpa using hC2
  have h2 := h1.past hf2 (by omega) (by simp) (by omega) (by simp)
  have hA2 := hA.past hf2 (by omega) (by simp)
  have hB2 := hB.past hf2 (by omega) (by simp)
  have hL := LFlag_any b g st W2 h2
  unfold FtPost at hL
  rw [hfl] at hL
  have HL := Lib.hid hL
  have a0 := hA.cell 0
  have g0 := hC.cell 0
  have g1 := hC.cell 1
  have g2 := hC.cell 2
  have g3 := hC.cell 3
  have g4 := hC.cell 4
  have f0 := hC.frozen 0
  have f1 := hC.frozen 1
  have f2 := hC.frozen 2
  have f3 := hC.frozen 3
  have f4 := hC.frozen 4
  have b0 := hA2.cell 0
  have b4 := hA2.cell 4
  simp at a0 g0 g1 g2 g3 g4 b0 b4
  have HB2 := Lib.hid hB2
  have HC3 := Lib.hid hC3
  have HF2 := Lib.hid hF2
  clear hA hB hC h h1 hf2 hC2 hA2 hB2 hC3 hL hF2 h2 hb1
  go_enter Tryd.func10, Tryd.ntmps10
  go_wp2_with fail
  refine HL.out.mono ?_
  rintro e w4 ⟨rfl, hl3, hf3⟩
  clear hW1 hW2 a0 g0 g1 g2 g3 g4 f0 f1 f2 f3 f4 b0 b4
  have hC4 := HC3.out.past hf3 (by omega) (by simp)
  have hB4 := HB2.out.past hf3 (by omega) (by simp)
  have hF3 := HF2.out.trans hf3 (Stays.refl _ _)
  have hC5 : Blk w4 (w.heap.size + 2) 31 #[.int .u8 (k : Int), .int .u64 0, .int .i64 0, .string noS, .int .u64 0] := hC4
  have hB5 : Blk w4 (w.heap.size + 1) 31 #[.int .u8 0, .int .u64 0, .int .i64 0, .string noS, .int .u64 0] := hB4
  have hl4 := hl3
  have hF4 := hF3
  have d0 := hC5.cell 0
  have d1 := hC5.cell 1
  have d2 := hC5.cell 2
  have d3 := hC5.cell 3
  have d4 := hC5.cell 4
  have g0 := hB5.cell 0
  have g1 := hB5.cell 1
  have g2 := hB5.cell 2
  have g3 := hB5.cell 3
  have g4 := hB5.cell 4
  have f0 := hB5.frozen 0
  have f1 := hB5.frozen 1
  have f2 := hB5.frozen 2
  have f3 := hB5.frozen 3
  have f4 := hB5.frozen 4
  simp at d0 d1 d2 d3 d4 g0 g1 g2 g3 g4
  obtain ⟨s0, s1, s2, s3, s4⟩ := set5 hB5 (.int .u8 (k : Int)) (.int .u64 0) (.int .i64 0) (.string noS) (.int .u64 0)
  have HLN := Lib.hid (hl4.past ((((((Far.refl w4 (w.heap.size + 1) none).set 0 _).set 1 _).set 2 _).set 3 _).set 4 _ : Far w4 (((((w4.setCell ⟨w.heap.size + 1, 0, none⟩ (.int .u8 (k : Int))).setCell ⟨w.heap.size + 1, 1, none⟩ (.int .u64 0)).setCell ⟨w.heap.size + 1, 2, none⟩ (.int .i64 0)).setCell ⟨w.heap.size + 1, 3, none⟩ (.string noS)).setCell ⟨w.heap.size + 1, 4, none⟩ (.int .u64 0)) (w.heap.size + 1) none) (by omega) (by simp) (by omega) (by simp))
  have HFN := Lib.hid (((((hF4.setNew (by omega) 0 _).setNew (by omega) 1 _).setNew (by omega) 2 _).setNew (by omega) 3 _).setNew (by omega) 4 _ : Far w (((((w4.setCell ⟨w.heap.size + 1, 0, none⟩ (.int .u8 (k : Int))).setCell ⟨w.heap.size + 1, 1, none⟩ (.int .u64 0)).setCell ⟨w.heap.size + 1, 2, none⟩ (.int .i64 0)).setCell ⟨w.heap.size + 1, 3, none⟩ (.string noS)).setCell ⟨w.heap.size + 1, 4, none⟩ (.int .u64 0)) b none)
  clear hC4 hB4 hF3 hC5 hB5 hl3 hf3 hl4 hF4
  go_wp2_with fail
  exact bodyPost_ret (v := .agg #[.int .u8 (k : Int), .int .u64 0, .int .i64 0, .string noS, .int .u64 0]) (by simp [results, Tryd.results10, go_sem, s0, s1, s2, s3, s4, Result.andThen]) rfl ⟨rfl, HLN.out, HFN.out⟩
end
end Go.Proofs.YtbfekonlgbolcabDoor
