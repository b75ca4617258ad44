/-
  Values of the law: lay, take. Conditions: the Quill, the Lens are known, the value's numbers fit their kinds.
-/
import Derived.Test.YtbfekonlgbolcabQuH
namespace Go.Proofs.Ytbfekonlgbolcab
open Go.RowKit

structure Val where
  k : Nat
  u : Nat
  i : Int
  s : ByteArray
  m : Nat
/-- Its numbers fit their kinds; its text is short. -/
structure Val.Ok (v : Val) : Prop where
  k : v.k < 256
  u : v.u < 18446744073709551616
  i : -9223372036854775808 ≤ v.i ∧ v.i ≤ 9223372036854775807
  s : v.s.size ≤ 1000
  m : v.m < 18446744073709551616
def Val.cells (v : Val) : List Value := [.int .u8 (v.k : Int), .int .u64 (v.u : Int), .int .i64 v.i, .string v.s, .int .u64 (v.m : Int)]
def Val.enc (v : Val) : Value := .agg #[.int .u8 (v.k : Int), .int .u64 (v.u : Int), .int .i64 v.i, .string v.s, .int .u64 (v.m : Int)]
def layV (v : Val) : List UInt8 := if v.k % 4 = 0 then layN 0 v.u else if v.k % 4 = 1 then layI v.i else if v.k % 4 = 2 then layF (v.u % 2 == 1) else layT v.s.data.toList
def takeO (st : Option (List UInt8)) (v : Val) : Val :=
  if v.k % 4 = 0 then ⟨v.k, uV v.m st, 0, ⟨#[]⟩, 0⟩ else if v.k % 4 = 1 then ⟨v.k, 0, iV st, ⟨#[]⟩, 0⟩ else if v.k % 4 = 2 then ⟨v.k, if uV 1 st = 1 then 1 else 0, 0, ⟨#[]⟩, 0⟩ else ⟨v.k, 0, 0, tV (v.m % 1000) st, 0⟩
def takeR (st : Option (List UInt8)) (v : Val) : Option (List UInt8) :=
  if v.k % 4 = 0 then uS v.m st else if v.k % 4 = 1 then iS st else if v.k % 4 = 2 then uS 1 st else tS (v.m % 1000) st

section
variable (B q : Nat) (r : Option Nat) (l : List UInt8)
end

theorem set5 {w : World} {g : Nat} {T : TypeId} {a b c d e : Value} (h : Blk w g T #[a, b, c, d, e]) (x y z u v : Value) :
    (w.setCell ⟨g, 0, none⟩ x).cell? ⟨g, 0, none⟩ = some x ∧ ((w.setCell ⟨g, 0, none⟩ x).setCell ⟨g, 1, none⟩ y).cell? ⟨g, 1, none⟩ = some y ∧
      (((w.setCell ⟨g, 0, none⟩ x).setCell ⟨g, 1, none⟩ y).setCell ⟨g, 2, none⟩ z).cell? ⟨g, 2, none⟩ = some z ∧
      ((((w.setCell ⟨g, 0, none⟩ x).setCell ⟨g, 1, none⟩ y).setCell ⟨g, 2, none⟩ z).setCell ⟨g, 3, none⟩ u).cell? ⟨g, 3, none⟩ = some u ∧
      (((((w.setCell ⟨g, 0, none⟩ x).setCell ⟨g, 1, none⟩ y).setCell ⟨g, 2, none⟩ z).setCell ⟨g, 3, none⟩ u).setCell ⟨g, 4, none⟩ v).cell? ⟨g, 4, none⟩ = some v :=
  ⟨(h.set_ 0 x).cell 0, ((h.set_ 0 x).set_ 1 y).cell 1, (((h.set_ 0 x).set_ 1 y).set_ 2 z).cell 2, ((((h.set_ 0 x).set_ 1 y).set_ 2 z).set_ 3 u).cell 3, (((((h.set_ 0 x).set_ 1 y).set_ 2 z).set_ 3 u).set_ 4 v).cell 4⟩

theorem Far.setNew {a w : World} {q p : Nat} {r : Option Nat} (h : Far a w q r) (hp : a.heap.size ≤ p) (i : Nat) (u : Value) : Far a (w.setCell ⟨p, i, none⟩ u) q r :=
  ⟨h.1, h.2.1, h.2.2.1, by simpa [World.setCell] using h.2.2.2.1, fun j hj h1 h2 => (Below.heap_setCell w ⟨p, i, none⟩ u j (fun e => by have e' : j = p := e; omega)).trans (h.2.2.2.2 j hj h1 h2)⟩

section
variable (b g : Nat)
def TOPost (v : Val) (w : World) (st : Option (List UInt8)) (e : Ending) (w' : World) : Prop := e = .returned (takeO st v).enc ∧ Ln w' b g (takeR st v) ∧ Far w w' b none
/-- Three boxes of a call of take. -/
theorem three_vals {w W1 : World} {T : TypeId} {a c d : Array Value} (h : ((w.alloc (.cells a T)).alloc (.cells c T)).alloc (.cells d T) = W1) :
    Below w.heap.size w W1 ∧ Blk W1 w.heap.size T a ∧ Blk W1 (w.heap.size + 1) T c ∧ Blk W1 (w.heap.size + 2) T d := by
  subst h
  have z1 : (w.alloc (.cells a T)).heap.size = w.heap.size + 1 := by simp
  have z2 : ((w.alloc (.cells a T)).alloc (.cells c T)).heap.size = w.heap.size + 2 := by simp
  refine ⟨(((Below.refl _ w).alloc (Nat.le_refl _) _).alloc (by simp) _).alloc (by simp; omega) _, ((Blk.new w _ _).alloc _).alloc _, ?_, ?_⟩
  · rw [← z1]; exact (Blk.new _ _ _).alloc _
  · rw [← z2]; exact Blk.new _ _ _
theorem Far.of_below {w w' : World} {q : Nat} {r : Option Nat} (h : Below w.heap.size w w') : Far w w' q r := ⟨h.os, h.tape, h.output, h.size, fun i hi _ _ => h.block i hi⟩
abbrev noS : ByteArray := ⟨#[]⟩
end
end Go.Proofs.Ytbfekonlgbolcab
