/-
  The ledger's keys, and how it lies in memory. No condition.
-/
import Derived.Test.YtabiaeicejgeiaaGreatDoorChH
import Derived.Test.YtabiaeicejgeiaaGreatDoorShutA
import Derived.Test.YtabiaeicejgeiaaGreatDoorMapF
import Derived.Test.YtabiaeicejgeiaaGreatDoorLdM
import Derived.DeepKeys4
namespace Go.Proofs.YtabiaeicejgeiaaGreatDoor
open Go.ChangeShapes Go.WideShapes Go.ChangeAt Go.RowKit Go.Maps Go.WideMaps

theorem Ky.v_inj (x y : Ky) (h : x.v = y.v) : x = y := by
  obtain ⟨a, d, k, s⟩ := x
  obtain ⟨a', d', k', s'⟩ := y
  simp only [Ky.v, Value.agg.injEq] at h
  have h' := congrArg Array.toList h
  simp at h'
  obtain ⟨h1, h2, h3, h4⟩ := h'
  have e1 : a = a' := by omega
  have e3 : k = k' := by omega
  have e4 : s = s' := by omega
  subst e1 h2 e3 e4
  rfl
theorem cellsKey : Tryz.prog.cellsOf 33 = 4 := by kernel_rfl
theorem kyDeep : Keyed Tryz.prog 33 := Keyed.of_law (deep_law_laid laidOut (m := 2) (by omega) (of_decide_eq_true (by kernel_rfl)) (by kernel_rfl) (by rw [Tryz.underlying33]))
theorem kyType : Tryz.prog.keyType 33 = true := by kernel_rfl
set_option maxRecDepth 20000 in
theorem ky_of (y : Ky) (h : y.In) : ∃ l, keyOf Tryz.prog 33 y.v = some l := by
  have hf : y.v.formed Tryz.prog 33 = true := by
    simp [Value.formed, Ky.v, Tryz.underlying33]
    kernel_rfl
  obtain ⟨h1, h2, h3, h4⟩ := h
  have w1 : (Lit.int .u32 (y.a : Int)).wf = true := by
    simp [Lit.wf, IntKind.min, IntKind.max, IntKind.signed, IntKind.bits]
    omega
  have w2 : (Lit.int .i32 y.d).wf = true := by
    simp [Lit.wf, IntKind.min, IntKind.max, IntKind.signed, IntKind.bits]
    omega
  have w3 : (Lit.int .u8 (y.k : Int)).wf = true := by
    simp [Lit.wf, IntKind.min, IntKind.max, IntKind.signed, IntKind.bits]
    omega
  have w4 : (Lit.int .u32 (y.s : Int)).wf = true := by
    simp [Lit.wf, IntKind.min, IntKind.max, IntKind.signed, IntKind.bits]
    omega
  have hs : ∃ n, Tryz.prog.types.size + 1 = n + 2 := ⟨Tryz.prog.types.size - 1, by have : 1 ≤ Tryz.prog.types.size := of_decide_eq_true (by kernel_rfl); omega⟩
  obtain ⟨n, hn⟩ := hs
  have hk : (Tryz.prog.keyLits (n + 2) 33 y.v.cells.toList).isSome = true := by
    simp [Program.keyLits, Ky.v, Value.cells, Tryz.underlying33, Tryz.underlying30, Tryz.underlying31, Tryz.underlying5, cellsKey, cellsU32, cellsDay, cellsU8, w1, w2, w3, w4]
  unfold keyOf
  rw [Tryz.underlying33, hn]
  simp only [kyType, hf, Bool.and_self, if_true]
  cases e : Tryz.prog.keyLits (n + 2) 33 y.v.cells.toList with
  | none => rw [e] at hk; cases hk
  | some ls => exact ⟨_, rfl⟩
theorem keyKy : KeyE Tryz.prog 33 Ky.In Ky.v := ⟨kyDeep, ky_of, Ky.v_inj⟩
def u32In (a : Nat) : Prop := a < 4294967296
def u32E (a : Nat) : Value := .int .u32 (a : Int)
theorem keyU32 : KeyE Tryz.prog 30 u32In u32E := ⟨int_keyed Tryz.underlying30, fun a h => ⟨_, keyOf_int_mk Tryz.underlying30 (by
  simp [Lit.wf, IntKind.min, IntKind.max, IntKind.signed, IntKind.bits]
  unfold u32In at h
  omega)⟩, fun x y h => by
  simp [u32E] at h
  omega⟩
/-- A line's row: its key, where its legs lie, of what it is the reversal. -/
structure LinV where
  y : Ky
  A : Option Addr
  n : Nat
  c : Nat
  o : Nat
def linC (d : LinV) : List Value := [.int .u32 (d.y.a : Int), .int .i32 d.y.d, .int .u8 (d.y.k : Int), .int .u32 (d.y.s : Int), .slice d.A d.n d.c, .int .i64 (d.o : Int)]
def linT : Lies LinV := ⟨linC, 6, fun _ => rfl, fun d u hu => by
  simp [linC] at hu
  rcases hu with rfl | rfl | rfl | rfl | rfl | rfl <;> rfl⟩
theorem rowLin : RowOf linT Tryz.prog 81 42 48 := RowOf.of (z := .agg #[.int .u32 0, .int .i32 0, .int .u8 0, .int .u32 0, .slice none 0 0, .int .i64 0]) Tryz.underlying81 (by kernel_rfl) rfl (by decide)
abbrev Li := Lin Ky
/-- Ten sums. -/
def vec (f : Nat → Int) : Array Value := #[.int .i64 (f 0), .int .i64 (f 1), .int .i64 (f 2), .int .i64 (f 3), .int .i64 (f 4), .int .i64 (f 5), .int .i64 (f 6), .int .i64 (f 7), .int .i64 (f 8), .int .i64 (f 9)]
def loanP (a : Nat) (y : Ky) : Bool := y.a == a
def allP (_ : Ky) : Bool := true
def bal (M : List Li) (a c : Nat) : Int := sumB (loanP a) c M
def ctl (M : List Li) (c : Nat) : Int := sumB allP c M
def hasLn (M : List Li) (a : Nat) : Bool := M.any (fun x => x.y.a == a)
def ledC (lv lm bm : Value) (M : List Li) : Array Value := #[lv, lm, bm, .int .i64 (ctl M 0), .int .i64 (ctl M 1), .int .i64 (ctl M 2), .int .i64 (ctl M 3), .int .i64 (ctl M 4), .int .i64 (ctl M 5), .int .i64 (ctl M 6), .int .i64 (ctl M 7), .int .i64 (ctl M 8), .int .i64 (ctl M 9)]
/-- The legs of the lines. -/
structure LegsAt (w : World) (D : Nat → Prop) (M : List Li) (V : List LinV) : Prop where
  len : V.length = M.length
  y : ∀ (i : Nat) v x, V[i]? = some v → M[i]? = some x → v.y = x.y ∧ v.o = x.o ∧ v.n = x.l.length
  r : ∀ (i : Nat) v x, V[i]? = some v → M[i]? = some x → Rs legT w w.heap.size v.A x.l ∧ ∀ p, v.A = some p → D p.block
  t : ∀ (i : Nat) (v : LinV) (p : Addr), V[i]? = some v → v.A = some p → ∃ cs, Blk w p.block 53 cs
/-- Lines that may be. -/
structure Fine (M : List Li) : Prop where
  inn : ∀ x ∈ M, x.y.In ∧ (∀ g ∈ x.l, LegIn g) ∧ Rise x.l ∧ (1 ≤ x.l.length ∧ x.l.length ≤ 8) ∧ ∀ g ∈ x.l, 1 ≤ g.1 ∧ g.1 ≤ 9
  fit : ∀ n c, fitB (ctl (M.take n) c) = true
  fita : ∀ n a c, fitB (bal (M.take n) a c) = true
  of : ∀ (i : Nat) x, M[i]? = some x → 0 < x.o → x.o - 1 < i ∧ ∃ z, M[x.o - 1]? = some z ∧ z.o = 0 ∧ z.y = x.y
  post : ∀ x ∈ M, x.o = 0 → entB x.y x.l = true
def natV (i : Nat) : Value := .int .i64 (i : Int)
/-- The map of live lines. -/
structure LiveAt (w : World) (D : Nat → Prop) (L : Ky → Option Nat) (lm : Option Nat) (inn : Nat → Option Nat) : Prop where
  nil : lm = none → ∀ k, L k = none
  out : ∀ b, lm = some b → D b ∧ MapF w u32In u32E b (fun a => (inn a).map (fun r => .map (some r))) ∧ ∀ a, inn a ≠ some b
  at_ : ∀ a r, inn a = some r → D r ∧ MapF w Ky.In Ky.v r (fun y => if y.a = a then (L y).map natV else none)
  no : ∀ y, inn y.a = none → L y = none
  one : ∀ a a' r, inn a = some r → inn a' = some r → a = a'
structure BalAt (w : World) (D : Nat → Prop) (M : List Li) (bm : Option Nat) : Prop where
  nil : bm = none → M = []
  out : ∀ b, bm = some b → D b ∧ MapF w u32In u32E b (fun a => if hasLn M a then some (.agg (vec (bal M a))) else none)
/-- Block q is a ledger of these lines; its blocks are in D. -/
def LedL (w : World) (q : Nat) (D : Nat → Prop) (M : List Li) (L : Ky → Option Nat) : Prop :=
  ∃ (lv : Value) (V : List LinV) (lm bm : Option Nat) (inn : Nat → Option Nat), Blk w q 87 (ledC lv (.map lm) (.map bm) M) ∧ OwnS linT 42 w 0 lv M.length V ∧
    LegsAt w D M V ∧ LiveAt w D L lm inn ∧ BalAt w D M bm ∧ Fine M ∧ D q ∧ (∀ b, lv.ownBlock = some b → D b) ∧ (∀ i, D i → i < w.heap.size) ∧ (bm = none ↔ lm = none) ∧ (∀ b, bm = some b → lm ≠ some b ∧ ∀ a, inn a ≠ some b)
abbrev Led (w : World) (q : Nat) (D : Nat → Prop) (M : List Li) : Prop := LedL w q D M (liveL M)
end Go.Proofs.YtabiaeicejgeiaaGreatDoor
