/-
  Legs in rows, keys; such among a law's arguments; the law's few. No condition.
-/
import Derived.Test.YtabiaeicejgeiaaGreatDoorRowsG
import Derived.Test.YtabiaeicejgeiaaGreatDoorChM
import Derived.Test.YtabiaeicejgeiaaGreatDoorCoinA
import Derived.Lib.SmallJoins
import Derived.LoopTactic
namespace Go.Proofs.YtabiaeicejgeiaaGreatDoor
open Go.ChangeShapes Go.WideShapes Go.ChangeAt Go.RowKit

theorem b_alloc (w : World) (o : Obj) : Below w.heap.size w (w.alloc o) := (Below.refl _ _).alloc (Nat.le_refl _) _
theorem ret_bool {a b : Bool} (h : a = b) : Ending.returned (.bool a) = .returned (.bool b) := by rw [h]
theorem ret_int {k : IntKind} {a b : Int} (h : a = b) : Ending.returned (.int k a) = .returned (.int k b) := by rw [h]
theorem block_lt_of_cell {w : World} {p : Addr} {v : Value} (h : w.cell? p = some v) : p.block < w.heap.size := World.block_lt_of_cell? w p h
/-- What comes back of a call that only makes memory. -/
def Ret (v : Value) (w : World) (e : Ending) (w' : World) : Prop := e = .returned v ∧ Below w.heap.size w w'
theorem same_ret {f : Nat} {args : Array Value} {v : Value} {w : World} (h : Calls Tryz.prog f args w fun e w' => e = .returned v ∧ w = w') : Calls Tryz.prog f args w (Ret v w) :=
  h.mono fun _ _ ⟨he, hw⟩ => ⟨he, hw ▸ Below.refl _ _⟩
theorem wf_i32 {z : Int} (h : (Lit.int .i32 z).wf = true) : -2147483648 ≤ z ∧ z ≤ 2147483647 := by
  simp only [Lit.wf, IntKind.min, IntKind.max, IntKind.signed, IntKind.bits, Bool.and_eq_true] at h
  simp at h
  omega
/-- An account and an amount. -/
def legT : Lies (Nat × Int) := ⟨fun d => [.int .u8 (d.1 : Int), .int .i64 d.2], 2, fun _ => rfl, fun d u hu => by
  simp only [List.mem_cons, List.not_mem_nil, or_false] at hu
  rcases hu with rfl | rfl <;> rfl⟩
def LegIn (d : Nat × Int) : Prop := d.1 < 256 ∧ -9223372036854775808 ≤ d.2 ∧ d.2 ≤ 9223372036854775807
theorem rowLeg : RowOf legT Tryz.prog 34 53 16 := RowOf.of (z := .agg #[.int .u8 0, .int .i64 0]) Tryz.underlying34 (by kernel_rfl) rfl (by decide)
theorem rowRLeg : RowOf legT Tryz.prog 75 130 16 := RowOf.of (z := .agg #[.int .u8 0, .int .i64 0]) Tryz.underlying75 (by kernel_rfl) rfl (by decide)
section
variable {H : Type} {enc : TypeId × Value → H} {W : World}
theorem cellsLeg : Tryz.prog.cellsOf 53 = 2 := by kernel_rfl
theorem cellsU8 : Tryz.prog.cellsOf 5 = 1 := by kernel_rfl
theorem cellsU32 : Tryz.prog.cellsOf 30 = 1 := by kernel_rfl
theorem cellsDay : Tryz.prog.cellsOf 31 = 1 := by kernel_rfl
theorem cellsCoin : Tryz.prog.cellsOf 51 = 1 := by kernel_rfl
set_option maxRecDepth 20000 in
theorem open_leg {base : Nat} {spare : Nat → Bool} {held : Bool} {n : Nat} {cs : List Value} {x : DataW H × List MemPlace} (h : DataW.trod enc Tryz.prog W base spare held n 53 cs = some x) : ∃ v : Nat × Int, LegIn v ∧ cs = legT.cells v := by
  obtain ⟨xs, n', hn', hy, hlen, hyl, hf⟩ := DataW.trod_struct Tryz.underlying53 h
  rw [cellsLeg] at hlen
  match cs, hlen with
  | [a0, a1], _ =>
    match xs, hyl with
    | [y0, y1], _ =>
      have h0 : DataW.trod enc Tryz.prog W base spare held n' 5 (List.take (Tryz.prog.cellsOf 5) (List.drop 0 [a0, a1])) = some y0 := hf 0 _ rfl
      rw [cellsU8] at h0
      have h1 : DataW.trod enc Tryz.prog W base spare held n' 51 (List.take (Tryz.prog.cellsOf 51) (List.drop 1 [a0, a1])) = some y1 := hf 1 _ rfl
      rw [cellsCoin] at h1
      obtain ⟨z0, e0, _, w0⟩ := DataW.trod_int Tryz.underlying5 (h0 : DataW.trod enc Tryz.prog W base spare held n' 5 [a0] = some y0)
      obtain ⟨z1, e1, _, w1⟩ := DataW.trod_int Tryz.underlying51 (h1 : DataW.trod enc Tryz.prog W base spare held n' 51 [a1] = some y1)
      obtain ⟨k, rfl, hk⟩ := wf_u8 w0
      obtain rfl := List.head_eq_of_cons_eq e0
      obtain rfl := List.head_eq_of_cons_eq e1
      exact ⟨(k, z1), ⟨hk, wf_i64 w1⟩, rfl⟩
set_option maxRecDepth 20000 in
theorem open_legs {b0 : Nat} {v : Value} {d : DataW H} {p : List MemPlace} (hval : Value.okWide Tryz.prog W .any b0 34 v) (h : DataW.Trod enc Tryz.prog W 0 (fun _ => true) true 34 v d p) (hlt : ∀ x ∈ p, x.block < W.heap.size) :
    ∃ (A : Option Addr) (n c : Nat) (l : List (Nat × Int)), v = .slice A n c ∧ l.length = n ∧ n ≤ c ∧ c ≤ maxLen ∧ Rs legT W W.heap.size A l ∧ (∀ u ∈ l, LegIn u) :=
  open_S Tryz.underlying34 cellsLeg (by decide) (fun h => open_leg h) hval h hlt
/-- A key's cells, and its value. -/
structure Ky where
  a : Nat
  d : Int
  k : Nat
  s : Nat
deriving DecidableEq
structure Ky.In (y : Ky) : Prop where
  a : y.a < 4294967296
  d : -2147483648 ≤ y.d ∧ y.d ≤ 2147483647
  k : y.k < 256
  s : y.s < 4294967296
def Ky.v (y : Ky) : Value := .agg #[.int .u32 (y.a : Int), .int .i32 y.d, .int .u8 (y.k : Int), .int .u32 (y.s : Int)]
set_option maxRecDepth 20000 in
theorem open_key {b0 : Nat} {v : Value} {d : DataW H} {p : List MemPlace} (hval : Value.okWide Tryz.prog W .any b0 33 v) (h : DataW.Trod enc Tryz.prog W 0 (fun _ => true) true 33 v d p) :
    ∃ y : Ky, v = y.v ∧ y.In := by
  obtain ⟨e0, e1, e2, e3, x0, x1, x2, x3, fu, rfl, rfl, rfl, g0, g1, g2, g3⟩ := Go.Joins.open_agg4 Tryz.underlying33 (by kernel_rfl) (by kernel_rfl) hval h
  obtain ⟨z0, k0, _, w0⟩ := DataW.trod_int Tryz.underlying30 g0
  obtain ⟨z1, k1, _, w1⟩ := DataW.trod_int Tryz.underlying31 g1
  obtain ⟨z2, k2, _, w2⟩ := DataW.trod_int Tryz.underlying5 g2
  obtain ⟨z3, k3, _, w3⟩ := DataW.trod_int Tryz.underlying30 g3
  obtain rfl := List.head_eq_of_cons_eq k0
  obtain rfl := List.head_eq_of_cons_eq k1
  obtain rfl := List.head_eq_of_cons_eq k2
  obtain rfl := List.head_eq_of_cons_eq k3
  obtain ⟨a, rfl, ha⟩ := wf_u32 w0
  obtain ⟨k, rfl, hk⟩ := wf_u8 w2
  obtain ⟨s, rfl, hs⟩ := wf_u32 w3
  exact ⟨⟨a, z1, k, s⟩, rfl, ⟨ha, wf_i32 w1, hk, hs⟩⟩
end
/-- Leg k of the rows, cell by cell. -/
theorem Rs.leg {w : World} {B : Nat} {A : Option Addr} {l : List (Nat × Int)} {k : Nat} (h : Rs legT w B A l) (hk : k < l.length) : ∃ b o, A = some ⟨b, o, none⟩ ∧ b < B ∧ w.cell? ⟨b, o + k * 2, none⟩ = some (.int .u8 ((l[k]'hk).1 : Int)) ∧ w.cell? ⟨b, o + k * 2 + 1, none⟩ = some (.int .i64 (l[k]'hk).2) := by
  obtain ⟨b, o, e, hb, hc⟩ := h.at_ hk
  exact ⟨b, o, e, hb, hc 0 _ rfl, hc 1 _ rfl⟩
/-- Legs: a slice that reads as these; not nil if there are any. -/
def LegsPost (w : World) (l : List (Nat × Int)) (e : Ending) (w' : World) : Prop :=
  ∃ (A : Option Addr) (c : Nat), e = .returned (.slice A l.length c) ∧ l.length ≤ c ∧ c ≤ maxLen ∧ OwnS legT 53 w' w.heap.size (.slice A l.length c) l.length l ∧ Below w.heap.size w w'
end Go.Proofs.YtabiaeicejgeiaaGreatDoor
