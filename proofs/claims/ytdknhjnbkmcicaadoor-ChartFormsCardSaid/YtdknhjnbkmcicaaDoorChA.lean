/-
  Legs in rows, keys; such among a law's arguments; the law's few. No condition.
-/
import Derived.Test.YtdknhjnbkmcicaaDoorRowsG
import Derived.Test.YtdknhjnbkmcicaaDoorChM
import Derived.Test.YtdknhjnbkmcicaaDoorCoinA
import Derived.Lib.SmallJoins
import Derived.LoopTactic
namespace Go.Proofs.YtdknhjnbkmcicaaDoor
open Go.ChangeShapes Go.WideShapes Go.ChangeAt Go.RowKit

theorem b_alloc (w : World) (o : Obj) : Below w.heap.size w (w.alloc o) := (Below.refl _ _).alloc (Nat.le_refl _) _
theorem ret_bool {a b : Bool} (h : a = b) : Ending.returned (.bool a) = .returned (.bool b) := by rw [h]
theorem ret_int {k : IntKind} {a b : Int} (h : a = b) : Ending.returned (.int k a) = .returned (.int k b) := by rw [h]
theorem block_lt_of_cell {w : World} {p : Addr} {v : Value} (h : w.cell? p = some v) : p.block < w.heap.size := World.block_lt_of_cell? w p h
/-- What comes back of a call that only makes memory. -/
def Ret (v : Value) (w : World) (e : Ending) (w' : World) : Prop := e = .returned v ∧ Below w.heap.size w w'
theorem same_ret {f : Nat} {args : Array Value} {v : Value} {w : World} (h : Calls Tryd.prog f args w fun e w' => e = .returned v ∧ w = w') : Calls Tryd.prog f args w (Ret v w) :=
  h.mono fun e w' ⟨he, hw⟩ => ⟨he, hw ▸ Below.refl _ _⟩
theorem wf_i32 {z : Int} (h : (Lit.int .i32 z).wf = true) : -2147483648 ≤ z ∧ z ≤ 2147483647 := by
  simp only [Lit.wf, IntKind.min, IntKind.max, IntKind.signed, IntKind.bits, Bool.and_eq_true] at h
  simp at h
  omega
/-- An account and an amount. -/
def legT : Lies (Nat × Int) := ⟨fun d => [.int .u8 (d.1 : Int), .int .i64 d.2], 2, fun _ => rfl, fun d u hu => by
  simp only [List.mem_cons, List.not_mem_nil, or_false] at hu
  rcases hu with rfl | rfl <;> rfl⟩
def LegIn (d : Nat × Int) : Prop := d.1 < 256 ∧ -9223372036854775808 ≤ d.2 ∧ d.2 ≤ 9223372036854775807
theorem rowLeg : RowOf legT Tryd.prog 26 56 16 := RowOf.of (z := .agg #[.int .u8 0, .int .i64 0]) Tryd.underlying26 (by kernel_rfl) rfl (by decide)
theorem rowRLeg : RowOf legT Tryd.prog 44 78 16 := RowOf.of (z := .agg #[.int .u8 0, .int .i64 0]) Tryd.underlying44 (by kernel_rfl) rfl (by decide)
section
variable {H : Type} {enc : TypeId × Value → H} {W : World}
theorem cellsLeg : Tryd.prog.cellsOf 56 = 2 := by kernel_rfl
theorem cellsU8 : Tryd.prog.cellsOf 5 = 1 := by kernel_rfl
theorem cellsU32 : Tryd.prog.cellsOf 22 = 1 := by kernel_rfl
theorem cellsDay : Tryd.prog.cellsOf 23 = 1 := by kernel_rfl
theorem cellsCoin : Tryd.prog.cellsOf 54 = 1 := by kernel_rfl
set_option maxRecDepth 20000 in
theorem open_leg {base : Nat} {spare : Nat → Bool} {held : Bool} {n : Nat} {cs : List Value} {x : DataW H × List MemPlace} (h : DataW.trod enc Tryd.prog W base spare held n 56 cs = some x) : ∃ v : Nat × Int, LegIn v ∧ cs = legT.cells v := by
  obtain ⟨xs, n', hn', hy, hlen, hyl, hf⟩ := DataW.trod_struct Tryd.underlying56 h
  rw [cellsLeg] at hlen
  match cs, hlen with
  | [a0, a1], _ =>
    match xs, hyl with
    | [y0, y1], _ =>
      have h0 : DataW.trod enc Tryd.prog W base spare held n' 5 (List.take (Tryd.prog.cellsOf 5) (List.drop 0 [a0, a1])) = some y0 := hf 0 _ rfl
      rw [cellsU8] at h0
      have h1 : DataW.trod enc Tryd.prog W base spare held n' 54 (List.take (Tryd.prog.cellsOf 54) (List.drop 1 [a0, a1])) = some y1 := hf 1 _ rfl
      rw [cellsCoin] at h1
      obtain ⟨z0, e0, _, w0⟩ := DataW.trod_int Tryd.underlying5 (h0 : DataW.trod enc Tryd.prog W base spare held n' 5 [a0] = some y0)
      obtain ⟨z1, e1, _, w1⟩ := DataW.trod_int Tryd.underlying54 (h1 : DataW.trod enc Tryd.prog W base spare held n' 54 [a1] = some y1)
      obtain ⟨k, rfl, hk⟩ := wf_u8 w0
      obtain rfl := List.head_eq_of_cons_eq e0
      obtain rfl := List.head_eq_of_cons_eq e1
      exact ⟨(k, z1), ⟨hk, wf_i64 w1⟩, rfl⟩
set_option maxRecDepth 20000 in
theorem open_legs {b0 : Nat} {v : Value} {d : DataW H} {p : List MemPlace} (hval : Value.okWide Tryd.prog W .any b0 26 v) (h : DataW.Trod enc Tryd.prog W 0 (fun _ => true) true 26 v d p) (hlt : ∀ x ∈ p, x.block < W.heap.size) :
    ∃ (A : Option Addr) (n c : Nat) (l : List (Nat × Int)), v = .slice A n c ∧ l.length = n ∧ n ≤ c ∧ c ≤ maxLen ∧ Rs legT W W.heap.size A l ∧ (∀ u ∈ l, LegIn u) :=
  open_S Tryd.underlying26 cellsLeg (by decide) (fun h => open_leg h) hval h hlt
/-- A key's cells, and its value. -/
structure Ky where
  a : Nat
  d : Int
  k : Nat
  s : Nat
deriving DecidableEq
structure Ky.In (y : Ky) : Prop where
  a : y.a < 4294967296
  d : -2147483648 ≤ y.d ∧ y.d ≤ 2147483647
  k : y.k < 256
  s : y.s < 4294967296
def Ky.v (y : Ky) : Value := .agg #[.int .u32 (y.a : Int), .int .i32 y.d, .int .u8 (y.k : Int), .int .u32 (y.s : Int)]
set_option maxRecDepth 20000 in
theorem open_key {b0 : Nat} {v : Value} {d : DataW H} {p : List MemPlace} (hval : Value.okWide Tryd.prog W .any b0 25 v) (h : DataW.Trod enc Tryd.prog W 0 (fun _ => true) true 25 v d p) :
    ∃ y : Ky, v = y.v ∧ y.In := by
  obtain ⟨e0, e1, e2, e3, x0, x1, x2, x3, fu, rfl, rfl, rfl, g0, g1, g2, g3⟩ := Go.Joins.open_agg4 Tryd.underlying25 (by kernel_rfl) (by kernel_rfl) hval h
  obtain ⟨z0, k0, _, w0⟩ := DataW.trod_int Tryd.underlying22 g0
  obtain ⟨z1, k1, _, w1⟩ := DataW.trod_int Tryd.underlying23 g1
  obtain ⟨z2, k2, _, w2⟩ := DataW.trod_int Tryd.underlying5 g2
  obtain ⟨z3, k3, _, w3⟩ := DataW.trod_int Tryd.underlying22 g3
  obtain rfl := List.head_eq_of_cons_eq k0
  obtain rfl := List.head_eq_of_cons_eq k1
  obtain rfl := List.head_eq_of_cons_eq k2
  obtain rfl := List.head_eq_of_cons_eq k3
  obtain ⟨a, rfl, ha⟩ := wf_u32 w0
  obtain ⟨k, rfl, hk⟩ := wf_u8 w2
  obtain ⟨s, rfl, hs⟩ := wf_u32 w3
  exact ⟨⟨a, z1, k, s⟩, rfl, ⟨ha, wf_i32 w1, hk, hs⟩⟩
end
/-- Leg k of the rows, cell by cell. -/
theorem Rs.leg {w : World} {B : Nat} {A : Option Addr} {l : List (Nat × Int)} {k : Nat} (h : Rs legT w B A l) (hk : k < l.length) : ∃ b o, A = some ⟨b, o, none⟩ ∧ b < B ∧ w.cell? ⟨b, o + k * 2, none⟩ = some (.int .u8 ((l[k]'hk).1 : Int)) ∧ w.cell? ⟨b, o + k * 2 + 1, none⟩ = some (.int .i64 (l[k]'hk).2) := by
  obtain ⟨b, o, e, hb, hc⟩ := h.at_ hk
  exact ⟨b, o, e, hb, hc 0 _ rfl, hc 1 _ rfl⟩
/-- Legs: a slice that reads as these; not nil if there are any. -/
def LegsPost (w : World) (l : List (Nat × Int)) (e : Ending) (w' : World) : Prop :=
  ∃ (A : Option Addr) (c : Nat), e = .returned (.slice A l.length c) ∧ l.length ≤ c ∧ c ≤ maxLen ∧ OwnS legT 56 w' w.heap.size (.slice A l.length c) l.length l ∧ Below w.heap.size w w'
set_option maxRecDepth 20000 in
set_option maxHeartbeats 1000000 in
theorem Few13_any (A : Option Addr) (n c B : Nat) (l : List (Nat × Int)) (w : World) (hR : Rs legT w B A l) (hn : l.length = n) (hnc : n ≤ c) (hm : n ≤ maxLen) (hB : B ≤ w.heap.size) :
    Calls Tryd.prog 7 #[.slice A n c] w (LegsPost w (l.take 12)) := by
  obtain ⟨m, hmn⟩ : ∃ m, min n 12 = m := ⟨_, rfl⟩
  have hl2 : (l.take 12).length = m := by rw [List.length_take, hn]; omega
  have hR2 : Rs legT w B A (l.take 12) := hR.take 12
  obtain ⟨l2, hl2e⟩ : ∃ l2, l.take 12 = l2 := ⟨_, rfl⟩
  rw [hl2e] at hl2 hR2 ⊢
  have hm60 : m ≤ 12 := by omega
  unfold maxLen at hm
  clear hR hl2e hn
  have HR := Lib.hid hR2
  have HL := Lib.hid hl2
  clear hR2 hl2
  have HO0 := Lib.hid (OwnS.made (T := legT) (e := 56) w (cap := 0) (cur := #[]) (b := w.heap.size) (Nat.le_refl _) (by decide) rfl)
  have HB0 := Lib.hid (b_alloc w (.cells #[] 56))
  have HR0 := Lib.hid (HR.out.below ((Below.refl _ _).alloc hB (.cells #[] 56)))
  rcases Nat.lt_or_ge 12 n with h60 | h60
  · obtain rfl : m = 12 := by omega
    have h60c : 12 ≤ c := by omega
    obtain ⟨b0, o0, rfl, _⟩ := HR.out.leg (k := 0) (by rw [HL.out]; omega)
    clear hmn
    go_enter Tryd.func7, Tryd.ntmps7
    go_wp2_with (with_reducible refine wpList_appendS (o := ⟨some 9, _, _, _, _, _⟩) rfl rowLeg (.tmp 3) (.tmp 8) rfl w.heap.size _ 0 [] ?g1 HO0.out B (some ⟨b0, o0, none⟩) 12 c l2 ?g2 HR0.out HL.out ?g3 ?g4 ?g5 ?_)
    try (case g1 => rfl)
    try (case g2 => rfl)
    try (case g3 => unfold maxLen; omega)
    try (case g4 => omega)
    try (case g5 => simp)
    intro v1 w1 ho1 hg1 _ _
    try simp only [Nat.zero_add, List.nil_append] at ho1
    have hb1 : Below w.heap.size w w1 := HB0.out.grown hg1 HB0.out.size (fun g hg => (HO0.out.lt g hg).1)
    obtain ⟨_, A1, c1, rfl, hc1, hm1, _⟩ := ho1.form (by decide)
    have HO1 := Lib.hid ho1
    have HB1 := Lib.hid hb1
    clear ho1 hb1 hg1 HO0 HB0 HR0 HR
    go_wp2_with fail
    go_ret
    exact ⟨A1, c1, by rw [HL.out]; rfl, by rw [HL.out]; exact hc1, hm1, by rw [HL.out]; exact HO1.out, HB1.out⟩
  · obtain rfl : m = n := by omega
    clear hmn
    go_enter Tryd.func7, Tryd.ntmps7
    go_wp2_with (with_reducible refine wpList_appendS (o := ⟨some 9, _, _, _, _, _⟩) rfl rowLeg (.tmp 3) (.tmp 8) rfl w.heap.size _ 0 [] ?h1 HO0.out B A m c l2 ?h2 HR0.out HL.out ?h3 ?h4 ?h5 ?_)
    try (case h1 => rfl)
    try (case h2 => rfl)
    try (case h3 => unfold maxLen; omega)
    try (case h4 => omega)
    try (case h5 => simp)
    intro v1 w1 ho1 hg1 _ _
    try simp only [Nat.zero_add, List.nil_append] at ho1
    have hb1 : Below w.heap.size w w1 := HB0.out.grown hg1 HB0.out.size (fun g hg => (HO0.out.lt g hg).1)
    obtain ⟨_, A1, c1, rfl, hc1, hm1, _⟩ := ho1.form (by decide)
    have HO1 := Lib.hid ho1
    have HB1 := Lib.hid hb1
    clear ho1 hb1 hg1 HO0 HB0 HR0 HR
    go_wp2_with fail
    go_ret
    exact ⟨A1, c1, by rw [HL.out]; rfl, by rw [HL.out]; exact hc1, hm1, by rw [HL.out]; exact HO1.out, HB1.out⟩
end Go.Proofs.YtdknhjnbkmcicaaDoor
