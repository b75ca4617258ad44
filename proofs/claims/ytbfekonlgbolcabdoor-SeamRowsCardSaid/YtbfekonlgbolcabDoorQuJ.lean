/-
  Rows of values: what they read as, what is appended; one among a law's arguments, opened; the law's few. No condition.
-/
import Derived.Test.YtbfekonlgbolcabDoorQuI
import Derived.Test.YtbfekonlgbolcabDoorShutA
import Derived.Laws.AppendOwnNone
import Derived.Deep.Slices
namespace Go.Proofs.YtbfekonlgbolcabDoor
open Go.ChangeShapes Go.WideShapes Go.ChangeAt Go.RowKit

/-- A slice of values. -/
def Rvs (w : World) (B : Nat) (A : Option Addr) (l : List Val) : Prop :=
  0 < l.length → ∃ b o, A = some ⟨b, o, none⟩ ∧ b < B ∧ ∀ (j : Nat) v, l[j]? = some v → ∀ (i : Nat) x, v.cells[i]? = some x → w.cell? ⟨b, o + (j * 5 + i), none⟩ = some x
theorem Rvs.at_ {w : World} {B : Nat} {A : Option Addr} {l : List Val} {k : Nat} (h : Rvs w B A l) (hk : k < l.length) : ∃ b o, A = some ⟨b, o, none⟩ ∧ b < B ∧
    w.cell? ⟨b, o + (k * 5 + 0), none⟩ = some (.int .u8 ((l[k]'hk).k : Int)) ∧ w.cell? ⟨b, o + (k * 5 + 1), none⟩ = some (.int .u64 ((l[k]'hk).u : Int)) ∧ w.cell? ⟨b, o + (k * 5 + 2), none⟩ = some (.int .i64 (l[k]'hk).i) ∧
      w.cell? ⟨b, o + (k * 5 + 3), none⟩ = some (.string (l[k]'hk).s) ∧ w.cell? ⟨b, o + (k * 5 + 4), none⟩ = some (.int .u64 ((l[k]'hk).m : Int)) := by
  obtain ⟨b, o, e, hb, hc⟩ := h (by omega)
  have h1 := hc k _ (List.getElem?_eq_getElem hk)
  exact ⟨b, o, e, hb, h1 0 _ rfl, h1 1 _ rfl, h1 2 _ rfl, h1 3 _ rfl, h1 4 _ rfl⟩
theorem Rvs.below {w w' : World} {B : Nat} {A : Option Addr} {l : List Val} (h : Rvs w B A l) (hb : Below B w w') : Rvs w' B A l := fun hn => by
  obtain ⟨b, o, e, hlt, hc⟩ := h hn
  exact ⟨b, o, e, hlt, fun j v hv i x hx => (hb.cell (p := ⟨b, _, none⟩) hlt).trans (hc j v hv i x hx)⟩
theorem Rvs.more {w : World} {B B' : Nat} {A : Option Addr} {l : List Val} (h : Rvs w B A l) (hB : B ≤ B') : Rvs w B' A l := fun hn => by
  obtain ⟨b, o, e, hlt, hc⟩ := h hn
  exact ⟨b, o, e, by omega, hc⟩

/-- All of their cells, one behind the other. -/
def flatV (l : List Val) : List Value := l.flatMap Val.cells
theorem cells_len (v : Val) : v.cells.length = 5 := rfl
theorem flatV_len (l : List Val) : (flatV l).length = l.length * 5 := by
  induction l with
  | nil => rfl
  | cons v l ih => simp only [flatV, List.flatMap_cons, List.length_append, cells_len, List.length_cons] at ih ⊢; omega
theorem flatV_at (l : List Val) : ∀ (j : Nat) v, l[j]? = some v → ∀ (i : Nat) x, v.cells[i]? = some x → (flatV l)[j * 5 + i]? = some x := by
  induction l with
  | nil => intro j v hv; simp at hv
  | cons a l ih =>
    intro j v hv i x hx
    have hi : i < 5 := by
      rcases Nat.lt_or_ge i 5 with h | h
      · exact h
      · rw [List.getElem?_eq_none (by rw [cells_len]; exact h)] at hx; cases hx
    cases j with
    | zero =>
      simp only [List.getElem?_cons_zero, Option.some.injEq] at hv
      subst hv
      simp only [flatV, List.flatMap_cons]
      rw [List.getElem?_append_left (by rw [cells_len]; omega)]
      simpa using hx
    | succ j =>
      simp only [List.getElem?_cons_succ] at hv
      simp only [flatV, List.flatMap_cons]
      rw [List.getElem?_append_right (by rw [cells_len]; omega), cells_len, show (j + 1) * 5 + i - 5 = j * 5 + i by omega]
      exact ih j v hv i x hx
theorem flatV_one (l : List Val) : ∀ u ∈ flatV l, u.oneCell' = true := by
  intro u hu
  simp only [flatV, List.mem_flatMap] at hu
  obtain ⟨v, _, hu⟩ := hu
  simp only [Val.cells, List.mem_cons, List.not_mem_nil, or_false] at hu
  rcases hu with rfl | rfl | rfl | rfl | rfl <;> rfl
theorem infoV : (Tryd.prog.info? 31).map (fun i => (i.zero, i.size, i.bytes)) = some (some (.agg #[.int .u8 0, .int .u64 0, .int .i64 0, .string noS, .int .u64 0]), 5, 48) := by kernel_rfl
def OwnV (w : World) (base : Nat) (v : Value) (n : Nat) (l : List Val) : Prop := w.ownsRow base 31 5 v n (flatV l)
theorem OwnV.alloc {w : World} {b n : Nat} {v : Value} {l : List Val} (h : OwnV w b v n l) (o : Obj) : OwnV (w.alloc o) b v n l := World.ownsRow.alloc h o
theorem wpList_appendV {w : World} {ops : Array Oper} {rest : List Oper} {o : Oper} {a : Act} {Q : Exit → Act → World → Prop} (hgd : o.guard = Option.none) (s x : Operand)
    (ho : o.op = .call { callee := .builtin .append, args := #[s, x], argTypes := #[23, 23] })
    (base : Nat) (v : Value) (n : Nat) (l : List Val) (hs : a.eval s = v) (hown : OwnV w base v n l)
    (b : Nat) (u : Val) (hx : a.eval x = .slice (some ⟨b, 0, none⟩) 1 1) (hR : ∀ (i : Nat) y, u.cells[i]? = some y → w.cell? ⟨b, i, none⟩ = some y) (hsz : n ≤ 1000) (hbase : base ≤ w.heap.size)
    (h : ∀ v' w', OwnV w' base v' (n + 1) (l ++ [u]) → w.grownBy w' v.ownBlock → wpList Tryd.prog ops Q rest (a.put o.dst v') w') : wpList Tryd.prog ops Q (o :: rest) a w := by
  refine wpList_plain hgd fun _ hK => ?_
  obtain ⟨i0, hi, hz0, hz1, hz2⟩ := info_parts infoV
  obtain ⟨v', w', hr, h2, h3, _⟩ := run_append_own (P := Tryd.prog) w base 23 o.type 31 i0 (.agg #[.int .u8 0, .int .u64 0, .int .i64 0, .string noS, .int .u64 0]) 5 48 Tryd.underlying23 hi hz0 hz1 hz2 rfl (by decide) v n (flatV l) hown
      ⟨b, 0, none⟩ 1 1 u.cells rfl (fun j y hy => by simpa [go_sem] using hR j y hy) (fun y hy => flatV_one [u] y (by simpa [flatV] using hy)) (by unfold maxLen; omega) (by omega) hbase
  unfold Oper.wp execOp
  simp only [ho, resolve, invoke, builtin, Sem.run_bind, Sem.run_pure, Result.andThen_ok, List.map_toArray, List.map_cons, List.map_nil, hs, hx, hr]
  refine hK _ _ (h v' w' ?_ h3)
  unfold OwnV
  rw [show flatV (l ++ [u]) = flatV l ++ u.cells by simp [flatV]]
  exact h2
theorem own_formV {w : World} {base : Nat} {v : Value} {n : Nat} {l : List Val} (h : OwnV w base v n l) :
    l.length = n ∧ ∃ A c, v = .slice A n c ∧ n ≤ c ∧ c ≤ maxLen ∧ Rvs w w.heap.size A l := by
  have hl : l.length = n := by have := h.1; rw [flatV_len] at this; omega
  refine ⟨hl, ?_⟩
  unfold OwnV at h
  rcases h.2 with ⟨rfl, rfl⟩ | ⟨g, cap, cur, rfl, _, hg, hnc, hcm, _⟩
  · exact ⟨_, _, rfl, Nat.le_refl _, by decide, fun hn => by omega⟩
  · refine ⟨_, _, rfl, hnc, hcm, fun _ => ⟨g, 0, rfl, (Array.getElem?_eq_some_iff.1 hg).1, fun j v hv i x hx => ?_⟩⟩
    have := World.ownsRow.cells h (g := g) rfl (j * 5 + i) x (flatV_at l j v hv i x hx)
    simpa [go_sem] using this

section
variable {H : Type} {enc : TypeId × Value → H} {W : World}
theorem cellsV : Tryd.prog.cellsOf 31 = 5 := by kernel_rfl
theorem bytesV : Tryd.prog.bytesOf 31 = 48 := by kernel_rfl
theorem cells8 : Tryd.prog.cellsOf 5 = 1 := by kernel_rfl
theorem cells64 : Tryd.prog.cellsOf 29 = 1 := by kernel_rfl
theorem cellsI64 : Tryd.prog.cellsOf 2 = 1 := by kernel_rfl
theorem cellsStr : Tryd.prog.cellsOf 9 = 1 := by kernel_rfl
/-- What comes in: its numbers fit their kinds. -/
structure Val.In (v : Val) : Prop where
  k : v.k < 256
  u : v.u < 18446744073709551616
  i : -9223372036854775808 ≤ v.i ∧ v.i ≤ 9223372036854775807
  s : v.s.size ≤ maxLen
  m : v.m < 18446744073709551616
set_option maxRecDepth 20000 in
theorem open_val {w : World} {base : Nat} {spare : Nat → Bool} {held : Bool} {n : Nat} {cs : List Value} {x : DataW H × List MemPlace} (h : DataW.trod enc Tryd.prog w base spare held n 31 cs = some x) : ∃ v : Val, v.In ∧ cs = v.cells := by
  obtain ⟨xs, n', hn', hy, hlen, hyl, hf⟩ := DataW.trod_struct Tryd.underlying31 h
  rw [cellsV] at hlen
  match cs, hlen with
  | [a0, a1, a2, a3, a4], _ =>
    match xs, hyl with
    | [y0, y1, y2, y3, y4], _ =>
      have h0 : DataW.trod enc Tryd.prog w base spare held n' 5 (List.take (Tryd.prog.cellsOf 5) (List.drop 0 [a0, a1, a2, a3, a4])) = some y0 := hf 0 _ rfl
      rw [cells8] at h0
      have h1 : DataW.trod enc Tryd.prog w base spare held n' 29 (List.take (Tryd.prog.cellsOf 29) (List.drop 1 [a0, a1, a2, a3, a4])) = some y1 := hf 1 _ rfl
      rw [cells64] at h1
      have h2 : DataW.trod enc Tryd.prog w base spare held n' 2 (List.take (Tryd.prog.cellsOf 2) (List.drop 2 [a0, a1, a2, a3, a4])) = some y2 := hf 2 _ rfl
      rw [cellsI64] at h2
      have h3 : DataW.trod enc Tryd.prog w base spare held n' 9 (List.take (Tryd.prog.cellsOf 9) (List.drop 3 [a0, a1, a2, a3, a4])) = some y3 := hf 3 _ rfl
      rw [cellsStr] at h3
      have h4 : DataW.trod enc Tryd.prog w base spare held n' 29 (List.take (Tryd.prog.cellsOf 29) (List.drop 4 [a0, a1, a2, a3, a4])) = some y4 := hf 4 _ rfl
      rw [cells64] at h4
      obtain ⟨z0, e0, _, w0⟩ := DataW.trod_int Tryd.underlying5 (h0 : DataW.trod enc Tryd.prog w base spare held n' 5 [a0] = some y0)
      obtain ⟨z1, e1, _, w1⟩ := DataW.trod_int Tryd.underlying29 (h1 : DataW.trod enc Tryd.prog w base spare held n' 29 [a1] = some y1)
      obtain ⟨z2, e2, _, w2⟩ := DataW.trod_int Tryd.underlying2 (h2 : DataW.trod enc Tryd.prog w base spare held n' 2 [a2] = some y2)
      obtain ⟨z3, e3, _, w3⟩ := DataW.trod_string Tryd.underlying9 (h3 : DataW.trod enc Tryd.prog w base spare held n' 9 [a3] = some y3)
      obtain ⟨z4, e4, _, w4⟩ := DataW.trod_int Tryd.underlying29 (h4 : DataW.trod enc Tryd.prog w base spare held n' 29 [a4] = some y4)
      obtain ⟨k, rfl, hk⟩ := wf_u8 w0
      obtain ⟨u, rfl, hu⟩ := wf_u64 w1
      have hi := wf_i64 w2
      obtain ⟨m, rfl, hm⟩ := wf_u64 w4
      obtain rfl := List.head_eq_of_cons_eq e0
      obtain rfl := List.head_eq_of_cons_eq e1
      obtain rfl := List.head_eq_of_cons_eq e2
      obtain rfl := List.head_eq_of_cons_eq e3
      obtain rfl := List.head_eq_of_cons_eq e4
      exact ⟨⟨k, u, z2, z3, m⟩, ⟨hk, hu, hi, w3, hm⟩, rfl⟩
set_option maxRecDepth 20000 in
theorem open_vals {b0 : Nat} {v : Value} {d : DataW H} {p : List MemPlace} (hval : Value.okWide Tryd.prog W .any b0 23 v) (h : DataW.Trod enc Tryd.prog W 0 (fun _ => true) true 23 v d p) (hlt : ∀ x ∈ p, x.block < W.heap.size) :
    ∃ (A : Option Addr) (n c : Nat) (l : List Val), v = .slice A n c ∧ l.length = n ∧ n ≤ c ∧ c ≤ maxLen ∧ Rvs W W.heap.size A l ∧ (∀ u ∈ l, u.In) := by
  obtain ⟨a0, len, cap, rfl⟩ := okWide_slice Tryd.underlying23 hval
  obtain ⟨fuel, hf⟩ := h
  rcases Go.Deep.open_slice Tryd.underlying23 hf with ⟨hcs, hx⟩ | ⟨a, len', cap', m, n, D, Pl, hcs, _, hl, hm, hmm, hx, hi⟩
  · simp [Value.cells] at hcs
    obtain ⟨rfl, rfl, rfl⟩ := hcs
    exact ⟨Option.none, 0, 0, [], rfl, rfl, Nat.le_refl _, Nat.zero_le _, (fun hn => absurd hn (by simp)), (fun u hu => nomatch hu)⟩
  · simp [Value.cells] at hcs
    obtain ⟨rfl, rfl, rfl⟩ := hcs
    simp only [if_true] at hmm
    subst hmm
    simp only [Prod.mk.injEq] at hx
    obtain ⟨_, rfl⟩ := hx
    rw [cellsV] at hi hlt
    have hv : ∀ i, i < m → ∃ v : Val, v.In ∧ ∀ (j : Nat) x, v.cells[j]? = some x → W.cell? (a.add (i * 5 + j)) = some x := by
      intro i him
      obtain ⟨cs', hc, ht⟩ := hi i him
      obtain ⟨v, hin, rfl⟩ := open_val ht
      obtain ⟨_, hcl, hat⟩ := World.cells?_some hc
      refine ⟨v, hin, fun j x hx => ?_⟩
      have hj : j < 5 := by
        rcases Nat.lt_or_ge j 5 with h | h
        · exact h
        · rw [List.getElem?_eq_none (by rw [cells_len]; exact h)] at hx; cases hx
      rw [← Go.Deep.add_add, hat j hj, hx]
    have hl2 : ∀ k, k ≤ len → ∃ l : List Val, l.length = k ∧ (∀ u ∈ l, u.In) ∧ ∀ (j : Nat) v, l[j]? = some v → ∀ (i : Nat) x, v.cells[i]? = some x → W.cell? (a.add (j * 5 + i)) = some x := by
      intro k
      induction k with
      | zero => exact fun _ => ⟨[], rfl, (fun u hu => nomatch hu), (fun j v hv => by simp at hv)⟩
      | succ k ih =>
        intro hk
        obtain ⟨l, h1, h2, h3⟩ := ih (by omega)
        obtain ⟨v, g1, g2⟩ := hv k (by omega)
        refine ⟨l ++ [v], by simp [h1], fun u hu => ?_, fun j u hu => ?_⟩
        · rcases List.mem_append.1 hu with hu | hu
          · exact h2 u hu
          · rw [List.mem_singleton.1 hu]; exact g1
        · rcases Nat.lt_or_ge j k with hj | hj
          · rw [List.getElem?_append_left (by omega)] at hu
            exact h3 j u hu
          · rw [List.getElem?_append_right (by omega), h1] at hu
            have hj2 : j = k := by
              rcases Nat.lt_or_ge k j with h | h
              · rw [List.getElem?_eq_none (by simp; omega)] at hu; cases hu
              · omega
            subst hj2
            simp only [Nat.sub_self, List.getElem?_cons_zero, Option.some.injEq] at hu
            subst hu
            exact g2
    obtain ⟨l, h1, h2, h3⟩ := hl2 len (Nat.le_refl _)
    refine ⟨some a, len, m, l, rfl, h1, hl, hm, fun hn => ?_, h2⟩
    obtain ⟨b, off, spot⟩ := a
    have h0 := h3 0 _ (List.getElem?_eq_getElem (by omega)) 0 _ rfl
    have hspot : spot = Option.none := by simpa [Addr.add] using World.cell?_spot h0
    subst hspot
    refine ⟨b, off, rfl, hlt (.cell b off) (List.mem_append_left _ (MemPlace.mem_row.2 ⟨0, by omega, by simp⟩)), fun j v hv i x hx => ?_⟩
    have := h3 j v hv i x hx
    rwa [add_plain] at this
end
end Go.Proofs.YtbfekonlgbolcabDoor
