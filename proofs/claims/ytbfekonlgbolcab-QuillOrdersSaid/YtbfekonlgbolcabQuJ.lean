/-
  Rows of values: what they read as, what is appended; one among a law's arguments, opened; the law's few. No condition.
-/
import Derived.Test.YtbfekonlgbolcabQuI
import Derived.Test.YtbfekonlgbolcabShutA
import Derived.Laws.AppendOwnNone
import Derived.Deep.Slices
namespace Go.Proofs.Ytbfekonlgbolcab
open Go.ChangeShapes Go.WideShapes Go.ChangeAt Go.RowKit

/-- A slice of values. -/
def Rvs (w : World) (B : Nat) (A : Option Addr) (l : List Val) : Prop :=
  0 < l.length → ∃ b o, A = some ⟨b, o, none⟩ ∧ b < B ∧ ∀ (j : Nat) v, l[j]? = some v → ∀ (i : Nat) x, v.cells[i]? = some x → w.cell? ⟨b, o + (j * 5 + i), none⟩ = some x
theorem Rvs.at_ {w : World} {B : Nat} {A : Option Addr} {l : List Val} {k : Nat} (h : Rvs w B A l) (hk : k < l.length) : ∃ b o, A = some ⟨b, o, none⟩ ∧ b < B ∧
    w.cell? ⟨b, o + (k * 5 + 0), none⟩ = some (.int .u8 ((l[k]'hk).k : Int)) ∧ w.cell? ⟨b, o + (k * 5 + 1), none⟩ = some (.int .u64 ((l[k]'hk).u : Int)) ∧ w.cell? ⟨b, o + (k * 5 + 2), none⟩ = some (.int .i64 (l[k]'hk).i) ∧
      w.cell? ⟨b, o + (k * 5 + 3), none⟩ = some (.string (l[k]'hk).s) ∧ w.cell? ⟨b, o + (k * 5 + 4), none⟩ = some (.int .u64 ((l[k]'hk).m : Int)) := by
  obtain ⟨b, o, e, hb, hc⟩ := h (by omega)
  have h1 := hc k _ (List.getElem?_eq_getElem hk)
  exact ⟨b, o, e, hb, h1 0 _ rfl, h1 1 _ rfl, h1 2 _ rfl, h1 3 _ rfl, h1 4 _ rfl⟩
theorem Rvs.below {w w' : World} {B : Nat} {A : Option Addr} {l : List Val} (h : Rvs w B A l) (hb : Below B w w') : Rvs w' B A l := fun hn => by
  obtain ⟨b, o, e, hlt, hc⟩ := h hn
  exact ⟨b, o, e, hlt, fun j v hv i x hx => (hb.cell (p := ⟨b, _, none⟩) hlt).trans (hc j v hv i x hx)⟩
theorem Rvs.more {w : World} {B B' : Nat} {A : Option Addr} {l : List Val} (h : Rvs w B A l) (hB : B ≤ B') : Rvs w B' A l := fun hn => by
  obtain ⟨b, o, e, hlt, hc⟩ := h hn
  exact ⟨b, o, e, by omega, hc⟩

/-- All of their cells, one behind the other. -/
def flatV (l : List Val) : List Value := l.flatMap Val.cells
theorem cells_len (v : Val) : v.cells.length = 5 := rfl
theorem flatV_len (l : List Val) : (flatV l).length = l.length * 5 := by
  induction l with
  | nil => rfl
  | cons v l ih => simp only [flatV, List.flatMap_cons, List.length_append, cells_len, List.length_cons] at ih ⊢; omega
theorem flatV_at (l : List Val) : ∀ (j : Nat) v, l[j]? = some v → ∀ (i : Nat) x, v.cells[i]? = some x → (flatV l)[j * 5 + i]? = some x := by
  induction l with
  | nil => intro j v hv; simp at hv
  | cons a l ih =>
    intro j v hv i x hx
    have hi : i < 5 := by
      rcases Nat.lt_or_ge i 5 with h | h
      · exact h
      · rw [List.getElem?_eq_none (by rw [cells_len]; exact h)] at hx; cases hx
    cases j with
    | zero =>
      simp only [List.getElem?_cons_zero, Option.some.injEq] at hv
      subst hv
      simp only [flatV, List.flatMap_cons]
      rw [List.getElem?_append_left (by rw [cells_len]; omega)]
      simpa using hx
    | succ j =>
      simp only [List.getElem?_cons_succ] at hv
      simp only [flatV, List.flatMap_cons]
      rw [List.getElem?_append_right (by rw [cells_len]; omega), cells_len, show (j + 1) * 5 + i - 5 = j * 5 + i by omega]
      exact ih j v hv i x hx
theorem flatV_one (l : List Val) : ∀ u ∈ flatV l, u.oneCell' = true := by
  intro u hu
  simp only [flatV, List.mem_flatMap] at hu
  obtain ⟨v, _, hu⟩ := hu
  simp only [Val.cells, List.mem_cons, List.not_mem_nil, or_false] at hu
  rcases hu with rfl | rfl | rfl | rfl | rfl <;> rfl
section
variable {H : Type} {enc : TypeId × Value → H} {W : World}
theorem cells8 : Try.prog.cellsOf 5 = 1 := by kernel_rfl
theorem cells64 : Try.prog.cellsOf 22 = 1 := by kernel_rfl
theorem cellsI64 : Try.prog.cellsOf 2 = 1 := by kernel_rfl
theorem cellsStr : Try.prog.cellsOf 9 = 1 := by kernel_rfl
end
end Go.Proofs.Ytbfekonlgbolcab
