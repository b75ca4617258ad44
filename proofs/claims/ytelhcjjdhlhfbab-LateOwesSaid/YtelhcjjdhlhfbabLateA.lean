/-
  Due days and sums in rows; one such row among a law's arguments. No condition.
-/
import Derived.Test.YtelhcjjdhlhfbabRowsG
import Derived.Test.YtelhcjjdhlhfbabLateM
namespace Go.Proofs.Ytelhcjjdhlhfbab
open Go.ChangeShapes Go.WideShapes Go.ChangeAt Go.RowKit

theorem wf_i32 {z : Int} (h : (Lit.int .i32 z).wf = true) : -2147483648 ≤ z ∧ z ≤ 2147483647 := by
  simp only [Lit.wf, IntKind.min, IntKind.max, IntKind.signed, IntKind.bits, Bool.and_eq_true] at h
  simp at h
  omega
/-- A day and a sum: the code's, and the document's. -/
def dueT : Lies (Int × Int) := ⟨fun d => [.int .i32 d.1, .int .i64 d.2], 2, fun _ => rfl, fun d u hu => by
  simp only [List.mem_cons, List.not_mem_nil, or_false] at hu
  rcases hu with rfl | rfl <;> rfl⟩
def refT : Lies (Int × Int) := ⟨fun d => [.int .i64 d.1, .int .i64 d.2], 2, fun _ => rfl, fun d u hu => by
  simp only [List.mem_cons, List.not_mem_nil, or_false] at hu
  rcases hu with rfl | rfl <;> rfl⟩
def DueIn (d : Int × Int) : Prop := (-2147483648 ≤ d.1 ∧ d.1 ≤ 2147483647) ∧ -9223372036854775808 ≤ d.2 ∧ d.2 ≤ 9223372036854775807
theorem rowDue : RowOf dueT Try.prog 22 32 16 := RowOf.of (z := .agg #[.int .i32 0, .int .i64 0]) Try.underlying22 (by kernel_rfl) rfl (by decide)
theorem rowRef : RowOf refT Try.prog 26 48 16 := RowOf.of (z := .agg #[.int .i64 0, .int .i64 0]) Try.underlying26 (by kernel_rfl) rfl (by decide)
section
variable {H : Type} {enc : TypeId × Value → H} {W : World}
theorem cellsDue : Try.prog.cellsOf 32 = 2 := by kernel_rfl
theorem cellsDay : Try.prog.cellsOf 24 = 1 := by kernel_rfl
theorem cellsCoin : Try.prog.cellsOf 23 = 1 := by kernel_rfl
set_option maxRecDepth 20000 in
theorem open_due {base : Nat} {spare : Nat → Bool} {held : Bool} {n : Nat} {cs : List Value} {x : DataW H × List MemPlace} (h : DataW.trod enc Try.prog W base spare held n 32 cs = some x) : ∃ v : Int × Int, DueIn v ∧ cs = dueT.cells v := by
  obtain ⟨xs, n', hn', hy, hlen, hyl, hf⟩ := DataW.trod_struct Try.underlying32 h
  rw [cellsDue] at hlen
  match cs, hlen with
  | [a0, a1], _ =>
    match xs, hyl with
    | [y0, y1], _ =>
      have h0 : DataW.trod enc Try.prog W base spare held n' 24 (List.take (Try.prog.cellsOf 24) (List.drop 0 [a0, a1])) = some y0 := hf 0 _ rfl
      rw [cellsDay] at h0
      have h1 : DataW.trod enc Try.prog W base spare held n' 23 (List.take (Try.prog.cellsOf 23) (List.drop 1 [a0, a1])) = some y1 := hf 1 _ rfl
      rw [cellsCoin] at h1
      obtain ⟨z0, e0, _, w0⟩ := DataW.trod_int Try.underlying24 (h0 : DataW.trod enc Try.prog W base spare held n' 24 [a0] = some y0)
      obtain ⟨z1, e1, _, w1⟩ := DataW.trod_int Try.underlying23 (h1 : DataW.trod enc Try.prog W base spare held n' 23 [a1] = some y1)
      obtain rfl := List.head_eq_of_cons_eq e0
      obtain rfl := List.head_eq_of_cons_eq e1
      exact ⟨(z0, z1), ⟨wf_i32 w0, wf_i64 w1⟩, rfl⟩
theorem open_dues {b0 : Nat} {v : Value} {d : DataW H} {p : List MemPlace} (hval : Value.okWide Try.prog W .any b0 22 v) (h : DataW.Trod enc Try.prog W 0 (fun _ => true) true 22 v d p) (hlt : ∀ x ∈ p, x.block < W.heap.size) :
    ∃ (A : Option Addr) (n c : Nat) (l : List (Int × Int)), v = .slice A n c ∧ l.length = n ∧ n ≤ c ∧ c ≤ maxLen ∧ Rs dueT W W.heap.size A l ∧ (∀ u ∈ l, DueIn u) :=
  open_S Try.underlying22 cellsDue (by decide) (fun h => open_due h) hval h hlt
end
/-- Element k of the rows, cell by cell. -/
theorem Rs.due {w : World} {B : Nat} {A : Option Addr} {l : List (Int × Int)} {k : Nat} (h : Rs dueT w B A l) (hk : k < l.length) : ∃ b o, A = some ⟨b, o, none⟩ ∧ b < B ∧ w.cell? ⟨b, o + k * 2, none⟩ = some (.int .i32 (l[k]'hk).1) ∧ w.cell? ⟨b, o + k * 2 + 1, none⟩ = some (.int .i64 (l[k]'hk).2) := by
  obtain ⟨b, o, e, hb, hc⟩ := h.at_ hk
  exact ⟨b, o, e, hb, hc 0 _ rfl, hc 1 _ rfl⟩
theorem Rs.ref {w : World} {B : Nat} {A : Option Addr} {l : List (Int × Int)} {k : Nat} (h : Rs refT w B A l) (hk : k < l.length) : ∃ b o, A = some ⟨b, o, none⟩ ∧ b < B ∧ w.cell? ⟨b, o + k * 2, none⟩ = some (.int .i64 (l[k]'hk).1) ∧ w.cell? ⟨b, o + k * 2 + 1, none⟩ = some (.int .i64 (l[k]'hk).2) := by
  obtain ⟨b, o, e, hb, hc⟩ := h.at_ hk
  exact ⟨b, o, e, hb, hc 0 _ rfl, hc 1 _ rfl⟩
end Go.Proofs.Ytelhcjjdhlhfbab
