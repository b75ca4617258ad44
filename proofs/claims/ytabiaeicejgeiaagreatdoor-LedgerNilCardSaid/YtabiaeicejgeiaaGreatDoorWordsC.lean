/-
  A row of coins of the call's own: what is appended to it. No condition.
-/
import Derived.Test.YtabiaeicejgeiaaGreatDoorWordsI
namespace Go.Proofs.YtabiaeicejgeiaaGreatDoor
open Go.ChangeShapes Go.WideShapes Go.ChangeAt Go.RowKit

def encC (n : Int) : Value := .int .i64 n
theorem encC_one (l : List Int) : ∀ u ∈ l.map encC, u.oneCell' = true := by
  intro u hu
  obtain ⟨x, _, rfl⟩ := List.mem_map.1 hu
  rfl
theorem infoC : (Tryz.prog.info? 51).map (fun i => (i.zero, i.size, i.bytes)) = some (some (.int .i64 0), 1, 8) := by kernel_rfl
def OwnC (w : World) (base : Nat) (v : Value) (n : Nat) (l : List Int) : Prop := w.ownsRow base 51 1 v n (l.map encC)

theorem appendC_void (w : World) (base : Nat) (ty : TypeId) (v : Value) (n : Nat) (l : List Int) (hown : OwnC w base v n l) (A : Option Addr) (c : Nat) :
    (Builtin.append_ #[183, 183] ty #[v, .slice A 0 c]).run Tryz.prog w = .ok v w := by
  obtain ⟨i0, hi, hz0, hz1, hz2⟩ := info_parts infoC
  unfold OwnC at hown
  cases A <;> rcases hown.2 with ⟨rfl, rfl⟩ | ⟨g, cap, cur, rfl, _, _, hnc, _⟩ <;>
    simp [Builtin.append_, run_underlying Tryz.underlying183, sizeOf, typeInfo, Builtin.lenOf, Builtin.firstCells, storeCells, loadCells, loadCellsFrom, *]
theorem appendC (w : World) (base : Nat) (ty : TypeId) (v : Value) (n : Nat) (l : List Int) (hown : OwnC w base v n l) (B : Nat) (A : Option Addr) (m c : Nat) (news : List Int)
    (hR : Rv w B A (news.map encC)) (hm : news.length = m) (hsz : n + m ≤ 1000) (hbase : base ≤ w.heap.size) :
    ∃ v' w', (Builtin.append_ #[183, 183] ty #[v, .slice A m c]).run Tryz.prog w = .ok v' w' ∧ OwnC w' base v' (n + m) (l ++ news) ∧ w.grownBy w' v.ownBlock := by
  rcases Nat.eq_zero_or_pos m with h0 | h0
  · subst h0
    obtain rfl : news = [] := List.eq_nil_of_length_eq_zero hm
    exact ⟨v, w, appendC_void w base ty v n _ hown A c, by simpa using hown, grown_refl _ _⟩
  · obtain ⟨b, o, rfl, _, hc⟩ := hR (by rw [List.length_map]; omega)
    obtain ⟨i0, hi, hz0, hz1, hz2⟩ := info_parts infoC
    obtain ⟨v', w', hr, h2, h3, _⟩ := run_append_own (P := Tryz.prog) w base 183 ty 51 i0 (.int .i64 0) 1 8 Tryz.underlying183 hi hz0 hz1 hz2 rfl (by decide) v n (l.map encC) hown
      ⟨b, o, none⟩ m c (news.map encC) (by simpa using hm) (fun j u hu => by simpa [go_sem] using hc j u hu) (encC_one news) (by unfold maxLen; omega) (by omega) hbase
    exact ⟨v', w', hr, by unfold OwnC; rw [List.map_append]; exact h2, h3⟩
theorem wpList_appendC {w : World} {ops : Array Oper} {rest : List Oper} {o : Oper} {a : Act} {Q : Exit → Act → World → Prop} (hgd : o.guard = Option.none) (s x : Operand)
    (ho : o.op = .call { callee := .builtin .append, args := #[s, x], argTypes := #[183, 183] })
    (base : Nat) (v : Value) (n : Nat) (l : List Int) (hs : a.eval s = v) (hown : OwnC w base v n l)
    (B : Nat) (A : Option Addr) (m c : Nat) (news : List Int) (hx : a.eval x = .slice A m c) (hR : Rv w B A (news.map encC)) (hm : news.length = m) (hsz : n + m ≤ 1000) (hbase : base ≤ w.heap.size)
    (h : ∀ v' w', OwnC w' base v' (n + m) (l ++ news) → w.grownBy w' v.ownBlock → wpList Tryz.prog ops Q rest (a.put o.dst v') w') : wpList Tryz.prog ops Q (o :: rest) a w := by
  refine wpList_plain hgd fun _ hK => ?_
  obtain ⟨v', w', hr, h2, h3⟩ := appendC w base o.type v n l hown B A m c news hR hm hsz hbase
  unfold Oper.wp execOp
  simp only [ho, resolve, invoke, builtin, Sem.run_bind, Sem.run_pure, Result.andThen_ok, List.map_toArray, List.map_cons, List.map_nil, hs, hx, hr]
  exact hK _ _ (h v' w' h2 h3)
theorem Rv.of_ownC {w : World} {base n c : Nat} {A : Option Addr} {l : List Int} (h : OwnC w base (.slice A n c) n l) : Rv w w.heap.size A (l.map encC) := fun hn => by
  rw [List.length_map] at hn
  have hln : l.length = n := by have := h.1; simpa using this
  obtain ⟨g, cap, hv, _, hlt⟩ := World.ownsRow.form h (by omega)
  have hA : A = some ⟨g, 0, none⟩ := by injection hv
  subst hA
  refine ⟨g, 0, rfl, hlt, fun j u hu => ?_⟩
  have := World.ownsRow.cells h (g := g) rfl j u hu
  simpa [go_sem] using this
theorem own_formC {w : World} {base : Nat} {v : Value} {n : Nat} {l : List Int} (h : OwnC w base v n l) :
    l.length = n ∧ ∃ A c, v = .slice A n c ∧ n ≤ c ∧ c ≤ maxLen ∧ Rv w w.heap.size A (l.map encC) := by
  have hl : l.length = n := by have := h.1; simpa using this
  refine ⟨hl, ?_⟩
  rcases h.2 with ⟨rfl, rfl⟩ | ⟨g, cap, cur, rfl, _, _, hnc, hcm, _⟩
  · exact ⟨_, _, rfl, Nat.le_refl _, by decide, by obtain rfl : l = [] := List.eq_nil_of_length_eq_zero hl; exact Rv.nil_⟩
  · exact ⟨_, _, rfl, hnc, hcm, Rv.of_ownC h⟩

end Go.Proofs.YtabiaeicejgeiaaGreatDoor
