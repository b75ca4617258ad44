/-
  Rows of whole numbers: what they read as; what is appended to them. No condition.
-/
import Derived.Test.YtkhjmbemjndcoaaGreatDoorShutA
import Derived.Test.YtkhjmbemjndcoaaGreatDoorDoorE
import Derived.Laws.AppendOwnNone
namespace Go.Proofs.YtkhjmbemjndcoaaGreatDoor
open Go.ChangeShapes Go.WideShapes Go.ChangeAt Go.RowKit

/-- A slice that reads as these values, each of one cell. -/
def Rv (w : World) (B : Nat) (A : Option Addr) (l : List Value) : Prop :=
  0 < l.length → ∃ b o, A = some ⟨b, o, none⟩ ∧ b < B ∧ ∀ (j : Nat) u, l[j]? = some u → w.cell? ⟨b, o + j, none⟩ = some u
section
variable {w w' : World} {B B' : Nat} {A : Option Addr} {l : List Value}
theorem Rv.nil_ : Rv w B A [] := fun h => absurd h (by simp)
theorem Rv.at_ {k : Nat} (h : Rv w B A l) (hk : k < l.length) : ∃ b o, A = some ⟨b, o, none⟩ ∧ b < B ∧ w.cell? ⟨b, o + k, none⟩ = some (l[k]'hk) := by
  obtain ⟨b, o, e, hb, hc⟩ := h (by omega)
  exact ⟨b, o, e, hb, hc k _ (List.getElem?_eq_getElem hk)⟩
theorem Rv.keep (h : Rv w B A l) (hk : ∀ p : Addr, p.block < B → w'.cell? p = w.cell? p) : Rv w' B A l := fun hn => by
  obtain ⟨b, o, e, hb, hc⟩ := h hn
  exact ⟨b, o, e, hb, fun j u hu => (hk _ hb).trans (hc j u hu)⟩
theorem Rv.more (h : Rv w B A l) (hB : B ≤ B') : Rv w B' A l := fun hn => by
  obtain ⟨b, o, e, hb, hc⟩ := h hn
  exact ⟨b, o, e, by omega, hc⟩
theorem Rv.below (h : Rv w B A l) (hb : Below B w w') : Rv w' B A l := h.keep fun _ hp => hb.cell hp
theorem Rv.take (h : Rv w B A l) (k : Nat) : Rv w B A (l.take k) := fun hn => by
  obtain ⟨b, o, e, hb, hc⟩ := h (by rw [List.length_take] at hn; omega)
  refine ⟨b, o, e, hb, fun j u hu => hc j u ?_⟩
  rw [List.getElem?_take] at hu
  split at hu
  · exact hu
  · cases hu
end

def encL (n : Int) : Value := .int .i32 n
theorem encL_one (l : List Int) : ∀ u ∈ l.map encL, u.oneCell' = true := by
  intro u hu
  obtain ⟨x, _, rfl⟩ := List.mem_map.1 hu
  rfl
theorem infoL : (Tryz.prog.info? 21).map (fun i => (i.zero, i.size, i.bytes)) = some (some (.int .i32 0), 1, 4) := by kernel_rfl
def OwnL (w : World) (base : Nat) (v : Value) (n : Nat) (l : List Int) : Prop := w.ownsRow base 21 1 v n (l.map encL)

theorem appendL_void (w : World) (base : Nat) (ty : TypeId) (v : Value) (n : Nat) (l : List Int) (hown : OwnL w base v n l) (A : Option Addr) (c : Nat) :
    (Builtin.append_ #[22, 22] ty #[v, .slice A 0 c]).run Tryz.prog w = .ok v w := by
  obtain ⟨i0, hi, hz0, hz1, hz2⟩ := info_parts infoL
  unfold OwnL at hown
  cases A <;> rcases hown.2 with ⟨rfl, rfl⟩ | ⟨g, cap, cur, rfl, _, _, hnc, _⟩ <;>
    simp [Builtin.append_, run_underlying Tryz.underlying22, sizeOf, typeInfo, Builtin.lenOf, Builtin.firstCells, storeCells, loadCells, loadCellsFrom, *]
theorem appendL (w : World) (base : Nat) (ty : TypeId) (v : Value) (n : Nat) (l : List Int) (hown : OwnL w base v n l) (B : Nat) (A : Option Addr) (m c : Nat) (news : List Int)
    (hR : Rv w B A (news.map encL)) (hm : news.length = m) (hsz : n + m ≤ 1000) (hbase : base ≤ w.heap.size) :
    ∃ v' w', (Builtin.append_ #[22, 22] ty #[v, .slice A m c]).run Tryz.prog w = .ok v' w' ∧ OwnL w' base v' (n + m) (l ++ news) ∧ w.grownBy w' v.ownBlock := by
  rcases Nat.eq_zero_or_pos m with h0 | h0
  · subst h0
    obtain rfl : news = [] := List.eq_nil_of_length_eq_zero hm
    exact ⟨v, w, appendL_void w base ty v n _ hown A c, by simpa using hown, grown_refl _ _⟩
  · obtain ⟨b, o, rfl, _, hc⟩ := hR (by rw [List.length_map]; omega)
    obtain ⟨i0, hi, hz0, hz1, hz2⟩ := info_parts infoL
    obtain ⟨v', w', hr, h2, h3, _⟩ := run_append_own (P := Tryz.prog) w base 22 ty 21 i0 (.int .i32 0) 1 4 Tryz.underlying22 hi hz0 hz1 hz2 rfl (by decide) v n (l.map encL) hown
      ⟨b, o, none⟩ m c (news.map encL) (by simpa using hm) (fun j u hu => by simpa [go_sem] using hc j u hu) (encL_one news) (by unfold maxLen; omega) (by omega) hbase
    exact ⟨v', w', hr, by unfold OwnL; rw [List.map_append]; exact h2, h3⟩
theorem wpList_appendL {w : World} {ops : Array Oper} {rest : List Oper} {o : Oper} {a : Act} {Q : Exit → Act → World → Prop} (hgd : o.guard = Option.none) (s x : Operand)
    (ho : o.op = .call { callee := .builtin .append, args := #[s, x], argTypes := #[22, 22] })
    (base : Nat) (v : Value) (n : Nat) (l : List Int) (hs : a.eval s = v) (hown : OwnL w base v n l)
    (B : Nat) (A : Option Addr) (m c : Nat) (news : List Int) (hx : a.eval x = .slice A m c) (hR : Rv w B A (news.map encL)) (hm : news.length = m) (hsz : n + m ≤ 1000) (hbase : base ≤ w.heap.size)
    (h : ∀ v' w', OwnL w' base v' (n + m) (l ++ news) → w.grownBy w' v.ownBlock → wpList Tryz.prog ops Q rest (a.put o.dst v') w') : wpList Tryz.prog ops Q (o :: rest) a w := by
  refine wpList_plain hgd fun _ hK => ?_
  obtain ⟨v', w', hr, h2, h3⟩ := appendL w base o.type v n l hown B A m c news hR hm hsz hbase
  unfold Oper.wp execOp
  simp only [ho, resolve, invoke, builtin, Sem.run_bind, Sem.run_pure, Result.andThen_ok, List.map_toArray, List.map_cons, List.map_nil, hs, hx, hr]
  exact hK _ _ (h v' w' h2 h3)
theorem Rv.of_ownL {w : World} {base n c : Nat} {A : Option Addr} {l : List Int} (h : OwnL w base (.slice A n c) n l) : Rv w w.heap.size A (l.map encL) := fun hn => by
  rw [List.length_map] at hn
  have hln : l.length = n := by have := h.1; simpa using this
  obtain ⟨g, cap, hv, _, hlt⟩ := World.ownsRow.form h (by omega)
  have hA : A = some ⟨g, 0, none⟩ := by injection hv
  subst hA
  refine ⟨g, 0, rfl, hlt, fun j u hu => ?_⟩
  have := World.ownsRow.cells h (g := g) rfl j u hu
  simpa [go_sem] using this
theorem own_formL {w : World} {base : Nat} {v : Value} {n : Nat} {l : List Int} (h : OwnL w base v n l) :
    l.length = n ∧ ∃ A c, v = .slice A n c ∧ n ≤ c ∧ c ≤ maxLen ∧ Rv w w.heap.size A (l.map encL) := by
  have hl : l.length = n := by have := h.1; simpa using this
  refine ⟨hl, ?_⟩
  rcases h.2 with ⟨rfl, rfl⟩ | ⟨g, cap, cur, rfl, _, _, hnc, hcm, _⟩
  · exact ⟨_, _, rfl, Nat.le_refl _, by decide, by obtain rfl : l = [] := List.eq_nil_of_length_eq_zero hl; exact Rv.nil_⟩
  · exact ⟨_, _, rfl, hnc, hcm, Rv.of_ownL h⟩

section
variable {H : Type} {enc : TypeId × Value → H} {W : World}
theorem cellsL : Tryz.prog.cellsOf 21 = 1 := by kernel_rfl
theorem bytesL : Tryz.prog.bytesOf 21 = 4 := by kernel_rfl
set_option maxRecDepth 20000 in
theorem open_L {b0 : Nat} {v : Value} {d : DataW H} {p : List MemPlace} (hval : Value.okWide Tryz.prog W .any b0 22 v) (h : DataW.Trod enc Tryz.prog W 0 (fun _ => true) true 22 v d p) (hlt : ∀ x ∈ p, x.block < W.heap.size)
    {ts : List TypeId} {ds : List (DataW H)} (hsz : (DataW.weightsEach Tryz.prog ts ds).all (· ≤ reachBytes) = true) {j : Nat} (ht : ts[j]? = some 22) (hd : ds[j]? = some d) :
    ∃ (A : Option Addr) (n c : Nat) (l : List Int), v = .slice A n c ∧ l.length = n ∧ n ≤ c ∧ c ≤ maxLen ∧ n ≤ 140737488355328 ∧ Rv W W.heap.size A (l.map encL) ∧ (A = none → c = 0) ∧ (∀ u ∈ l, -2147483648 ≤ u ∧ u ≤ 2147483647) := by
  obtain ⟨a0, len, cap, rfl⟩ := okWide_slice Tryz.underlying22 hval
  obtain ⟨fuel, hf⟩ := h
  rcases open_ints Tryz.underlying22 Tryz.underlying21 cellsL hf with ⟨hcs, hx⟩ | ⟨a, len', cap', zs, hcs, _, hl, hm, hz, hx, hcell, hwz⟩
  · simp [Value.cells] at hcs
    obtain ⟨rfl, rfl, rfl⟩ := hcs
    exact ⟨Option.none, 0, 0, [], rfl, rfl, Nat.le_refl _, Nat.zero_le _, Nat.zero_le _, Rv.nil_, fun _ => rfl, fun u hu => nomatch hu⟩
  · simp [Value.cells] at hcs
    obtain ⟨rfl, rfl, rfl⟩ := hcs
    simp only [Prod.mk.injEq] at hx
    obtain ⟨rfl, rfl⟩ := hx
    simp only [if_true] at hz
    have hreach : len ≤ 140737488355328 := by
      have := sized_slice hsz (j := j) (t := 22) (e := 21) ht hd Tryz.underlying22
      rw [bytesL] at this
      simp only [lits, List.length_map, List.length_take, List.length_drop, reachBytes] at this
      omega
    refine ⟨some a, len, cap, zs.take len, rfl, by rw [List.length_take]; omega, hl, hm, hreach, fun h0 => ?_, (fun h => nomatch h), fun u hu => wf_i32 (hwz u (List.mem_of_mem_take hu))⟩
    have h0' : 0 < len := by
      rw [List.length_map, List.length_take] at h0
      omega
    obtain ⟨b, off, spot⟩ := a
    have hspot : spot = Option.none := by simpa [Addr.add] using World.cell?_spot (hcell 0 (by omega))
    subst hspot
    refine ⟨b, off, rfl, hlt (.cell b off) (MemPlace.mem_row.2 ⟨0, by omega, by simp⟩), fun j u hu => ?_⟩
    rw [List.getElem?_map] at hu
    obtain ⟨x, hx, rfl⟩ := Option.map_eq_some_iff.1 hu
    have hj : j < len := by
      rcases Nat.lt_or_ge j len with h | h
      · exact h
      · rw [List.getElem?_eq_none (by rw [List.length_take]; omega)] at hx; cases hx
    have hc := hcell j (by omega)
    rw [add_plain] at hc
    rw [hc, encL]
    congr 2
    rw [List.getElem?_take_of_lt hj] at hx
    rw [List.getD_eq_getElem?_getD, hx]
    rfl
end
def encH (n : Int) : Value := .int .i32 n
theorem encH_one (l : List Int) : ∀ u ∈ l.map encH, u.oneCell' = true := by
  intro u hu
  obtain ⟨x, _, rfl⟩ := List.mem_map.1 hu
  rfl
theorem infoH : (Tryz.prog.info? 23).map (fun i => (i.zero, i.size, i.bytes)) = some (some (.int .i32 0), 1, 4) := by kernel_rfl
def OwnH (w : World) (base : Nat) (v : Value) (n : Nat) (l : List Int) : Prop := w.ownsRow base 23 1 v n (l.map encH)

theorem appendH_void (w : World) (base : Nat) (ty : TypeId) (v : Value) (n : Nat) (l : List Int) (hown : OwnH w base v n l) (A : Option Addr) (c : Nat) :
    (Builtin.append_ #[26, 26] ty #[v, .slice A 0 c]).run Tryz.prog w = .ok v w := by
  obtain ⟨i0, hi, hz0, hz1, hz2⟩ := info_parts infoH
  unfold OwnH at hown
  cases A <;> rcases hown.2 with ⟨rfl, rfl⟩ | ⟨g, cap, cur, rfl, _, _, hnc, _⟩ <;>
    simp [Builtin.append_, run_underlying Tryz.underlying26, sizeOf, typeInfo, Builtin.lenOf, Builtin.firstCells, storeCells, loadCells, loadCellsFrom, *]
theorem appendH (w : World) (base : Nat) (ty : TypeId) (v : Value) (n : Nat) (l : List Int) (hown : OwnH w base v n l) (B : Nat) (A : Option Addr) (m c : Nat) (news : List Int)
    (hR : Rv w B A (news.map encH)) (hm : news.length = m) (hsz : n + m ≤ 1000) (hbase : base ≤ w.heap.size) :
    ∃ v' w', (Builtin.append_ #[26, 26] ty #[v, .slice A m c]).run Tryz.prog w = .ok v' w' ∧ OwnH w' base v' (n + m) (l ++ news) ∧ w.grownBy w' v.ownBlock := by
  rcases Nat.eq_zero_or_pos m with h0 | h0
  · subst h0
    obtain rfl : news = [] := List.eq_nil_of_length_eq_zero hm
    exact ⟨v, w, appendH_void w base ty v n _ hown A c, by simpa using hown, grown_refl _ _⟩
  · obtain ⟨b, o, rfl, _, hc⟩ := hR (by rw [List.length_map]; omega)
    obtain ⟨i0, hi, hz0, hz1, hz2⟩ := info_parts infoH
    obtain ⟨v', w', hr, h2, h3, _⟩ := run_append_own (P := Tryz.prog) w base 26 ty 23 i0 (.int .i32 0) 1 4 Tryz.underlying26 hi hz0 hz1 hz2 rfl (by decide) v n (l.map encH) hown
      ⟨b, o, none⟩ m c (news.map encH) (by simpa using hm) (fun j u hu => by simpa [go_sem] using hc j u hu) (encH_one news) (by unfold maxLen; omega) (by omega) hbase
    exact ⟨v', w', hr, by unfold OwnH; rw [List.map_append]; exact h2, h3⟩
theorem wpList_appendH {w : World} {ops : Array Oper} {rest : List Oper} {o : Oper} {a : Act} {Q : Exit → Act → World → Prop} (hgd : o.guard = Option.none) (s x : Operand)
    (ho : o.op = .call { callee := .builtin .append, args := #[s, x], argTypes := #[26, 26] })
    (base : Nat) (v : Value) (n : Nat) (l : List Int) (hs : a.eval s = v) (hown : OwnH w base v n l)
    (B : Nat) (A : Option Addr) (m c : Nat) (news : List Int) (hx : a.eval x = .slice A m c) (hR : Rv w B A (news.map encH)) (hm : news.length = m) (hsz : n + m ≤ 1000) (hbase : base ≤ w.heap.size)
    (h : ∀ v' w', OwnH w' base v' (n + m) (l ++ news) → w.grownBy w' v.ownBlock → wpList Tryz.prog ops Q rest (a.put o.dst v') w') : wpList Tryz.prog ops Q (o :: rest) a w := by
  refine wpList_plain hgd fun _ hK => ?_
  obtain ⟨v', w', hr, h2, h3⟩ := appendH w base o.type v n l hown B A m c news hR hm hsz hbase
  unfold Oper.wp execOp
  simp only [ho, resolve, invoke, builtin, Sem.run_bind, Sem.run_pure, Result.andThen_ok, List.map_toArray, List.map_cons, List.map_nil, hs, hx, hr]
  exact hK _ _ (h v' w' h2 h3)
theorem Rv.of_ownH {w : World} {base n c : Nat} {A : Option Addr} {l : List Int} (h : OwnH w base (.slice A n c) n l) : Rv w w.heap.size A (l.map encH) := fun hn => by
  rw [List.length_map] at hn
  have hln : l.length = n := by have := h.1; simpa using this
  obtain ⟨g, cap, hv, _, hlt⟩ := World.ownsRow.form h (by omega)
  have hA : A = some ⟨g, 0, none⟩ := by injection hv
  subst hA
  refine ⟨g, 0, rfl, hlt, fun j u hu => ?_⟩
  have := World.ownsRow.cells h (g := g) rfl j u hu
  simpa [go_sem] using this
theorem own_formH {w : World} {base : Nat} {v : Value} {n : Nat} {l : List Int} (h : OwnH w base v n l) :
    l.length = n ∧ ∃ A c, v = .slice A n c ∧ n ≤ c ∧ c ≤ maxLen ∧ Rv w w.heap.size A (l.map encH) := by
  have hl : l.length = n := by have := h.1; simpa using this
  refine ⟨hl, ?_⟩
  rcases h.2 with ⟨rfl, rfl⟩ | ⟨g, cap, cur, rfl, _, _, hnc, hcm, _⟩
  · exact ⟨_, _, rfl, Nat.le_refl _, by decide, by obtain rfl : l = [] := List.eq_nil_of_length_eq_zero hl; exact Rv.nil_⟩
  · exact ⟨_, _, rfl, hnc, hcm, Rv.of_ownH h⟩

def encN (n : Int) : Value := .int .i64 n
theorem encN_one (l : List Int) : ∀ u ∈ l.map encN, u.oneCell' = true := by
  intro u hu
  obtain ⟨x, _, rfl⟩ := List.mem_map.1 hu
  rfl
theorem infoN : (Tryz.prog.info? 3).map (fun i => (i.zero, i.size, i.bytes)) = some (some (.int .i64 0), 1, 8) := by kernel_rfl
def OwnN (w : World) (base : Nat) (v : Value) (n : Nat) (l : List Int) : Prop := w.ownsRow base 3 1 v n (l.map encN)

theorem appendN_void (w : World) (base : Nat) (ty : TypeId) (v : Value) (n : Nat) (l : List Int) (hown : OwnN w base v n l) (A : Option Addr) (c : Nat) :
    (Builtin.append_ #[27, 27] ty #[v, .slice A 0 c]).run Tryz.prog w = .ok v w := by
  obtain ⟨i0, hi, hz0, hz1, hz2⟩ := info_parts infoN
  unfold OwnN at hown
  cases A <;> rcases hown.2 with ⟨rfl, rfl⟩ | ⟨g, cap, cur, rfl, _, _, hnc, _⟩ <;>
    simp [Builtin.append_, run_underlying Tryz.underlying27, sizeOf, typeInfo, Builtin.lenOf, Builtin.firstCells, storeCells, loadCells, loadCellsFrom, *]
theorem appendN (w : World) (base : Nat) (ty : TypeId) (v : Value) (n : Nat) (l : List Int) (hown : OwnN w base v n l) (B : Nat) (A : Option Addr) (m c : Nat) (news : List Int)
    (hR : Rv w B A (news.map encN)) (hm : news.length = m) (hsz : n + m ≤ 1000) (hbase : base ≤ w.heap.size) :
    ∃ v' w', (Builtin.append_ #[27, 27] ty #[v, .slice A m c]).run Tryz.prog w = .ok v' w' ∧ OwnN w' base v' (n + m) (l ++ news) ∧ w.grownBy w' v.ownBlock := by
  rcases Nat.eq_zero_or_pos m with h0 | h0
  · subst h0
    obtain rfl : news = [] := List.eq_nil_of_length_eq_zero hm
    exact ⟨v, w, appendN_void w base ty v n _ hown A c, by simpa using hown, grown_refl _ _⟩
  · obtain ⟨b, o, rfl, _, hc⟩ := hR (by rw [List.length_map]; omega)
    obtain ⟨i0, hi, hz0, hz1, hz2⟩ := info_parts infoN
    obtain ⟨v', w', hr, h2, h3, _⟩ := run_append_own (P := Tryz.prog) w base 27 ty 3 i0 (.int .i64 0) 1 8 Tryz.underlying27 hi hz0 hz1 hz2 rfl (by decide) v n (l.map encN) hown
      ⟨b, o, none⟩ m c (news.map encN) (by simpa using hm) (fun j u hu => by simpa [go_sem] using hc j u hu) (encN_one news) (by unfold maxLen; omega) (by omega) hbase
    exact ⟨v', w', hr, by unfold OwnN; rw [List.map_append]; exact h2, h3⟩
theorem wpList_appendN {w : World} {ops : Array Oper} {rest : List Oper} {o : Oper} {a : Act} {Q : Exit → Act → World → Prop} (hgd : o.guard = Option.none) (s x : Operand)
    (ho : o.op = .call { callee := .builtin .append, args := #[s, x], argTypes := #[27, 27] })
    (base : Nat) (v : Value) (n : Nat) (l : List Int) (hs : a.eval s = v) (hown : OwnN w base v n l)
    (B : Nat) (A : Option Addr) (m c : Nat) (news : List Int) (hx : a.eval x = .slice A m c) (hR : Rv w B A (news.map encN)) (hm : news.length = m) (hsz : n + m ≤ 1000) (hbase : base ≤ w.heap.size)
    (h : ∀ v' w', OwnN w' base v' (n + m) (l ++ news) → w.grownBy w' v.ownBlock → wpList Tryz.prog ops Q rest (a.put o.dst v') w') : wpList Tryz.prog ops Q (o :: rest) a w := by
  refine wpList_plain hgd fun _ hK => ?_
  obtain ⟨v', w', hr, h2, h3⟩ := appendN w base o.type v n l hown B A m c news hR hm hsz hbase
  unfold Oper.wp execOp
  simp only [ho, resolve, invoke, builtin, Sem.run_bind, Sem.run_pure, Result.andThen_ok, List.map_toArray, List.map_cons, List.map_nil, hs, hx, hr]
  exact hK _ _ (h v' w' h2 h3)
theorem Rv.of_ownN {w : World} {base n c : Nat} {A : Option Addr} {l : List Int} (h : OwnN w base (.slice A n c) n l) : Rv w w.heap.size A (l.map encN) := fun hn => by
  rw [List.length_map] at hn
  have hln : l.length = n := by have := h.1; simpa using this
  obtain ⟨g, cap, hv, _, hlt⟩ := World.ownsRow.form h (by omega)
  have hA : A = some ⟨g, 0, none⟩ := by injection hv
  subst hA
  refine ⟨g, 0, rfl, hlt, fun j u hu => ?_⟩
  have := World.ownsRow.cells h (g := g) rfl j u hu
  simpa [go_sem] using this
theorem own_formN {w : World} {base : Nat} {v : Value} {n : Nat} {l : List Int} (h : OwnN w base v n l) :
    l.length = n ∧ ∃ A c, v = .slice A n c ∧ n ≤ c ∧ c ≤ maxLen ∧ Rv w w.heap.size A (l.map encN) := by
  have hl : l.length = n := by have := h.1; simpa using this
  refine ⟨hl, ?_⟩
  rcases h.2 with ⟨rfl, rfl⟩ | ⟨g, cap, cur, rfl, _, _, hnc, hcm, _⟩
  · exact ⟨_, _, rfl, Nat.le_refl _, by decide, by obtain rfl : l = [] := List.eq_nil_of_length_eq_zero hl; exact Rv.nil_⟩
  · exact ⟨_, _, rfl, hnc, hcm, Rv.of_ownN h⟩

end Go.Proofs.YtkhjmbemjndcoaaGreatDoor
