/-
  Rows of elements of several cells each: what they read as, what is appended; one among a law's arguments, opened. No condition.
-/
import Derived.Test.YtabiaeicejgeiaaGreatDoorShutA
import Derived.Laws.AppendOwnNone
import Derived.Maps.AppendAt
import Derived.RegionTactic
import Derived.Deep.Slices
namespace Go.Proofs.YtabiaeicejgeiaaGreatDoor
open Go.ChangeShapes Go.WideShapes Go.ChangeAt Go.RowKit

/-- How an element lies: its cells, how many. -/
structure Lies (α : Type) where
  cells : α → List Value
  k : Nat
  len : ∀ x, (cells x).length = k
  one : ∀ x, ∀ u ∈ cells x, u.oneCell' = true
section
variable {α : Type} (T : Lies α)
/-- A slice of elements. -/
def Rs (w : World) (B : Nat) (A : Option Addr) (l : List α) : Prop :=
  0 < l.length → ∃ b o, A = some ⟨b, o, none⟩ ∧ b < B ∧ ∀ (j : Nat) v, l[j]? = some v → ∀ (i : Nat) x, (T.cells v)[i]? = some x → w.cell? ⟨b, o + (j * T.k + i), none⟩ = some x
/-- All of their cells, one behind the other. -/
def flatS (l : List α) : List Value := l.flatMap T.cells
variable {T} {w w' : World} {B B' : Nat} {A : Option Addr} {l : List α}
theorem Rs.nil_ : Rs T w B A [] := fun h => absurd h (by simp)
theorem Rs.at_ {k : Nat} (h : Rs T w B A l) (hk : k < l.length) : ∃ b o, A = some ⟨b, o, none⟩ ∧ b < B ∧ ∀ (i : Nat) x, (T.cells (l[k]'hk))[i]? = some x → w.cell? ⟨b, o + (k * T.k + i), none⟩ = some x := by
  obtain ⟨b, o, e, hb, hc⟩ := h (by omega)
  exact ⟨b, o, e, hb, hc k _ (List.getElem?_eq_getElem hk)⟩
theorem Rs.below (h : Rs T w B A l) (hb : Below B w w') : Rs T w' B A l := fun hn => by
  obtain ⟨b, o, e, hlt, hc⟩ := h hn
  exact ⟨b, o, e, hlt, fun j v hv i x hx => (hb.cell (p := ⟨b, _, none⟩) hlt).trans (hc j v hv i x hx)⟩
theorem Rs.more (h : Rs T w B A l) (hB : B ≤ B') : Rs T w B' A l := fun hn => by
  obtain ⟨b, o, e, hlt, hc⟩ := h hn
  exact ⟨b, o, e, by omega, hc⟩
theorem Rs.keep (h : Rs T w B A l) (hk : ∀ p : Addr, p.block < B → w'.cell? p = w.cell? p) : Rs T w' B A l := fun hn => by
  obtain ⟨b, o, e, hlt, hc⟩ := h hn
  exact ⟨b, o, e, hlt, fun j v hv i x hx => (hk ⟨b, _, none⟩ hlt).trans (hc j v hv i x hx)⟩
theorem Rs.take (h : Rs T w B A l) (k : Nat) : Rs T w B A (l.take k) := fun hn => by
  obtain ⟨b, o, e, hb, hc⟩ := h (by rw [List.length_take] at hn; omega)
  refine ⟨b, o, e, hb, fun j u hu => hc j u ?_⟩
  rw [List.getElem?_take] at hu
  split at hu
  · exact hu
  · cases hu
theorem flatS_len (l : List α) : (flatS T l).length = l.length * T.k := by
  induction l with
  | nil => simp [flatS]
  | cons v l ih =>
    simp only [flatS, List.flatMap_cons, List.length_append, T.len, List.length_cons] at ih ⊢
    rw [ih, Nat.add_mul, Nat.one_mul, Nat.add_comm]
theorem flatS_at (l : List α) : ∀ (j : Nat) v, l[j]? = some v → ∀ (i : Nat) x, (T.cells v)[i]? = some x → (flatS T l)[j * T.k + i]? = some x := by
  induction l with
  | nil => intro j v hv; simp at hv
  | cons a l ih =>
    intro j v hv i x hx
    have hi : i < T.k := by
      rcases Nat.lt_or_ge i T.k with h | h
      · exact h
      · rw [List.getElem?_eq_none (by rw [T.len]; exact h)] at hx; cases hx
    cases j with
    | zero =>
      simp only [List.getElem?_cons_zero, Option.some.injEq] at hv
      subst hv
      simp only [flatS, List.flatMap_cons]
      rw [List.getElem?_append_left (by rw [T.len]; omega)]
      simpa using hx
    | succ j =>
      simp only [List.getElem?_cons_succ] at hv
      simp only [flatS, List.flatMap_cons]
      have e : (j + 1) * T.k + i = T.k + (j * T.k + i) := by rw [Nat.add_mul, Nat.one_mul]; omega
      rw [List.getElem?_append_right (by rw [T.len, e]; omega), T.len, e, Nat.add_sub_cancel_left]
      exact ih j v hv i x hx
theorem flatS_cut (hk : 0 < T.k) (l : List α) : ∀ (j : Nat) x, (flatS T l)[j]? = some x → ∃ v, l[j / T.k]? = some v ∧ (T.cells v)[j % T.k]? = some x := by
  intro j x hx
  have hj : j < l.length * T.k := by
    rcases Nat.lt_or_ge j (l.length * T.k) with h | h
    · exact h
    · rw [List.getElem?_eq_none (by rw [flatS_len]; exact h)] at hx; cases hx
  have hq : j / T.k < l.length := Nat.div_lt_of_lt_mul (by rw [Nat.mul_comm]; exact hj)
  have hr : j % T.k < T.k := Nat.mod_lt _ hk
  refine ⟨l[j / T.k], List.getElem?_eq_getElem hq, ?_⟩
  have h2 := flatS_at (T := T) l (j / T.k) _ (List.getElem?_eq_getElem hq) (j % T.k) _ (List.getElem?_eq_getElem (by rw [T.len]; exact hr))
  rw [show j / T.k * T.k + j % T.k = j by rw [Nat.mul_comm]; exact Nat.div_add_mod j T.k, hx] at h2
  rw [List.getElem?_eq_getElem (by rw [T.len]; exact hr)]
  exact h2.symm
theorem flatS_one (l : List α) : ∀ u ∈ flatS T l, u.oneCell' = true := by
  intro u hu
  simp only [flatS, List.mem_flatMap] at hu
  obtain ⟨v, _, hu⟩ := hu
  exact T.one v u hu
theorem flatS_snoc (l : List α) (u : α) : flatS T (l ++ [u]) = flatS T l ++ T.cells u := by simp [flatS]
theorem flatS_append (l m : List α) : flatS T (l ++ m) = flatS T l ++ flatS T m := by simp [flatS]

/-- A row of the call's own. -/
def OwnS (T : Lies α) (e : TypeId) (w : World) (base : Nat) (v : Value) (n : Nat) (l : List α) : Prop := w.ownsRow base e T.k v n (flatS T l)
theorem OwnS.alloc {e : TypeId} {b n : Nat} {v : Value} (h : OwnS T e w b v n l) (o : Obj) : OwnS T e (w.alloc o) b v n l := World.ownsRow.alloc h o
theorem OwnS.length {e : TypeId} {b n : Nat} {v : Value} (hk : 0 < T.k) (h : OwnS T e w b v n l) : l.length = n := by
  have := h.1
  rw [flatS_len] at this
  exact Nat.eq_of_mul_eq_mul_right hk this
theorem OwnS.form {e : TypeId} {b n : Nat} {v : Value} (hk : 0 < T.k) (h : OwnS T e w b v n l) :
    l.length = n ∧ ∃ A c, v = .slice A n c ∧ n ≤ c ∧ c ≤ maxLen ∧ Rs T w w.heap.size A l := by
  have hl := h.length hk
  refine ⟨hl, ?_⟩
  unfold OwnS at h
  rcases h.2 with ⟨rfl, rfl⟩ | ⟨g, cap, cur, rfl, _, hg, hnc, hcm, _⟩
  · exact ⟨_, _, rfl, Nat.le_refl _, by decide, fun hn => by omega⟩
  · refine ⟨_, _, rfl, hnc, hcm, fun _ => ⟨g, 0, rfl, (Array.getElem?_eq_some_iff.1 hg).1, fun j v hv i x hx => ?_⟩⟩
    have := World.ownsRow.cells h (g := g) rfl (j * T.k + i) x (flatS_at l j v hv i x hx)
    simpa [go_sem] using this
theorem OwnS.below {e : TypeId} {b n : Nat} {v : Value} (h : OwnS T e w b v n l) (hb : Below w.heap.size w w') : OwnS T e w' b v n l := by
  unfold OwnS at h ⊢
  refine ⟨h.1, ?_⟩
  rcases h.2 with ⟨h1, h2⟩ | ⟨g, cap, cur, h1, h2, hg, h3⟩
  · exact .inl ⟨h1, h2⟩
  · exact .inr ⟨g, cap, cur, h1, h2, (hb.block g (Array.getElem?_eq_some_iff.1 hg).1).trans hg, h3⟩
theorem OwnS.grown {e : TypeId} {b n : Nat} {v : Value} {row : Option Nat} (h : OwnS T e w b v n l) (hb : w.grownBy w' row) (hr : row ≠ v.ownBlock ∨ row = Option.none) : OwnS T e w' b v n l := by
  unfold OwnS at h ⊢
  refine ⟨h.1, ?_⟩
  rcases h.2 with ⟨h1, h2⟩ | ⟨g, cap, cur, rfl, h2, hg, h3⟩
  · exact .inl ⟨h1, h2⟩
  · refine .inr ⟨g, cap, cur, rfl, h2, (hb.block g (Array.getElem?_eq_some_iff.1 hg).1 ?_).trans hg, h3⟩
    rcases hr with hr | rfl
    · exact fun e => hr e.symm
    · simp
theorem OwnS.apart {β : Type} {U : Lies β} {e1 e2 : TypeId} {b1 b2 n1 n2 : Nat} {v1 v2 : Value} {l2 : List β} (h1 : OwnS T e1 w b1 v1 n1 l) (h2 : OwnS U e2 w b2 v2 n2 l2) (he : e1 ≠ e2) : v1.ownBlock = Option.none ∨ v1.ownBlock ≠ v2.ownBlock := by
  unfold OwnS at h1 h2
  rcases h1.2 with ⟨rfl, _⟩ | ⟨g1, c1, cur1, rfl, _, e1, _⟩
  · exact .inl rfl
  · refine .inr fun e => ?_
    rcases h2.2 with ⟨rfl, _⟩ | ⟨g2, c2, cur2, rfl, _, e2, _⟩
    · simp [Value.ownBlock] at e
    · simp only [Value.ownBlock, Option.some.injEq] at e
      subst e
      rw [e1] at e2
      simp only [Option.some.injEq, Obj.cells.injEq] at e2
      exact he e2.2.1
theorem OwnS.past {β : Type} {U : Lies β} {e1 e2 : TypeId} {b1 b2 n1 n2 : Nat} {v1 v2 : Value} {l2 : List β} (h1 : OwnS T e1 w b1 v1 n1 l) (h2 : OwnS U e2 w b2 v2 n2 l2) (he : e1 ≠ e2) (hg : w.grownBy w' v2.ownBlock) : OwnS T e1 w' b1 v1 n1 l := World.ownsRow.kept h1 hg (h1.apart h2 he)
theorem OwnS.made {e : TypeId} (w : World) {cap : Nat} {cur : Array Value} {b : Nat} (hb : b ≤ w.heap.size) (hm : cap ≤ maxLen) (hs : cur.size = cap * T.k) : OwnS T e (w.alloc (.cells cur e)) b (.slice (some ⟨w.heap.size, 0, none⟩) 0 cap) 0 [] := World.ownsRow_made w cur cap hb hm hs
theorem OwnS.nil_ (w : World) (b : Nat) (e : TypeId) : OwnS T e w b (.slice none 0 0) 0 [] := World.ownsRow_nil w b e T.k
theorem OwnS.lt {e : TypeId} {b n : Nat} {v : Value} (h : OwnS T e w b v n l) : ∀ k, v.ownBlock = some k → b ≤ k ∧ k < w.heap.size := World.ownsRow.lt h
/-- What a type is of which a row is made. -/
structure RowOf (T : Lies α) (P : Program) (t e : TypeId) (bytes : Nat) : Prop where
  und : P.underlying t = some (.slice e)
  info : ∃ i z, P.info? e = some i ∧ i.zero = some z ∧ i.size = T.k ∧ i.bytes = bytes ∧ z.cells.size = T.k
  pos : 0 < T.k
theorem RowOf.of {P : Program} {t e : TypeId} {bytes : Nat} {z : Value} (hu : P.underlying t = some (.slice e)) (hi : (P.info? e).map (fun i => (i.zero, i.size, i.bytes)) = some (some z, T.k, bytes)) (hz : z.cells.size = T.k) (hp : 0 < T.k) : RowOf T P t e bytes := by
  obtain ⟨i0, hi0, hz0, hz1, hz2⟩ := info_parts hi
  exact ⟨hu, ⟨i0, z, hi0, hz0, hz1, hz2, hz⟩, hp⟩
variable {P : Program} {t e : TypeId} {bytes : Nat}
theorem append_voidS (hT : RowOf T P t e bytes) (w : World) (base : Nat) (ty : TypeId) (v : Value) (n : Nat) (l : List α) (hown : OwnS T e w base v n l) (A : Option Addr) (c : Nat) :
    (Builtin.append_ #[t, t] ty #[v, .slice A 0 c]).run P w = .ok v w := by
  obtain ⟨i0, z, hi, hz0, hz1, hz2, hz3⟩ := hT.info
  unfold OwnS at hown
  cases A <;> rcases hown.2 with ⟨rfl, rfl⟩ | ⟨g, cap, cur, rfl, _, _, hnc, _⟩ <;>
    simp [Builtin.append_, run_underlying hT.und, sizeOf, typeInfo, Builtin.lenOf, Builtin.firstCells, storeCells, loadCells, loadCellsFrom, *]
theorem run_appendS (hT : RowOf T P t e bytes) (w : World) (base : Nat) (ty : TypeId) (v : Value) (n : Nat) (l : List α) (hown : OwnS T e w base v n l) (B : Nat) (A : Option Addr) (m c : Nat) (news : List α)
    (hR : Rs T w B A news) (hm : news.length = m) (h63 : n + m ≤ maxLen) (hby : (n + m) * bytes ≤ 140737488355328) (hbase : base ≤ w.heap.size) :
    ∃ v' w', (Builtin.append_ #[t, t] ty #[v, .slice A m c]).run P w = .ok v' w' ∧ OwnS T e w' base v' (n + m) (l ++ news) ∧ w.grownBy w' v.ownBlock ∧ (v'.ownBlock = v.ownBlock ∨ v'.ownBlock = some w.heap.size) ∧ (v' = .slice none 0 0 → v = .slice none 0 0) := by
  rcases Nat.eq_zero_or_pos m with h0 | h0
  · subst h0
    obtain rfl : news = [] := List.eq_nil_of_length_eq_zero hm
    exact ⟨v, w, append_voidS hT w base ty v n _ hown A c, by simpa using hown, grown_refl _ _, .inl rfl, id⟩
  · obtain ⟨b, o, rfl, _, hc⟩ := hR (by omega)
    obtain ⟨i0, z, hi, hz0, hz1, hz2, hz3⟩ := hT.info
    obtain ⟨v', w', hr, h2, h3, h4, h5⟩ := run_append_own_at (P := P) w base t ty e i0 z T.k bytes hT.und hi hz0 hz1 hz2 hz3 hT.pos v n (flatS T l) hown
      ⟨b, o, none⟩ m c (flatS T news) (by rw [flatS_len, hm]) (fun j u hu => by
        obtain ⟨x, hx, hx2⟩ := flatS_cut hT.pos news j u hu
        have := hc _ _ hx _ _ hx2
        rw [show j / T.k * T.k + j % T.k = j by rw [Nat.mul_comm]; exact Nat.div_add_mod j T.k] at this
        rwa [add_plain]) (flatS_one news) h63 hby hbase
    exact ⟨v', w', hr, by unfold OwnS; rw [flatS_append]; exact h2, h3, h5, fun he => (h4.1 he).1⟩
theorem wp_appendS {o : Oper} {a : Act} {K : Act → World → Prop} {Q : Exit → Act → World → Prop} (hT : RowOf T P t e bytes) (s x : Operand)
    (ho : o.op = .call { callee := .builtin .append, args := #[s, x], argTypes := #[t, t] })
    (base : Nat) (v : Value) (n : Nat) (l : List α) (hs : a.eval s = v) (hown : OwnS T e w base v n l)
    (B : Nat) (A : Option Addr) (m c : Nat) (news : List α) (hx : a.eval x = .slice A m c) (hR : Rs T w B A news) (hm : news.length = m) (h63 : n + m ≤ maxLen) (hby : (n + m) * bytes ≤ 140737488355328) (hbase : base ≤ w.heap.size)
    (h : ∀ v' w', OwnS T e w' base v' (n + m) (l ++ news) → w.grownBy w' v.ownBlock → (v'.ownBlock = v.ownBlock ∨ v'.ownBlock = some w.heap.size) → (v' = .slice none 0 0 → v = .slice none 0 0) → K (a.put o.dst v') w') : o.wp P a w K Q := by
  obtain ⟨v', w', hr, h2, h3, h4, h5⟩ := run_appendS hT w base o.type v n l hown B A m c news hR hm h63 hby hbase
  unfold Oper.wp execOp
  simp only [ho, resolve, invoke, builtin, Sem.run_bind, Sem.run_pure, Result.andThen_ok, List.map_toArray, List.map_cons, List.map_nil, hs, hx, hr]
  exact h v' w' h2 h3 h4 h5
theorem wpList_appendS {ops : Array Oper} {rest : List Oper} {o : Oper} {a : Act} {Q : Exit → Act → World → Prop} (hgd : o.guard = Option.none) (hT : RowOf T P t e bytes) (s x : Operand)
    (ho : o.op = .call { callee := .builtin .append, args := #[s, x], argTypes := #[t, t] })
    (base : Nat) (v : Value) (n : Nat) (l : List α) (hs : a.eval s = v) (hown : OwnS T e w base v n l)
    (B : Nat) (A : Option Addr) (m c : Nat) (news : List α) (hx : a.eval x = .slice A m c) (hR : Rs T w B A news) (hm : news.length = m) (h63 : n + m ≤ maxLen) (hby : (n + m) * bytes ≤ 140737488355328) (hbase : base ≤ w.heap.size)
    (h : ∀ v' w', OwnS T e w' base v' (n + m) (l ++ news) → w.grownBy w' v.ownBlock → (v'.ownBlock = v.ownBlock ∨ v'.ownBlock = some w.heap.size) → (v' = .slice none 0 0 → v = .slice none 0 0) → wpList P ops Q rest (a.put o.dst v') w') : wpList P ops Q (o :: rest) a w :=
  wpList_plain hgd fun _ hK => wp_appendS hT s x ho base v n l hs hown B A m c news hx hR hm h63 hby hbase fun v' w' h2 h3 h4 h5 => hK _ _ (h v' w' h2 h3 h4 h5)
theorem step_appendS {ops : Array Oper} {o : Oper} {a : Act} {K : Act → World → Prop} {Q : Exit → Act → World → Prop} {E : Prop} (hgd : o.guard = Option.none) (hT : RowOf T P t e bytes) (s x : Operand)
    (ho : o.op = .call { callee := .builtin .append, args := #[s, x], argTypes := #[t, t] })
    (base : Nat) (v : Value) (n : Nat) (l : List α) (hs : a.eval s = v) (hown : OwnS T e w base v n l)
    (B : Nat) (A : Option Addr) (m c : Nat) (news : List α) (hx : a.eval x = .slice A m c) (hR : Rs T w B A news) (hm : news.length = m) (h63 : n + m ≤ maxLen) (hby : (n + m) * bytes ≤ 140737488355328) (hbase : base ≤ w.heap.size)
    (h : ∀ v' w', OwnS T e w' base v' (n + m) (l ++ news) → w.grownBy w' v.ownBlock → (v'.ownBlock = v.ownBlock ∨ v'.ownBlock = some w.heap.size) → (v' = .slice none 0 0 → v = .slice none 0 0) → K (a.put o.dst v') w') :
    if Region.wanted o (yielded ops a.tmps) = true then Oper.wp P o a w K Q else E := by
  rw [if_pos (show Region.wanted o (yielded ops a.tmps) = true by simp [Region.wanted, hgd])]
  exact wp_appendS hT s x ho base v n l hs hown B A m c news hx hR hm h63 hby hbase h
/-- One element in a block of its own reads as itself. -/
theorem Rs.block {b : Nat} {ty : TypeId} {u : α} (h : Blk w b ty (T.cells u).toArray) : Rs T w w.heap.size (some ⟨b, 0, none⟩) [u] := fun _ =>
  ⟨b, 0, rfl, h.lt, fun j v hv i x hx => by
    rcases j with _ | j
    · simp only [List.getElem?_cons_zero, Option.some.injEq] at hv
      subst hv
      rw [h.cell]
      simpa using hx
    · simp at hv⟩
section
variable {H : Type} {enc : TypeId × Value → H} {W : World}
/-- A slice of such elements among a law's arguments, opened; its reach too. -/
theorem open_S {In : α → Prop} (hu : P.underlying t = some (.slice e)) (hk : P.cellsOf e = T.k) (hkp : 0 < T.k)
    (hone : ∀ {base : Nat} {spare : Nat → Bool} {held : Bool} {n : Nat} {cs : List Value} {x : DataW H × List MemPlace}, DataW.trod enc P W base spare held n e cs = some x → ∃ v : α, In v ∧ cs = T.cells v)
    {b0 : Nat} {v : Value} {d : DataW H} {p : List MemPlace} (hval : Value.okWide P W .any b0 t v) (h : DataW.Trod enc P W 0 (fun _ => true) true t v d p) (hlt : ∀ x ∈ p, x.block < W.heap.size) :
    ∃ (A : Option Addr) (n c : Nat) (l : List α), v = .slice A n c ∧ l.length = n ∧ n ≤ c ∧ c ≤ maxLen ∧ Rs T W W.heap.size A l ∧ (∀ u ∈ l, In u) := by
  obtain ⟨a0, len, cap, rfl⟩ := okWide_slice hu hval
  obtain ⟨fuel, hf⟩ := h
  rcases Go.Deep.open_slice hu hf with ⟨hcs, hx⟩ | ⟨a, len', cap', m, n, D, Pl, hcs, _, hl, hm, hmm, hx, hi⟩
  · simp [Value.cells] at hcs
    obtain ⟨rfl, rfl, rfl⟩ := hcs
    exact ⟨Option.none, 0, 0, [], rfl, rfl, Nat.le_refl _, Nat.zero_le _, (fun hn => absurd hn (by simp)), (fun u hu => nomatch hu)⟩
  · simp [Value.cells] at hcs
    obtain ⟨rfl, rfl, rfl⟩ := hcs
    simp only [if_true] at hmm
    subst hmm
    simp only [Prod.mk.injEq] at hx
    obtain ⟨_, rfl⟩ := hx
    rw [hk] at hi hlt
    have hv : ∀ i, i < m → ∃ v : α, In v ∧ ∀ (j : Nat) x, (T.cells v)[j]? = some x → W.cell? (a.add (i * T.k + j)) = some x := by
      intro i him
      obtain ⟨cs', hc, ht⟩ := hi i him
      obtain ⟨v, hin, rfl⟩ := hone ht
      obtain ⟨_, hcl, hat⟩ := World.cells?_some hc
      refine ⟨v, hin, fun j x hx => ?_⟩
      have hj : j < T.k := by
        rcases Nat.lt_or_ge j T.k with h | h
        · exact h
        · rw [List.getElem?_eq_none (by rw [T.len]; exact h)] at hx; cases hx
      rw [← Go.Deep.add_add, hat j hj, hx]
    have hl2 : ∀ k, k ≤ len → ∃ l : List α, l.length = k ∧ (∀ u ∈ l, In u) ∧ ∀ (j : Nat) v, l[j]? = some v → ∀ (i : Nat) x, (T.cells v)[i]? = some x → W.cell? (a.add (j * T.k + i)) = some x := by
      intro k
      induction k with
      | zero => exact fun _ => ⟨[], rfl, (fun u hu => nomatch hu), (fun j v hv => by simp at hv)⟩
      | succ k ih =>
        intro hk
        obtain ⟨l, h1, h2, h3⟩ := ih (by omega)
        obtain ⟨v, g1, g2⟩ := hv k (by omega)
        refine ⟨l ++ [v], by simp [h1], fun u hu => ?_, fun j u hu => ?_⟩
        · rcases List.mem_append.1 hu with hu | hu
          · exact h2 u hu
          · rw [List.mem_singleton.1 hu]; exact g1
        · rcases Nat.lt_or_ge j k with hj | hj
          · rw [List.getElem?_append_left (by omega)] at hu
            exact h3 j u hu
          · rw [List.getElem?_append_right (by omega), h1] at hu
            have hj2 : j = k := by
              rcases Nat.lt_or_ge k j with h | h
              · rw [List.getElem?_eq_none (by simp; omega)] at hu; cases hu
              · omega
            subst hj2
            simp only [Nat.sub_self, List.getElem?_cons_zero, Option.some.injEq] at hu
            subst hu
            exact g2
    obtain ⟨l, h1, h2, h3⟩ := hl2 len (Nat.le_refl _)
    refine ⟨some a, len, m, l, rfl, h1, hl, hm, fun hn => ?_, h2⟩
    obtain ⟨b, off, spot⟩ := a
    have hne : 0 < (T.cells (l[0]'hn)).length := by rw [T.len]; exact hkp
    have h0 := h3 0 _ (List.getElem?_eq_getElem hn) 0 _ (List.getElem?_eq_getElem hne)
    have hspot : spot = Option.none := by simpa [Addr.add] using World.cell?_spot h0
    subst hspot
    have hmk : 0 < m * T.k := Nat.mul_pos (by omega) hkp
    refine ⟨b, off, rfl, hlt (.cell b off) (List.mem_append_left _ (MemPlace.mem_row.2 ⟨0, hmk, by simp⟩)), fun j v hv i x hx => ?_⟩
    have := h3 j v hv i x hx
    rwa [add_plain] at this
end
end
end Go.Proofs.YtabiaeicejgeiaaGreatDoor
