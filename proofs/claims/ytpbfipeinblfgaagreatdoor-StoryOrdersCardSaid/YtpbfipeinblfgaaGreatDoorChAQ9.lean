/-
Rows of elements of several cells each: what they read as, what is appended; one among a law's arguments, opened. No condition.
Legs, by account: plain mathematics. No condition.
coin: Add, Sub, Neg, Least, Right; the references' Add and Sub. Conditions: the numbers' kinds.
Legs in rows, keys; such among a law's arguments; the law's few. No condition.
-/
import Derived.Test.YtpbfipeinblfgaaGreatDoorShutAQ9
import Derived.Laws.AppendOwnNone
import Derived.Maps.AppendAt
import Derived.RegionTactic
import Derived.Deep.Slices
import Derived.Test.YtpbfipeinblfgaaGreatDoorMemQ9
import Derived.Handy
import Derived.Test.YtpbfipeinblfgaaGreatDoorYldAQ9
import Derived.Lib.SmallJoins
import Derived.LoopTactic
namespace Go.Proofs.YtpbfipeinblfgaaGreatDoor
open Go.ChangeShapes Go.WideShapes Go.ChangeAt Go.RowKit

/-- How an element lies: its cells, how many. -/
structure Lies (α : Type) where
  cells : α → List Value
  k : Nat
  len : ∀ x, (cells x).length = k
  one : ∀ x, ∀ u ∈ cells x, u.oneCell' = true
section
variable {α : Type} (T : Lies α)
/-- A slice of elements. -/
def Rs (w : World) (B : Nat) (A : Option Addr) (l : List α) : Prop :=
  0 < l.length → ∃ b o, A = some ⟨b, o, none⟩ ∧ b < B ∧ ∀ (j : Nat) v, l[j]? = some v → ∀ (i : Nat) x, (T.cells v)[i]? = some x → w.cell? ⟨b, o + (j * T.k + i), none⟩ = some x
/-- All of their cells, one behind the other. -/
def flatS (l : List α) : List Value := l.flatMap T.cells
variable {T} {w w' : World} {B B' : Nat} {A : Option Addr} {l : List α}
theorem Rs.nil_ : Rs T w B A [] := fun h => absurd h (by simp)
theorem Rs.at_ {k : Nat} (h : Rs T w B A l) (hk : k < l.length) : ∃ b o, A = some ⟨b, o, none⟩ ∧ b < B ∧ ∀ (i : Nat) x, (T.cells (l[k]'hk))[i]? = some x → w.cell? ⟨b, o + (k * T.k + i), none⟩ = some x := by
  obtain ⟨b, o, e, hb, hc⟩ := h (by omega)
  exact ⟨b, o, e, hb, hc k _ (List.getElem?_eq_getElem hk)⟩
theorem Rs.below (h : Rs T w B A l) (hb : Below B w w') : Rs T w' B A l := fun hn => by
  obtain ⟨b, o, e, hlt, hc⟩ := h hn
  exact ⟨b, o, e, hlt, fun j v hv i x hx => (hb.cell (p := ⟨b, _, none⟩) hlt).trans (hc j v hv i x hx)⟩
theorem Rs.more (h : Rs T w B A l) (hB : B ≤ B') : Rs T w B' A l := fun hn => by
  obtain ⟨b, o, e, hlt, hc⟩ := h hn
  exact ⟨b, o, e, by omega, hc⟩
theorem Rs.keep (h : Rs T w B A l) (hk : ∀ p : Addr, p.block < B → w'.cell? p = w.cell? p) : Rs T w' B A l := fun hn => by
  obtain ⟨b, o, e, hlt, hc⟩ := h hn
  exact ⟨b, o, e, hlt, fun j v hv i x hx => (hk ⟨b, _, none⟩ hlt).trans (hc j v hv i x hx)⟩
theorem Rs.take (h : Rs T w B A l) (k : Nat) : Rs T w B A (l.take k) := fun hn => by
  obtain ⟨b, o, e, hb, hc⟩ := h (by rw [List.length_take] at hn; omega)
  refine ⟨b, o, e, hb, fun j u hu => hc j u ?_⟩
  rw [List.getElem?_take] at hu
  split at hu
  · exact hu
  · cases hu
theorem flatS_len (l : List α) : (flatS T l).length = l.length * T.k := by
  induction l with
  | nil => simp [flatS]
  | cons v l ih =>
    simp only [flatS, List.flatMap_cons, List.length_append, T.len, List.length_cons] at ih ⊢
    rw [ih, Nat.add_mul, Nat.one_mul, Nat.add_comm]
theorem flatS_at (l : List α) : ∀ (j : Nat) v, l[j]? = some v → ∀ (i : Nat) x, (T.cells v)[i]? = some x → (flatS T l)[j * T.k + i]? = some x := by
  induction l with
  | nil => intro j v hv; simp at hv
  | cons a l ih =>
    intro j v hv i x hx
    have hi : i < T.k := by
      rcases Nat.lt_or_ge i T.k with h | h
      · exact h
      · rw [List.getElem?_eq_none (by rw [T.len]; exact h)] at hx; cases hx
    cases j with
    | zero =>
      simp only [List.getElem?_cons_zero, Option.some.injEq] at hv
      subst hv
      simp only [flatS, List.flatMap_cons]
      rw [List.getElem?_append_left (by rw [T.len]; omega)]
      simpa using hx
    | succ j =>
      simp only [List.getElem?_cons_succ] at hv
      simp only [flatS, List.flatMap_cons]
      have e : (j + 1) * T.k + i = T.k + (j * T.k + i) := by rw [Nat.add_mul, Nat.one_mul]; omega
      rw [List.getElem?_append_right (by rw [T.len, e]; omega), T.len, e, Nat.add_sub_cancel_left]
      exact ih j v hv i x hx
theorem flatS_cut (hk : 0 < T.k) (l : List α) : ∀ (j : Nat) x, (flatS T l)[j]? = some x → ∃ v, l[j / T.k]? = some v ∧ (T.cells v)[j % T.k]? = some x := by
  intro j x hx
  have hj : j < l.length * T.k := by
    rcases Nat.lt_or_ge j (l.length * T.k) with h | h
    · exact h
    · rw [List.getElem?_eq_none (by rw [flatS_len]; exact h)] at hx; cases hx
  have hq : j / T.k < l.length := Nat.div_lt_of_lt_mul (by rw [Nat.mul_comm]; exact hj)
  have hr : j % T.k < T.k := Nat.mod_lt _ hk
  refine ⟨l[j / T.k], List.getElem?_eq_getElem hq, ?_⟩
  have h2 := flatS_at (T := T) l (j / T.k) _ (List.getElem?_eq_getElem hq) (j % T.k) _ (List.getElem?_eq_getElem (by rw [T.len]; exact hr))
  rw [show j / T.k * T.k + j % T.k = j by rw [Nat.mul_comm]; exact Nat.div_add_mod j T.k, hx] at h2
  rw [List.getElem?_eq_getElem (by rw [T.len]; exact hr)]
  exact h2.symm
theorem flatS_one (l : List α) : ∀ u ∈ flatS T l, u.oneCell' = true := by
  intro u hu
  simp only [flatS, List.mem_flatMap] at hu
  obtain ⟨v, _, hu⟩ := hu
  exact T.one v u hu
theorem flatS_snoc (l : List α) (u : α) : flatS T (l ++ [u]) = flatS T l ++ T.cells u := by simp [flatS]
theorem flatS_append (l m : List α) : flatS T (l ++ m) = flatS T l ++ flatS T m := by simp [flatS]

/-- A row of the call's own. -/
def OwnS (T : Lies α) (e : TypeId) (w : World) (base : Nat) (v : Value) (n : Nat) (l : List α) : Prop := w.ownsRow base e T.k v n (flatS T l)
theorem OwnS.alloc {e : TypeId} {b n : Nat} {v : Value} (h : OwnS T e w b v n l) (o : Obj) : OwnS T e (w.alloc o) b v n l := World.ownsRow.alloc h o
theorem OwnS.length {e : TypeId} {b n : Nat} {v : Value} (hk : 0 < T.k) (h : OwnS T e w b v n l) : l.length = n := by
  have := h.1
  rw [flatS_len] at this
  exact Nat.eq_of_mul_eq_mul_right hk this
theorem OwnS.form {e : TypeId} {b n : Nat} {v : Value} (hk : 0 < T.k) (h : OwnS T e w b v n l) :
    l.length = n ∧ ∃ A c, v = .slice A n c ∧ n ≤ c ∧ c ≤ maxLen ∧ Rs T w w.heap.size A l := by
  have hl := h.length hk
  refine ⟨hl, ?_⟩
  unfold OwnS at h
  rcases h.2 with ⟨rfl, rfl⟩ | ⟨g, cap, cur, rfl, _, hg, hnc, hcm, _⟩
  · exact ⟨_, _, rfl, Nat.le_refl _, by decide, fun hn => by omega⟩
  · refine ⟨_, _, rfl, hnc, hcm, fun _ => ⟨g, 0, rfl, (Array.getElem?_eq_some_iff.1 hg).1, fun j v hv i x hx => ?_⟩⟩
    have := World.ownsRow.cells h (g := g) rfl (j * T.k + i) x (flatS_at l j v hv i x hx)
    simpa [go_sem] using this
theorem OwnS.below {e : TypeId} {b n : Nat} {v : Value} (h : OwnS T e w b v n l) (hb : Below w.heap.size w w') : OwnS T e w' b v n l := by
  unfold OwnS at h ⊢
  refine ⟨h.1, ?_⟩
  rcases h.2 with ⟨h1, h2⟩ | ⟨g, cap, cur, h1, h2, hg, h3⟩
  · exact .inl ⟨h1, h2⟩
  · exact .inr ⟨g, cap, cur, h1, h2, (hb.block g (Array.getElem?_eq_some_iff.1 hg).1).trans hg, h3⟩
theorem OwnS.grown {e : TypeId} {b n : Nat} {v : Value} {row : Option Nat} (h : OwnS T e w b v n l) (hb : w.grownBy w' row) (hr : row ≠ v.ownBlock ∨ row = Option.none) : OwnS T e w' b v n l := by
  unfold OwnS at h ⊢
  refine ⟨h.1, ?_⟩
  rcases h.2 with ⟨h1, h2⟩ | ⟨g, cap, cur, rfl, h2, hg, h3⟩
  · exact .inl ⟨h1, h2⟩
  · refine .inr ⟨g, cap, cur, rfl, h2, (hb.block g (Array.getElem?_eq_some_iff.1 hg).1 ?_).trans hg, h3⟩
    rcases hr with hr | rfl
    · exact fun e => hr e.symm
    · simp
theorem OwnS.apart {β : Type} {U : Lies β} {e1 e2 : TypeId} {b1 b2 n1 n2 : Nat} {v1 v2 : Value} {l2 : List β} (h1 : OwnS T e1 w b1 v1 n1 l) (h2 : OwnS U e2 w b2 v2 n2 l2) (he : e1 ≠ e2) : v1.ownBlock = Option.none ∨ v1.ownBlock ≠ v2.ownBlock := by
  unfold OwnS at h1 h2
  rcases h1.2 with ⟨rfl, _⟩ | ⟨g1, c1, cur1, rfl, _, e1, _⟩
  · exact .inl rfl
  · refine .inr fun e => ?_
    rcases h2.2 with ⟨rfl, _⟩ | ⟨g2, c2, cur2, rfl, _, e2, _⟩
    · simp [Value.ownBlock] at e
    · simp only [Value.ownBlock, Option.some.injEq] at e
      subst e
      rw [e1] at e2
      simp only [Option.some.injEq, Obj.cells.injEq] at e2
      exact he e2.2.1
theorem OwnS.past {β : Type} {U : Lies β} {e1 e2 : TypeId} {b1 b2 n1 n2 : Nat} {v1 v2 : Value} {l2 : List β} (h1 : OwnS T e1 w b1 v1 n1 l) (h2 : OwnS U e2 w b2 v2 n2 l2) (he : e1 ≠ e2) (hg : w.grownBy w' v2.ownBlock) : OwnS T e1 w' b1 v1 n1 l := World.ownsRow.kept h1 hg (h1.apart h2 he)
theorem OwnS.made {e : TypeId} (w : World) {cap : Nat} {cur : Array Value} {b : Nat} (hb : b ≤ w.heap.size) (hm : cap ≤ maxLen) (hs : cur.size = cap * T.k) : OwnS T e (w.alloc (.cells cur e)) b (.slice (some ⟨w.heap.size, 0, none⟩) 0 cap) 0 [] := World.ownsRow_made w cur cap hb hm hs
theorem OwnS.nil_ (w : World) (b : Nat) (e : TypeId) : OwnS T e w b (.slice none 0 0) 0 [] := World.ownsRow_nil w b e T.k
theorem OwnS.lt {e : TypeId} {b n : Nat} {v : Value} (h : OwnS T e w b v n l) : ∀ k, v.ownBlock = some k → b ≤ k ∧ k < w.heap.size := World.ownsRow.lt h
/-- What a type is of which a row is made. -/
structure RowOf (T : Lies α) (P : Program) (t e : TypeId) (bytes : Nat) : Prop where
  und : P.underlying t = some (.slice e)
  info : ∃ i z, P.info? e = some i ∧ i.zero = some z ∧ i.size = T.k ∧ i.bytes = bytes ∧ z.cells.size = T.k
  pos : 0 < T.k
theorem RowOf.of {P : Program} {t e : TypeId} {bytes : Nat} {z : Value} (hu : P.underlying t = some (.slice e)) (hi : (P.info? e).map (fun i => (i.zero, i.size, i.bytes)) = some (some z, T.k, bytes)) (hz : z.cells.size = T.k) (hp : 0 < T.k) : RowOf T P t e bytes := by
  obtain ⟨i0, hi0, hz0, hz1, hz2⟩ := info_parts hi
  exact ⟨hu, ⟨i0, z, hi0, hz0, hz1, hz2, hz⟩, hp⟩
variable {P : Program} {t e : TypeId} {bytes : Nat}
theorem append_voidS (hT : RowOf T P t e bytes) (w : World) (base : Nat) (ty : TypeId) (v : Value) (n : Nat) (l : List α) (hown : OwnS T e w base v n l) (A : Option Addr) (c : Nat) :
    (Builtin.append_ #[t, t] ty #[v, .slice A 0 c]).run P w = .ok v w := by
  obtain ⟨i0, z, hi, hz0, hz1, hz2, hz3⟩ := hT.info
  unfold OwnS at hown
  cases A <;> rcases hown.2 with ⟨rfl, rfl⟩ | ⟨g, cap, cur, rfl, _, _, hnc, _⟩ <;>
    simp [Builtin.append_, run_underlying hT.und, sizeOf, typeInfo, Builtin.lenOf, Builtin.firstCells, storeCells, loadCells, loadCellsFrom, *]
theorem run_appendS (hT : RowOf T P t e bytes) (w : World) (base : Nat) (ty : TypeId) (v : Value) (n : Nat) (l : List α) (hown : OwnS T e w base v n l) (B : Nat) (A : Option Addr) (m c : Nat) (news : List α)
    (hR : Rs T w B A news) (hm : news.length = m) (h63 : n + m ≤ maxLen) (hby : (n + m) * bytes ≤ 140737488355328) (hbase : base ≤ w.heap.size) :
    ∃ v' w', (Builtin.append_ #[t, t] ty #[v, .slice A m c]).run P w = .ok v' w' ∧ OwnS T e w' base v' (n + m) (l ++ news) ∧ w.grownBy w' v.ownBlock ∧ (v'.ownBlock = v.ownBlock ∨ v'.ownBlock = some w.heap.size) ∧ (v' = .slice none 0 0 → v = .slice none 0 0) := by
  rcases Nat.eq_zero_or_pos m with h0 | h0
  · subst h0
    obtain rfl : news = [] := List.eq_nil_of_length_eq_zero hm
    exact ⟨v, w, append_voidS hT w base ty v n _ hown A c, by simpa using hown, grown_refl _ _, .inl rfl, id⟩
  · obtain ⟨b, o, rfl, _, hc⟩ := hR (by omega)
    obtain ⟨i0, z, hi, hz0, hz1, hz2, hz3⟩ := hT.info
    obtain ⟨v', w', hr, h2, h3, h4, h5⟩ := run_append_own_at (P := P) w base t ty e i0 z T.k bytes hT.und hi hz0 hz1 hz2 hz3 hT.pos v n (flatS T l) hown
      ⟨b, o, none⟩ m c (flatS T news) (by rw [flatS_len, hm]) (fun j u hu => by
        obtain ⟨x, hx, hx2⟩ := flatS_cut hT.pos news j u hu
        have := hc _ _ hx _ _ hx2
        rw [show j / T.k * T.k + j % T.k = j by rw [Nat.mul_comm]; exact Nat.div_add_mod j T.k] at this
        rwa [add_plain]) (flatS_one news) h63 hby hbase
    exact ⟨v', w', hr, by unfold OwnS; rw [flatS_append]; exact h2, h3, h5, fun he => (h4.1 he).1⟩
theorem wp_appendS {o : Oper} {a : Act} {K : Act → World → Prop} {Q : Exit → Act → World → Prop} (hT : RowOf T P t e bytes) (s x : Operand)
    (ho : o.op = .call { callee := .builtin .append, args := #[s, x], argTypes := #[t, t] })
    (base : Nat) (v : Value) (n : Nat) (l : List α) (hs : a.eval s = v) (hown : OwnS T e w base v n l)
    (B : Nat) (A : Option Addr) (m c : Nat) (news : List α) (hx : a.eval x = .slice A m c) (hR : Rs T w B A news) (hm : news.length = m) (h63 : n + m ≤ maxLen) (hby : (n + m) * bytes ≤ 140737488355328) (hbase : base ≤ w.heap.size)
    (h : ∀ v' w', OwnS T e w' base v' (n + m) (l ++ news) → w.grownBy w' v.ownBlock → (v'.ownBlock = v.ownBlock ∨ v'.ownBlock = some w.heap.size) → (v' = .slice none 0 0 → v = .slice none 0 0) → K (a.put o.dst v') w') : o.wp P a w K Q := by
  obtain ⟨v', w', hr, h2, h3, h4, h5⟩ := run_appendS hT w base o.type v n l hown B A m c news hR hm h63 hby hbase
  unfold Oper.wp execOp
  simp only [ho, resolve, invoke, builtin, Sem.run_bind, Sem.run_pure, Result.andThen_ok, List.map_toArray, List.map_cons, List.map_nil, hs, hx, hr]
  exact h v' w' h2 h3 h4 h5
theorem wpList_appendS {ops : Array Oper} {rest : List Oper} {o : Oper} {a : Act} {Q : Exit → Act → World → Prop} (hgd : o.guard = Option.none) (hT : RowOf T P t e bytes) (s x : Operand)
    (ho : o.op = .call { callee := .builtin .append, args := #[s, x], argTypes := #[t, t] })
    (base : Nat) (v : Value) (n : Nat) (l : List α) (hs : a.eval s = v) (hown : OwnS T e w base v n l)
    (B : Nat) (A : Option Addr) (m c : Nat) (news : List α) (hx : a.eval x = .slice A m c) (hR : Rs T w B A news) (hm : news.length = m) (h63 : n + m ≤ maxLen) (hby : (n + m) * bytes ≤ 140737488355328) (hbase : base ≤ w.heap.size)
    (h : ∀ v' w', OwnS T e w' base v' (n + m) (l ++ news) → w.grownBy w' v.ownBlock → (v'.ownBlock = v.ownBlock ∨ v'.ownBlock = some w.heap.size) → (v' = .slice none 0 0 → v = .slice none 0 0) → wpList P ops Q rest (a.put o.dst v') w') : wpList P ops Q (o :: rest) a w :=
  wpList_plain hgd fun _ hK => wp_appendS hT s x ho base v n l hs hown B A m c news hx hR hm h63 hby hbase fun v' w' h2 h3 h4 h5 => hK _ _ (h v' w' h2 h3 h4 h5)
theorem step_appendS {ops : Array Oper} {o : Oper} {a : Act} {K : Act → World → Prop} {Q : Exit → Act → World → Prop} {E : Prop} (hgd : o.guard = Option.none) (hT : RowOf T P t e bytes) (s x : Operand)
    (ho : o.op = .call { callee := .builtin .append, args := #[s, x], argTypes := #[t, t] })
    (base : Nat) (v : Value) (n : Nat) (l : List α) (hs : a.eval s = v) (hown : OwnS T e w base v n l)
    (B : Nat) (A : Option Addr) (m c : Nat) (news : List α) (hx : a.eval x = .slice A m c) (hR : Rs T w B A news) (hm : news.length = m) (h63 : n + m ≤ maxLen) (hby : (n + m) * bytes ≤ 140737488355328) (hbase : base ≤ w.heap.size)
    (h : ∀ v' w', OwnS T e w' base v' (n + m) (l ++ news) → w.grownBy w' v.ownBlock → (v'.ownBlock = v.ownBlock ∨ v'.ownBlock = some w.heap.size) → (v' = .slice none 0 0 → v = .slice none 0 0) → K (a.put o.dst v') w') :
    if Region.wanted o (yielded ops a.tmps) = true then Oper.wp P o a w K Q else E := by
  rw [if_pos (show Region.wanted o (yielded ops a.tmps) = true by simp [Region.wanted, hgd])]
  exact wp_appendS hT s x ho base v n l hs hown B A m c news hx hR hm h63 hby hbase h
/-- One element in a block of its own reads as itself. -/
theorem Rs.block {b : Nat} {ty : TypeId} {u : α} (h : Blk w b ty (T.cells u).toArray) : Rs T w w.heap.size (some ⟨b, 0, none⟩) [u] := fun _ =>
  ⟨b, 0, rfl, h.lt, fun j v hv i x hx => by
    rcases j with _ | j
    · simp only [List.getElem?_cons_zero, Option.some.injEq] at hv
      subst hv
      rw [h.cell]
      simpa using hx
    · simp at hv⟩
section
variable {H : Type} {enc : TypeId × Value → H} {W : World}
/-- A slice of such elements among a law's arguments, opened; its reach too. -/
theorem open_S {In : α → Prop} (hu : P.underlying t = some (.slice e)) (hk : P.cellsOf e = T.k) (hkp : 0 < T.k)
    (hone : ∀ {base : Nat} {spare : Nat → Bool} {held : Bool} {n : Nat} {cs : List Value} {x : DataW H × List MemPlace}, DataW.trod enc P W base spare held n e cs = some x → ∃ v : α, In v ∧ cs = T.cells v)
    {b0 : Nat} {v : Value} {d : DataW H} {p : List MemPlace} (hval : Value.okWide P W .any b0 t v) (h : DataW.Trod enc P W 0 (fun _ => true) true t v d p) (hlt : ∀ x ∈ p, x.block < W.heap.size) :
    ∃ (A : Option Addr) (n c : Nat) (l : List α), v = .slice A n c ∧ l.length = n ∧ n ≤ c ∧ c ≤ maxLen ∧ Rs T W W.heap.size A l ∧ (∀ u ∈ l, In u) := by
  obtain ⟨a0, len, cap, rfl⟩ := okWide_slice hu hval
  obtain ⟨fuel, hf⟩ := h
  rcases Go.Deep.open_slice hu hf with ⟨hcs, hx⟩ | ⟨a, len', cap', m, n, D, Pl, hcs, _, hl, hm, hmm, hx, hi⟩
  · simp [Value.cells] at hcs
    obtain ⟨rfl, rfl, rfl⟩ := hcs
    exact ⟨Option.none, 0, 0, [], rfl, rfl, Nat.le_refl _, Nat.zero_le _, (fun hn => absurd hn (by simp)), (fun u hu => nomatch hu)⟩
  · simp [Value.cells] at hcs
    obtain ⟨rfl, rfl, rfl⟩ := hcs
    simp only [if_true] at hmm
    subst hmm
    simp only [Prod.mk.injEq] at hx
    obtain ⟨_, rfl⟩ := hx
    rw [hk] at hi hlt
    have hv : ∀ i, i < m → ∃ v : α, In v ∧ ∀ (j : Nat) x, (T.cells v)[j]? = some x → W.cell? (a.add (i * T.k + j)) = some x := by
      intro i him
      obtain ⟨cs', hc, ht⟩ := hi i him
      obtain ⟨v, hin, rfl⟩ := hone ht
      obtain ⟨_, hcl, hat⟩ := World.cells?_some hc
      refine ⟨v, hin, fun j x hx => ?_⟩
      have hj : j < T.k := by
        rcases Nat.lt_or_ge j T.k with h | h
        · exact h
        · rw [List.getElem?_eq_none (by rw [T.len]; exact h)] at hx; cases hx
      rw [← Go.Deep.add_add, hat j hj, hx]
    have hl2 : ∀ k, k ≤ len → ∃ l : List α, l.length = k ∧ (∀ u ∈ l, In u) ∧ ∀ (j : Nat) v, l[j]? = some v → ∀ (i : Nat) x, (T.cells v)[i]? = some x → W.cell? (a.add (j * T.k + i)) = some x := by
      intro k
      induction k with
      | zero => exact fun _ => ⟨[], rfl, (fun u hu => nomatch hu), (fun j v hv => by simp at hv)⟩
      | succ k ih =>
        intro hk
        obtain ⟨l, h1, h2, h3⟩ := ih (by omega)
        obtain ⟨v, g1, g2⟩ := hv k (by omega)
        refine ⟨l ++ [v], by simp [h1], fun u hu => ?_, fun j u hu => ?_⟩
        · rcases List.mem_append.1 hu with hu | hu
          · exact h2 u hu
          · rw [List.mem_singleton.1 hu]; exact g1
        · rcases Nat.lt_or_ge j k with hj | hj
          · rw [List.getElem?_append_left (by omega)] at hu
            exact h3 j u hu
          · rw [List.getElem?_append_right (by omega), h1] at hu
            have hj2 : j = k := by
              rcases Nat.lt_or_ge k j with h | h
              · rw [List.getElem?_eq_none (by simp; omega)] at hu; cases hu
              · omega
            subst hj2
            simp only [Nat.sub_self, List.getElem?_cons_zero, Option.some.injEq] at hu
            subst hu
            exact g2
    obtain ⟨l, h1, h2, h3⟩ := hl2 len (Nat.le_refl _)
    refine ⟨some a, len, m, l, rfl, h1, hl, hm, fun hn => ?_, h2⟩
    obtain ⟨b, off, spot⟩ := a
    have hne : 0 < (T.cells (l[0]'hn)).length := by rw [T.len]; exact hkp
    have h0 := h3 0 _ (List.getElem?_eq_getElem hn) 0 _ (List.getElem?_eq_getElem hne)
    have hspot : spot = Option.none := by simpa [Addr.add] using World.cell?_spot h0
    subst hspot
    have hmk : 0 < m * T.k := Nat.mul_pos (by omega) hkp
    refine ⟨b, off, rfl, hlt (.cell b off) (List.mem_append_left _ (MemPlace.mem_row.2 ⟨0, hmk, by simp⟩)), fun j v hv i x hx => ?_⟩
    have := h3 j v hv i x hx
    rwa [add_plain] at this
end
end
end Go.Proofs.YtpbfipeinblfgaaGreatDoor
namespace Go.Proofs.YtpbfipeinblfgaaGreatDoor

def fitB (x : Int) : Bool := decide (-9223372036854775808 ≤ x) && decide (x ≤ 9223372036854775807)
theorem fitB_iff {x : Int} : fitB x = true ↔ -9223372036854775808 ≤ x ∧ x ≤ 9223372036854775807 := by simp [fitB]
def addO (s : Option Int) (x : Int) : Option Int := match s with
  | none => none
  | some s => if fitB (s + x) then some (s + x) else none
/-- What the legs of account a come to, one by one. -/
def stepA (a : Nat) (s : Option Int) (g : Nat × Int) : Option Int := if g.1 = a then addO s g.2 else s
def accs (L : List (Nat × Int)) (a : Nat) : Option Int := L.foldl (stepA a) (some 0)
def hasA (L : List (Nat × Int)) (a : Nat) : Bool := L.any (fun g => g.1 == a)
def okL (L : List (Nat × Int)) : Prop := ∀ a, accs L a ≠ none
def sumA (L : List (Nat × Int)) (a : Nat) : Int := (accs L a).getD 0
theorem accs_snoc (L : List (Nat × Int)) (g : Nat × Int) (a : Nat) : accs (L ++ [g]) a = stepA a (accs L a) g := by simp [accs, List.foldl_append]
theorem hasA_snoc (L : List (Nat × Int)) (g : Nat × Int) (a : Nat) : hasA (L ++ [g]) a = (hasA L a || g.1 == a) := by simp [hasA]
theorem step_none (a : Nat) : ∀ M : List (Nat × Int), M.foldl (stepA a) none = none := by
  intro M
  induction M with
  | nil => rfl
  | cons g M ih =>
    rw [List.foldl_cons, show stepA a none g = none by unfold stepA addO; split <;> rfl]
    exact ih
theorem accs_more {L : List (Nat × Int)} {a : Nat} (h : accs L a = none) (M : List (Nat × Int)) : accs (L ++ M) a = none := by
  unfold accs at h ⊢
  rw [List.foldl_append, h, step_none]
theorem okL_take {L : List (Nat × Int)} (h : okL L) (k : Nat) : okL (L.take k) := fun a e => h a (by
  have := accs_more e (L.drop k)
  rwa [List.take_append_drop] at this)
theorem take_snoc {α : Type} (l : List α) {k : Nat} (h : k < l.length) : l.take (k + 1) = l.take k ++ [l[k]] := by
  rw [List.take_succ_eq_append_getElem h]
theorem accs_fit {L : List (Nat × Int)} {a : Nat} {s : Int} (h : accs L a = some s) : -9223372036854775808 ≤ s ∧ s ≤ 9223372036854775807 := by
  have hg : ∀ (M : List (Nat × Int)) (s0 : Int), (-9223372036854775808 ≤ s0 ∧ s0 ≤ 9223372036854775807) → M.foldl (stepA a) (some s0) = some s → -9223372036854775808 ≤ s ∧ s ≤ 9223372036854775807 := by
    intro M
    induction M with
    | nil => intro s0 h0 e; simp only [List.foldl_nil, Option.some.injEq] at e; exact e ▸ h0
    | cons g M ih =>
      intro s0 h0 e
      rw [List.foldl_cons] at e
      unfold stepA addO at e
      split at e
      · simp only at e
        split at e
        · exact ih _ (fitB_iff.1 ‹_›) e
        · have := step_none a M; unfold stepA addO at this; rw [this] at e; cases e
      · exact ih _ h0 e
  exact hg L 0 (by omega) h
theorem sumA_fit (L : List (Nat × Int)) (a : Nat) : -9223372036854775808 ≤ sumA L a ∧ sumA L a ≤ 9223372036854775807 := by
  unfold sumA
  cases h : accs L a with
  | none => simp
  | some s => simpa using accs_fit h
theorem accs_no {L : List (Nat × Int)} {a : Nat} (h : hasA L a = false) : accs L a = some 0 := by
  unfold accs
  have : ∀ (M : List (Nat × Int)) s, hasA M a = false → M.foldl (stepA a) s = s := by
    intro M
    induction M with
    | nil => intro s _; rfl
    | cons g M ih =>
      intro s hm
      simp only [hasA, List.any_cons, Bool.or_eq_false_iff, beq_eq_false_iff_ne] at hm
      rw [List.foldl_cons]
      unfold stepA
      rw [if_neg hm.1]
      have := ih s (by simpa [hasA] using hm.2)
      unfold stepA at this
      exact this
  exact this L _ h
theorem sumA_no {L : List (Nat × Int)} {a : Nat} (h : hasA L a = false) : sumA L a = 0 := by unfold sumA; rw [accs_no h]; rfl
theorem accs_sum {L : List (Nat × Int)} (h : okL L) (a : Nat) : accs L a = some (sumA L a) := by
  unfold sumA
  cases e : accs L a with
  | none => exact absurd e (h a)
  | some s => rfl
theorem sumA_snoc {L : List (Nat × Int)} {g : Nat × Int} (h : okL L) (hf : fitB (sumA L g.1 + g.2) = true) (a : Nat) : accs (L ++ [g]) a = some (if g.1 = a then sumA L a + g.2 else sumA L a) := by
  rw [accs_snoc]
  unfold stepA
  by_cases e : g.1 = a
  · subst e
    rw [if_pos rfl, if_pos rfl, accs_sum h]
    unfold addO
    simp only
    rw [if_pos hf]
  · rw [if_neg e, if_neg e, accs_sum h]
theorem okL_snoc {L : List (Nat × Int)} {g : Nat × Int} (h : okL L) (hf : fitB (sumA L g.1 + g.2) = true) : okL (L ++ [g]) := fun a e => by rw [sumA_snoc h hf a] at e; cases e
theorem sum_snoc {L : List (Nat × Int)} {g : Nat × Int} (h : okL L) (hf : fitB (sumA L g.1 + g.2) = true) (a : Nat) : sumA (L ++ [g]) a = if g.1 = a then sumA L a + g.2 else sumA L a := by
  unfold sumA; rw [sumA_snoc h hf a]; rfl
theorem over_snoc {L : List (Nat × Int)} {g : Nat × Int} (h : okL L) (hf : fitB (sumA L g.1 + g.2) = false) : accs (L ++ [g]) g.1 = none := by
  rw [accs_snoc]
  unfold stepA addO
  rw [if_pos rfl, accs_sum h]
  simp only
  rw [if_neg (by simp [hf])]
/-- The accounts that there are, rising; and the rows of them. -/
def keysA (L : List (Nat × Int)) : List Nat := (List.range 256).filter (hasA L)
def keysTo (L : List (Nat × Int)) (n : Nat) : List Nat := (List.range n).filter (hasA L)
def rowA (L : List (Nat × Int)) (a : Nat) : Nat × Int := (a, sumA L a)
theorem keysTo_succ (L : List (Nat × Int)) (n : Nat) : keysTo L (n + 1) = if hasA L n then keysTo L n ++ [n] else keysTo L n := by
  unfold keysTo
  rw [List.range_succ, List.filter_append]
  by_cases h : hasA L n = true
  · rw [if_pos h]; simp [h]
  · rw [if_neg h]; simp at h; simp [h]
theorem keysTo_len (L : List (Nat × Int)) (n : Nat) : (keysTo L n).length ≤ n := by
  have := List.length_filter_le (hasA L) (List.range n)
  simpa [keysTo] using this
theorem keysA_mem {L : List (Nat × Int)} {a : Nat} : a ∈ keysA L ↔ a < 256 ∧ hasA L a = true := by simp [keysA]
theorem keysA_lt (L : List (Nat × Int)) : (keysA L).Pairwise (· < ·) := List.Pairwise.filter _ List.pairwise_lt_range
/-- No more accounts than legs. -/
theorem nodup_len : ∀ (l m : List Nat), l.Nodup → (∀ a ∈ l, a ∈ m) → l.length ≤ m.length := by
  intro l
  induction l with
  | nil => intro m _ _; exact Nat.zero_le _
  | cons a l ih =>
    intro m hn hm
    rw [List.nodup_cons] at hn
    have ha := hm a (List.mem_cons_self ..)
    have h1 := ih (m.erase a) hn.2 (fun x hx => (List.mem_erase_of_ne (fun e : x = a => hn.1 (by rw [← e]; exact hx))).2 (hm x (List.mem_cons_of_mem _ hx)))
    rw [List.length_erase_of_mem ha] at h1
    have : 0 < m.length := List.length_pos_of_mem ha
    simp only [List.length_cons]
    omega
theorem keys_few {L : List (Nat × Int)} {R : List Nat} (hn : R.Nodup) (hm : ∀ a ∈ R, hasA L a = true) : R.length ≤ L.length := by
  have := nodup_len R (L.map (·.1)) hn (fun a ha => by
    have := hm a ha
    simp only [hasA, List.any_eq_true, beq_iff_eq] at this
    obtain ⟨g, hg, rfl⟩ := this
    exact List.mem_map_of_mem hg)
  simpa using this
/-- Whatever order they were met in: sorted they are one list. -/
theorem sorted_keys {L : List (Nat × Int)} {R : List Nat} (hn : R.Nodup) (hm : ∀ a, a ∈ R ↔ hasA L a = true) (hL : ∀ g ∈ L, g.1 < 256) (le : Nat → Nat → Bool) (hle : ∀ a b, le a b = decide (a ≤ b)) : R.mergeSort le = keysA L := by
  have hp := List.mergeSort_perm R le
  have hs : (R.mergeSort le).Pairwise (fun a b => a ≤ b) := by
    have := List.pairwise_mergeSort (le := le) (fun a b c h1 h2 => by rw [hle] at *; simp at *; omega) (fun a b => by rw [hle, hle]; simp; omega) R
    exact this.imp (fun h => by rw [hle] at h; simpa using h)
  have hk : (keysA L).Pairwise (fun a b => a ≤ b) := (keysA_lt L).imp (fun h => Nat.le_of_lt h)
  have hkn : (keysA L).Nodup := (keysA_lt L).imp (fun h => Nat.ne_of_lt h)
  have hpp : R.Perm (keysA L) := (List.perm_ext_iff_of_nodup hn hkn).2 (fun a => by
    rw [hm, keysA_mem]
    constructor
    · intro h
      refine ⟨?_, h⟩
      simp only [hasA, List.any_eq_true, beq_iff_eq] at h
      obtain ⟨g, hg, rfl⟩ := h
      exact hL g hg
    · exact fun h => h.2)
  exact (hp.trans hpp).eq_of_pairwise (fun a b _ _ h1 h2 => Nat.le_antisymm h1 h2) hs hk
end Go.Proofs.YtpbfipeinblfgaaGreatDoor
namespace Go.Proofs.YtpbfipeinblfgaaGreatDoor
open Go.RowKit

/-- Within 64 bits. -/
def Fits (x : Int) : Prop := -9223372036854775808 ≤ x ∧ x ≤ 9223372036854775807
instance (x : Int) : Decidable (Fits x) := inferInstanceAs (Decidable (_ ∧ _))

set_option maxHeartbeats 1000000 in
theorem CoinAdd_any (a b : Int) (ha : Fits a) (hb : Fits b) (w : World) :
    Calls Tryz.prog 111 #[.int .i64 a, .int .i64 b] w fun e w' => e = .returned (if Fits (a + b) then .tuple #[.int .i64 (a + b), .nilIface] else .tuple #[.int .i64 0, .iface 110 (.int .i64 12)]) ∧ w' = w := by
  unfold Fits at ha hb
  obtain ⟨ha1, ha2⟩ := ha
  obtain ⟨hb1, hb2⟩ := hb
  have i1 : 0 < b → IntKind.i64.wrap (9223372036854775807 - b) = 9223372036854775807 - b := fun h => by rw [IntKind.wrap_i64]; omega
  have i2 : b < 0 → IntKind.i64.wrap (-9223372036854775808 - b) = -9223372036854775808 - b := fun h => by rw [IntKind.wrap_i64]; omega
  by_cases hf : Fits (a + b)
  · rw [if_pos hf]
    unfold Fits at hf
    obtain ⟨hf1, hf2⟩ := hf
    have i3 : IntKind.i64.wrap (a + b) = a + b := by rw [IntKind.wrap_i64]; omega
    rcases Int.lt_trichotomy b 0 with h | h | h
    · have i2 := i2 h
      have h2 : ¬ a < -9223372036854775808 - b := by omega
      have h3 : ¬ 0 < b := by omega
      clear i1
      go_enter Tryz.func111, Tryz.ntmps111
      go_wp2
      go_ret2
      exact ⟨rfl, rfl⟩
    · subst h
      clear i1 i2
      go_enter Tryz.func111, Tryz.ntmps111
      go_wp2
      go_ret2
      refine ⟨?_, rfl⟩
      rw [Int.add_zero]
      rfl
    · have i1 := i1 h
      have h2 : ¬ 9223372036854775807 - b < a := by omega
      have h3 : ¬ b < 0 := by omega
      clear i2
      go_enter Tryz.func111, Tryz.ntmps111
      go_wp2
      go_ret2
      exact ⟨rfl, rfl⟩
  · rw [if_neg hf]
    have hf' : ¬ (-9223372036854775808 ≤ a + b ∧ a + b ≤ 9223372036854775807) := hf
    rcases Int.lt_trichotomy b 0 with h | h | h
    · have i2 := i2 h
      have h2 : a < -9223372036854775808 - b := by omega
      have h3 : ¬ 0 < b := by omega
      clear i1 hf hf'
      go_enter Tryz.func111, Tryz.ntmps111
      go_wp2
      go_ret2
      exact ⟨rfl, rfl⟩
    · exfalso
      omega
    · have i1 := i1 h
      have h2 : 9223372036854775807 - b < a := by omega
      have h3 : ¬ b < 0 := by omega
      clear i2 hf hf'
      go_enter Tryz.func111, Tryz.ntmps111
      go_wp2
      go_ret2
      exact ⟨rfl, rfl⟩

end Go.Proofs.YtpbfipeinblfgaaGreatDoor
namespace Go.Proofs.YtpbfipeinblfgaaGreatDoor
open Go.ChangeShapes Go.WideShapes Go.ChangeAt Go.RowKit

theorem ret_boolC {a b : Bool} (h : a = b) : Ending.returned (.bool a) = .returned (.bool b) := by rw [h]
theorem ret_intC {k : IntKind} {a b : Int} (h : a = b) : Ending.returned (.int k a) = .returned (.int k b) := by rw [h]
theorem block_lt_of_cell {w : World} {p : Addr} {v : Value} (h : w.cell? p = some v) : p.block < w.heap.size := World.block_lt_of_cell? w p h
theorem same_ret {f : Nat} {args : Array Value} {v : Value} {w : World} (h : Calls Tryz.prog f args w fun e w' => e = .returned v ∧ w = w') : Calls Tryz.prog f args w (Ret v w) :=
  h.mono fun _ _ ⟨he, hw⟩ => ⟨he, hw ▸ Below.refl _ _⟩
theorem wf_i32C {z : Int} (h : (Lit.int .i32 z).wf = true) : -2147483648 ≤ z ∧ z ≤ 2147483647 := by
  simp only [Lit.wf, IntKind.min, IntKind.max, IntKind.signed, IntKind.bits, Bool.and_eq_true] at h
  simp at h
  omega
/-- An account and an amount. -/
def legT : Lies (Nat × Int) := ⟨fun d => [.int .u8 (d.1 : Int), .int .i64 d.2], 2, fun _ => rfl, fun d u hu => by
  simp only [List.mem_cons, List.not_mem_nil, or_false] at hu
  rcases hu with rfl | rfl <;> rfl⟩
def LegIn (d : Nat × Int) : Prop := d.1 < 256 ∧ -9223372036854775808 ≤ d.2 ∧ d.2 ≤ 9223372036854775807
theorem rowLeg : RowOf legT Tryz.prog 59 99 16 := RowOf.of (z := .agg #[.int .u8 0, .int .i64 0]) Tryz.underlying59 (by kernel_rfl) rfl (by decide)
section
variable {H : Type} {enc : TypeId × Value → H} {W : World}
theorem cellsLeg : Tryz.prog.cellsOf 99 = 2 := by kernel_rfl
theorem cellsU8 : Tryz.prog.cellsOf 5 = 1 := by kernel_rfl
theorem cellsU32 : Tryz.prog.cellsOf 23 = 1 := by kernel_rfl
theorem cellsDay : Tryz.prog.cellsOf 26 = 1 := by kernel_rfl
theorem cellsCoin : Tryz.prog.cellsOf 22 = 1 := by kernel_rfl
set_option maxRecDepth 20000 in
theorem open_leg {base : Nat} {spare : Nat → Bool} {held : Bool} {n : Nat} {cs : List Value} {x : DataW H × List MemPlace} (h : DataW.trod enc Tryz.prog W base spare held n 99 cs = some x) : ∃ v : Nat × Int, LegIn v ∧ cs = legT.cells v := by
  obtain ⟨xs, n', hn', hy, hlen, hyl, hf⟩ := DataW.trod_struct Tryz.underlying99 h
  rw [cellsLeg] at hlen
  match cs, hlen with
  | [a0, a1], _ =>
    match xs, hyl with
    | [y0, y1], _ =>
      have h0 : DataW.trod enc Tryz.prog W base spare held n' 5 (List.take (Tryz.prog.cellsOf 5) (List.drop 0 [a0, a1])) = some y0 := hf 0 _ rfl
      rw [cellsU8] at h0
      have h1 : DataW.trod enc Tryz.prog W base spare held n' 22 (List.take (Tryz.prog.cellsOf 22) (List.drop 1 [a0, a1])) = some y1 := hf 1 _ rfl
      rw [cellsCoin] at h1
      obtain ⟨z0, e0, _, w0⟩ := DataW.trod_int Tryz.underlying5 (h0 : DataW.trod enc Tryz.prog W base spare held n' 5 [a0] = some y0)
      obtain ⟨z1, e1, _, w1⟩ := DataW.trod_int Tryz.underlying22 (h1 : DataW.trod enc Tryz.prog W base spare held n' 22 [a1] = some y1)
      obtain ⟨k, rfl, hk⟩ := wf_u8 w0
      obtain rfl := List.head_eq_of_cons_eq e0
      obtain rfl := List.head_eq_of_cons_eq e1
      exact ⟨(k, z1), ⟨hk, wf_i64 w1⟩, rfl⟩
set_option maxRecDepth 20000 in
theorem open_legs {b0 : Nat} {v : Value} {d : DataW H} {p : List MemPlace} (hval : Value.okWide Tryz.prog W .any b0 59 v) (h : DataW.Trod enc Tryz.prog W 0 (fun _ => true) true 59 v d p) (hlt : ∀ x ∈ p, x.block < W.heap.size) :
    ∃ (A : Option Addr) (n c : Nat) (l : List (Nat × Int)), v = .slice A n c ∧ l.length = n ∧ n ≤ c ∧ c ≤ maxLen ∧ Rs legT W W.heap.size A l ∧ (∀ u ∈ l, LegIn u) :=
  open_S Tryz.underlying59 cellsLeg (by decide) (fun h => open_leg h) hval h hlt
/-- A key's cells, and its value. -/
structure Ky where
  a : Nat
  d : Int
  k : Nat
  s : Nat
deriving DecidableEq
structure Ky.In (y : Ky) : Prop where
  a : y.a < 4294967296
  d : -2147483648 ≤ y.d ∧ y.d ≤ 2147483647
  k : y.k < 256
  s : y.s < 4294967296
def Ky.v (y : Ky) : Value := .agg #[.int .u32 (y.a : Int), .int .i32 y.d, .int .u8 (y.k : Int), .int .u32 (y.s : Int)]
set_option maxRecDepth 20000 in
theorem open_key {b0 : Nat} {v : Value} {d : DataW H} {p : List MemPlace} (hval : Value.okWide Tryz.prog W .any b0 58 v) (h : DataW.Trod enc Tryz.prog W 0 (fun _ => true) true 58 v d p) :
    ∃ y : Ky, v = y.v ∧ y.In := by
  obtain ⟨e0, e1, e2, e3, x0, x1, x2, x3, fu, rfl, rfl, rfl, g0, g1, g2, g3⟩ := Go.Joins.open_agg4 Tryz.underlying58 (by kernel_rfl) (by kernel_rfl) hval h
  obtain ⟨z0, k0, _, w0⟩ := DataW.trod_int Tryz.underlying23 g0
  obtain ⟨z1, k1, _, w1⟩ := DataW.trod_int Tryz.underlying26 g1
  obtain ⟨z2, k2, _, w2⟩ := DataW.trod_int Tryz.underlying5 g2
  obtain ⟨z3, k3, _, w3⟩ := DataW.trod_int Tryz.underlying23 g3
  obtain rfl := List.head_eq_of_cons_eq k0
  obtain rfl := List.head_eq_of_cons_eq k1
  obtain rfl := List.head_eq_of_cons_eq k2
  obtain rfl := List.head_eq_of_cons_eq k3
  obtain ⟨a, rfl, ha⟩ := wf_u32 w0
  obtain ⟨k, rfl, hk⟩ := wf_u8 w2
  obtain ⟨s, rfl, hs⟩ := wf_u32 w3
  exact ⟨⟨a, z1, k, s⟩, rfl, ⟨ha, wf_i32C w1, hk, hs⟩⟩
end
/-- Leg k of the rows, cell by cell. -/
theorem Rs.leg {w : World} {B : Nat} {A : Option Addr} {l : List (Nat × Int)} {k : Nat} (h : Rs legT w B A l) (hk : k < l.length) : ∃ b o, A = some ⟨b, o, none⟩ ∧ b < B ∧ w.cell? ⟨b, o + k * 2, none⟩ = some (.int .u8 ((l[k]'hk).1 : Int)) ∧ w.cell? ⟨b, o + k * 2 + 1, none⟩ = some (.int .i64 (l[k]'hk).2) := by
  obtain ⟨b, o, e, hb, hc⟩ := h.at_ hk
  exact ⟨b, o, e, hb, hc 0 _ rfl, hc 1 _ rfl⟩
/-- Legs: a slice that reads as these; not nil if there are any. -/
def LegsPost (w : World) (l : List (Nat × Int)) (e : Ending) (w' : World) : Prop :=
  ∃ (A : Option Addr) (c : Nat), e = .returned (.slice A l.length c) ∧ l.length ≤ c ∧ c ≤ maxLen ∧ OwnS legT 99 w' w.heap.size (.slice A l.length c) l.length l ∧ Below w.heap.size w w'
end Go.Proofs.YtpbfipeinblfgaaGreatDoor
