/-
A write laid behind the others. No condition of its own.
-/
import Derived.Test.YtbaenpgjggojaaaDrumGZ9
import Derived.Great.BuildSlice
import Derived.Maps.AppendAt
namespace Go.Proofs.Ytbaenpgjggojaaa
open Go.RowKit

theorem fill_list (l : List Value) : ∀ (k : Nat) (z : Array Value) (j : Nat), k + l.length ≤ z.size →
    ((l.zipIdx k).foldl (fun (cs : Array Value) (p : Value × Nat) => cs.setIfInBounds (0 + p.2) p.1) z)[j]? = if k ≤ j ∧ j < k + l.length then l[j - k]? else z[j]? := by
  induction l with
  | nil => intro k z j _; rw [if_neg (by rw [List.length_nil]; omega)]; rfl
  | cons x l ih =>
    intro k z j h
    rw [List.length_cons] at h ⊢
    rw [List.zipIdx_cons, List.foldl_cons, ih (k + 1) _ j (by rw [Array.size_setIfInBounds]; omega), Nat.zero_add, Array.getElem?_setIfInBounds]
    by_cases h1 : j = k
    · subst h1
      rw [if_neg (by omega), if_pos rfl, if_pos (by omega), if_pos (by omega), Nat.sub_self]
      rfl
    · by_cases h2 : k ≤ j ∧ j < k + (l.length + 1)
      · rw [if_pos (by omega), if_pos h2, show j - k = (j - (k + 1)) + 1 by omega, List.getElem?_cons_succ]
      · rw [if_neg (by omega), if_neg (by omega), if_neg h2]
theorem fill_whole (c z : Array Value) (h : c.size = z.size) : c.zipIdx.foldl (fun (cs : Array Value) (p : Value × Nat) => cs.setIfInBounds (0 + p.2) p.1) z = c := by
  obtain ⟨l⟩ := c
  apply Array.ext_getElem?
  intro j
  have hl : l.length = z.size := by simpa using h
  have e : (List.toArray l).zipIdx = (l.zipIdx 0).toArray := by simp
  rw [e, List.foldl_toArray, fill_list l 0 z j (by omega)]
  by_cases hj : j < l.length
  · rw [if_pos (by omega), Nat.sub_zero, List.getElem?_toArray]
  · rw [if_neg (by omega), Array.getElem?_eq_none (by omega), List.getElem?_toArray, List.getElem?_eq_none (by omega)]

theorem sliceW (cs : Array Value) (hl : cs.size = 257) (u : World) :
    (Instr.buildSlice 83 1 #[(0, .agg cs)]).run Try.prog u = .ok (.slice (some ⟨u.heap.size, 0, none⟩) 1 1) (u.alloc (.cells cs 89)) := by
  obtain ⟨i0, hi, hz0, hz1, hz2⟩ := info_parts infoW
  refine run_buildSlice u 83 89 1 _ cs i0 (.agg (wz 0)) Try.underlying83 hi hz0 (by rw [hz1]; decide) (by rw [hz1]; decide) ?_
  rw [hz1]
  unfold Instr.fill Instr.fill
  have e1 : (Value.agg cs).cells = cs := rfl
  simp only [e1, Nat.zero_mul, Nat.zero_add]
  rw [if_neg (by simp [hl])]
  have := fill_whole cs ((Array.range (1 * 257)).map (fun x => (Value.agg (wz 0)).cells[x % (Value.agg (wz 0)).cells.size]!)) (by simp [hl])
  simp only [Nat.zero_add] at this
  exact congrArg some this

theorem step_append {ops : Array Oper} {o : Oper} {a : Act} {w : World} {K : Act → World → Prop} {Q : Exit → Act → World → Prop} {E : Prop} (hg : o.guard = none) (s x : Operand)
    (ho : o.op = .call { callee := .builtin .append, args := #[s, x], argTypes := #[83, 83] }) (base : Nat)
    (v : Value) (n : Nat) (xs : List Value) (hs : a.eval s = v) (hown : w.ownsRow base 89 257 v n xs)
    (b : Nat) (news : List Value) (hx : a.eval x = .slice (some ⟨b, 0, none⟩) 1 1) (hl : news.length = 257) (hnews : w.rangeAt b 0 news) (h1 : ∀ u ∈ news, u.oneCell' = true)
    (hn : n ≤ 1000000) (hbase : base ≤ w.heap.size)
    (h : ∀ v' w', w'.ownsRow base 89 257 v' (n + 1) (xs ++ news) → w.grownBy w' v.ownBlock → (v'.ownBlock = v.ownBlock ∨ v'.ownBlock = some w.heap.size) → K (a.put o.dst v') w') :
    if Region.wanted o (yielded ops a.tmps) = true then Oper.wp Try.prog o a w K Q else E := by
  have hw : Region.wanted o (yielded ops a.tmps) = true := by simp [Region.wanted, hg]
  rw [if_pos hw]
  obtain ⟨i0, hi, hz0, hz1, hz2⟩ := info_parts infoW
  obtain ⟨v', w', hr, h2, h3, _, h4⟩ := run_append_own_at (P := Try.prog) w base 83 o.type 89 i0 (.agg (wz 0)) 257 264 Try.underlying83 hi hz0 hz1 hz2 (wz_size 0) (by decide) v n xs hown ⟨b, 0, none⟩ 1 1 news (by rw [hl])
    (fun j u hu => by simpa [go_sem] using hnews j u hu) h1 (by unfold maxLen; omega) (by omega) hbase
  unfold Oper.wp execOp
  simp only [ho, resolve, invoke, builtin, Sem.run_bind, Sem.run_pure, Result.andThen_ok, List.map_toArray, List.map_cons, List.map_nil, hs, hx, hr]
  exact h v' w' h2 h3 h4
theorem loc_of {V : Option Addr} {n c n' c' vb s0 s1 : Nat} (h : (Value.slice (some ⟨vb, 0, none⟩) n' c').ownBlock = (Value.slice V n c).ownBlock ∨ (Value.slice (some ⟨vb, 0, none⟩) n' c').ownBlock = some s1) (hs : s0 ≤ s1) :
    ∀ a, (some ⟨vb, 0, none⟩ : Option Addr) = some a → (∃ a', V = some a' ∧ a'.block = a.block) ∨ s0 ≤ a.block := by
  intro a e
  injection e with e
  subst e
  rcases h with h | h
  · cases V with
    | none => cases h
    | some a' => exact .inl ⟨a', rfl, by injection h with h; exact h.symm⟩
  · have h' : vb = s1 := by injection h
    exact .inr (by show s0 ≤ vb; omega)
theorem wp_buildW {o : Oper} {a : Act} {w : World} {K : Act → World → Prop} {Q : Exit → Act → World → Prop} {x : Operand} {cs : Array Value} (ho : o.op = .buildSlice 83 1 #[(0, x)]) (hx : a.eval x = .agg cs) (hl : cs.size = 257)
    (h : K (a.put o.dst (.slice (some ⟨w.heap.size, 0, none⟩) 1 1)) (w.alloc (.cells cs 89))) : o.wp Try.prog a w K Q := by
  unfold Oper.wp execOp
  simp only [ho, Sem.run_bind, List.map_toArray, List.map_cons, List.map_nil, hx, sliceW cs hl, Result.andThen_ok]
  exact h
theorem if_wanted {ops : Array Oper} {o : Oper} {a : Act} {A E : Prop} (hg : o.guard = none) (h : A) : if Region.wanted o (yielded ops a.tmps) = true then A else E := by
  have hw : Region.wanted o (yielded ops a.tmps) = true := by simp [Region.wanted, hg]
  rw [if_pos hw]
  exact h
theorem newRange (w : World) (cs : List Value) (t : TypeId) : (w.drew.alloc (.cells cs.toArray t)).rangeAt w.heap.size 0 cs := fun j v hv => by
  have h := (Blk.new w.drew t cs.toArray).cell (0 + j)
  rw [show w.drew.heap.size = w.heap.size from rfl] at h
  rw [h, Nat.zero_add, List.getElem?_toArray]
  exact hv
theorem blk_far {w w' : World} {k : Nat} {t : TypeId} {cs : Array Value} {v : Value} (h : Blk w k t cs) (hg : w.grownBy w' v.ownBlock) (hne : ∀ a n c, v = .slice (some a) n c → a.block ≠ k) : Blk w' k t cs :=
  h.grown hg fun e => by
    cases v <;> simp only [Value.ownBlock] at e <;> try (cases e)
    rename_i a n c
    cases a with
    | none => simp at e
    | some a => simp at e; exact hne a n c rfl e.symm
/-- What is not its own has not turned. -/
structure Kept (own : Nat → Prop) (w w' : World) : Prop where
  os : w'.os = w.os
  tape : w'.tape = w.tape
  output : w'.output = w.output
  size : w.heap.size ≤ w'.heap.size
  block : ∀ k, k < w.heap.size → ¬ own k → w'.heap[k]? = w.heap[k]?
/-- The blocks that a Write may turn. -/
def ownOf (d f g : Nat) (V : Option Addr) (k : Nat) : Prop := k = d ∨ k = f ∨ k = g ∨ ∃ a, V = some a ∧ a.block = k
theorem kept_write {w3 w4 w6 : World} {d f g i n c : Nat} {V : Option Addr} {u u' : Value} {o : Obj} (hb : Below w3.heap.size w3 w4) (hg : (w4.drew.alloc o).grownBy w6 (Value.slice V n c).ownBlock) :
    Kept (ownOf d f g V) w3 ((w6.setCell ⟨d, 1, none⟩ u).setCell ⟨g, i, none⟩ u').drew where
  os := hg.os.trans hb.os
  tape := hg.tape.trans hb.tape
  output := hg.output.trans hb.output
  size := by
    have h1 := hb.size
    have h2 := hg.size
    simp [World.setCell, World.alloc] at h2 ⊢
    omega
  block := fun k hk hn => by
    have k1 : k ≠ d := fun e => hn (.inl e)
    have k2 : k ≠ g := fun e => hn (.inr (.inr (.inl e)))
    have k3 : some k ≠ (Value.slice V n c).ownBlock := fun e => hn (.inr (.inr (.inr (by
      cases V with
      | none => cases e
      | some a => exact ⟨a, rfl, by injection e with e; exact e.symm⟩))))
    have h4 := hb.size
    refine (Below.heap_setCell _ _ _ k (by exact k2)).trans ((Below.heap_setCell _ _ _ k (by exact k1)).trans ((hg.block k (by simp; omega) k3).trans ((Below.heap_alloc w4.drew o k (by show k < w4.heap.size; omega)).trans (hb.block k hk))))
theorem own_ne {w : World} {base n cap vb k size : Nat} {e t : TypeId} {xs : List Value} {cs : Array Value} (ho : w.ownsRow base e size (.slice (some ⟨vb, 0, none⟩) (n + 1) cap) (n + 1) xs) (hb : Blk w k t cs) (hne : t ≠ e) : vb ≠ k := by
  rintro rfl
  rcases ho.2 with ⟨_, h⟩ | ⟨k', cap', cur, hv, _, hg, _⟩
  · cases h
  · injection hv with hv _ _
    injection hv with hv
    injection hv with hv _ _
    subst hv
    unfold Blk at hb
    rw [hb] at hg
    injection hg with hg
    injection hg with _ h _
    exact hne h
theorem own_set {w : World} {base n cap vb k j size : Nat} {e : TypeId} {xs : List Value} (ho : w.ownsRow base e size (.slice (some ⟨vb, 0, none⟩) (n + 1) cap) (n + 1) xs) (hne : vb ≠ k) (u : Value) : (w.setCell ⟨k, j, none⟩ u).ownsRow base e size (.slice (some ⟨vb, 0, none⟩) (n + 1) cap) (n + 1) xs :=
  ho.kept (grown_setCell (grown_refl w (some k)) (.inl rfl) u) (.inr (fun e => hne (by simpa [Value.ownBlock] using e)))
theorem encI_set (ls : List Nat) (tg : Array Value) (i k : Nat) (hi : i < ls.length) : (encI ls ++ tg).setIfInBounds i (.int .i64 (k : Int)) = encI (ls.set i k) ++ tg := by
  rw [Array.setIfInBounds_append_left (by rw [encI_size]; exact hi)]
  unfold encI
  rw [List.map_set]
  simp
theorem Dru.written {w w' : World} {base d f g : Nat} {V V' : Option Addr} {cv cv' : Nat} {T : Tails} {fl : List (List UInt8)} {ws : List (Nat × List UInt8)} {ls : List Nat} {left : Int} (h : Dru w base d f g V cv T fl ws ls left) (i : Nat) (x : Nat × List UInt8)
    (hd : Blk w' d 86 (dhead (some ⟨f, 0, none⟩) fl.length T.cf V' (ws.length + 1) cv' (some ⟨g, 0, none⟩) fl.length T.cl left)) (hf : Blk w' f 78 (flatS fl ++ T.tf)) (hg : Blk w' g 3 (encI (ls.set i (ws.length + 1)) ++ T.tg))
    (ho : w'.ownsRow base 89 257 (.slice V' (ws.length + 1) cv') (ws.length + 1) (flatW ws ++ encW x)) (hfar : ∀ a, V' = some a → a.block ≠ d ∧ a.block ≠ f ∧ a.block ≠ g) (hx : x.2.length = 256) (hw : ws.length < 1000000) :
    Dru w' base d f g V' cv' T fl (ws ++ [x]) (ls.set i (ws.length + 1)) left where
  head := by rw [List.length_append]; exact hd
  rows := hf
  last := hg
  row := by
    rw [List.length_append, show flatW (ws ++ [x]) = flatW ws ++ encW x by unfold flatW; simp]
    exact ho
  far := ⟨h.far.1, h.far.2.1, h.far.2.2.1, h.far.2.2.2.1, h.far.2.2.2.2.1, h.far.2.2.2.2.2.1, hfar⟩
  len := by rw [List.length_set]; exact h.len
  full := h.full
  fullW := fun y hy => by
    rcases List.mem_append.1 hy with hy | hy
    · exact h.fullW y hy
    · rw [List.mem_singleton.1 hy]; exact hx
  le := fun k hk => by
    rw [List.length_append]
    rcases List.mem_or_eq_of_mem_set hk with hk | rfl
    · have := h.le k hk; simp; omega
    · simp
  few := h.few
  fewW := by rw [List.length_append]; simp; omega
end Go.Proofs.Ytbaenpgjggojaaa
