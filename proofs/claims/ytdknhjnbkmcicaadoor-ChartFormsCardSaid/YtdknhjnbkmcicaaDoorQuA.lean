/-
  A Quill in memory: one cell that holds a row of bytes of the call's own; appends onto it that say where the new row lies. No condition.
-/
import Derived.Test.YtdknhjnbkmcicaaDoorApp
import Derived.Test.YtdknhjnbkmcicaaDoorQuillM
import Derived.Maps.AppendAt
import Derived.Lib.AppendStr
namespace Go.Proofs.YtdknhjnbkmcicaaDoor
open Go.RowKit

/-- What a change of a Quill in block q with its bytes in block r leaves as it was. -/
def Far (w w' : World) (q : Nat) (r : Option Nat) : Prop := w'.os = w.os ∧ w'.tape = w.tape ∧ w'.output = w.output ∧ w.heap.size ≤ w'.heap.size ∧ ∀ i, i < w.heap.size → i ≠ q → r ≠ some i → w'.heap[i]? = w.heap[i]?
/-- Where the bytes lie now: where they lay, or in a new block. -/
def Stays (w : World) (r r' : Option Nat) : Prop := r' = r ∨ ∃ g, r' = some g ∧ w.heap.size ≤ g
theorem Far.refl (w : World) (q : Nat) (r : Option Nat) : Far w w q r := ⟨rfl, rfl, rfl, Nat.le_refl _, fun _ _ _ _ => rfl⟩
theorem Stays.refl (w : World) (r : Option Nat) : Stays w r r := .inl rfl
theorem Far.trans {a b c : World} {q : Nat} {r r' : Option Nat} (h : Far a b q r) (k : Far b c q r') (hs : Stays a r r') : Far a c q r :=
  ⟨k.1.trans h.1, k.2.1.trans h.2.1, k.2.2.1.trans h.2.2.1, Nat.le_trans h.2.2.2.1 k.2.2.2.1, fun i hi h1 h2 => (k.2.2.2.2 i (Nat.lt_of_lt_of_le hi h.2.2.2.1) h1 (by
    rcases hs with rfl | ⟨g, rfl, hg⟩
    · exact h2
    · intro e; injection e with e; omega)).trans (h.2.2.2.2 i hi h1 h2)⟩
theorem Stays.trans {a b : World} {r r' r'' : Option Nat} (h : Stays a r r') (k : Stays b r' r'') (hs : a.heap.size ≤ b.heap.size) : Stays a r r'' := by
  rcases k with rfl | ⟨g, rfl, hg⟩
  · exact h
  · exact .inr ⟨g, rfl, by omega⟩
theorem Far.alloc {a w : World} {q : Nat} {r : Option Nat} (h : Far a w q r) (o : Obj) : Far a (w.alloc o) q r :=
  ⟨h.1, h.2.1, h.2.2.1, Nat.le_trans h.2.2.2.1 (by simp), fun i hi h1 h2 => (Below.heap_alloc w o i (Nat.lt_of_lt_of_le hi h.2.2.2.1)).trans (h.2.2.2.2 i hi h1 h2)⟩
theorem Far.drew {a w : World} {q : Nat} {r : Option Nat} (h : Far a w q r) : Far a w.drew q r := h
theorem Far.grown {a w w' : World} {q : Nat} {r : Option Nat} (h : Far a w q r) (hg : w.grownBy w' r) : Far a w' q r :=
  ⟨hg.os.trans h.1, hg.tape.trans h.2.1, hg.output.trans h.2.2.1, Nat.le_trans h.2.2.2.1 hg.size, fun i hi h1 h2 => (hg.block i (Nat.lt_of_lt_of_le hi h.2.2.2.1) (fun e => h2 e.symm)).trans (h.2.2.2.2 i hi h1 h2)⟩
theorem Far.set {a w : World} {q : Nat} {r : Option Nat} (h : Far a w q r) (i : Nat) (u : Value) : Far a (w.setCell ⟨q, i, none⟩ u) q r :=
  ⟨h.1, h.2.1, h.2.2.1, by simpa [World.setCell] using h.2.2.2.1, fun j hj h1 h2 => (Below.heap_setCell w ⟨q, i, none⟩ u j h1).trans (h.2.2.2.2 j hj h1 h2)⟩
theorem Far.below {a w w' : World} {q : Nat} {r : Option Nat} (h : Far a w q r) (hb : Below w.heap.size w w') : Far a w' q r :=
  ⟨hb.os.trans h.1, hb.tape.trans h.2.1, hb.output.trans h.2.2.1, Nat.le_trans h.2.2.2.1 hb.size, fun i hi h1 h2 => (hb.block i (Nat.lt_of_lt_of_le hi h.2.2.2.1)).trans (h.2.2.2.2 i hi h1 h2)⟩
theorem Far.to_below {B : Nat} {a w w' : World} {q : Nat} {r : Option Nat} (h : Far w w' q r) (ha : Below B a w) (hB : B ≤ w.heap.size) (hq : B ≤ q) (hr : ∀ g, r = some g → B ≤ g) : Below B a w' :=
  ⟨h.1.trans ha.os, h.2.1.trans ha.tape, h.2.2.1.trans ha.output, Nat.le_trans ha.size h.2.2.2.1, fun i hi => (h.2.2.2.2 i (Nat.lt_of_lt_of_le hi hB) (by omega) (fun e => by have := hr i e; omega)).trans (ha.block i hi)⟩
theorem Blk.past {w w' : World} {g q : Nat} {r : Option Nat} {t : TypeId} {cs : Array Value} (h : Blk w g t cs) (hf : Far w w' q r) (h1 : g ≠ q) (h2 : r ≠ some g) : Blk w' g t cs := (hf.2.2.2.2 g h.lt h1 h2).trans h

/-- A Quill in block q has written l; its bytes lie in block r. -/
def Qu (w : World) (B q : Nat) (r : Option Nat) (l : List UInt8) : Prop := B ≤ q ∧ ∃ v, Blk w q 65 #[v] ∧ OwnB w B v l.length l ∧ v.ownBlock = r
theorem Qu.row {w : World} {B q : Nat} {r : Option Nat} {l : List UInt8} (h : Qu w B q r l) : ∀ g, r = some g → B ≤ g ∧ g < w.heap.size := by
  obtain ⟨_, v, _, ho, rfl⟩ := h
  exact fun g hg => World.ownsRow.lt ho g hg
theorem Qu.lt {w : World} {B q : Nat} {r : Option Nat} {l : List UInt8} (h : Qu w B q r l) : q < w.heap.size := by
  obtain ⟨_, v, hb, _, _⟩ := h
  exact hb.lt
theorem own_apart {w : World} {B n q : Nat} {v : Value} {l : List UInt8} {t : TypeId} {cs : Array Value} (ho : OwnB w B v n l) (hb : Blk w q t cs) (ht : t ≠ 5) : v.ownBlock ≠ some q := by
  intro e
  unfold OwnB at ho
  rcases ho.2 with ⟨rfl, _⟩ | ⟨g, cap, cur, rfl, _, e1, _⟩
  · simp [Value.ownBlock] at e
  · simp only [Value.ownBlock, Option.some.injEq] at e
    subst e
    unfold Blk at hb
    rw [e1] at hb
    simp at hb
    exact ht hb.2.symm
theorem Qu.apart {w : World} {B q : Nat} {r : Option Nat} {l : List UInt8} (h : Qu w B q r l) : r ≠ some q := by
  obtain ⟨_, v, hb, ho, rfl⟩ := h
  exact own_apart ho hb (by decide)
theorem Qu.past {w w' : World} {B q q2 : Nat} {r r2 : Option Nat} {l : List UInt8} (h : Qu w B q r l) (hf : Far w w' q2 r2) (h1 : q ≠ q2) (h2 : r2 ≠ some q) (h3 : r ≠ some q2) (h4 : r = none ∨ r ≠ r2) : Qu w' B q r l := by
  obtain ⟨hB, v, hb, ho, rfl⟩ := h
  refine ⟨hB, v, hb.past hf h1 h2, ?_, rfl⟩
  unfold OwnB at ho ⊢
  refine ⟨ho.1, ?_⟩
  rcases ho.2 with hn | ⟨g, cap, cur, rfl, hbg, hgg, rest⟩
  · exact .inl hn
  · refine .inr ⟨g, cap, cur, rfl, hbg, ?_, rest⟩
    have hlt := (Array.getElem?_eq_some_iff.1 hgg).1
    rw [hf.2.2.2.2 g hlt (fun e => h3 (by rw [← e]; rfl)) (fun e => by
      rcases h4 with h4 | h4
      · simp [Value.ownBlock] at h4
      · exact h4 (by rw [e]; rfl))]
    exact hgg
theorem Qu.below {w w' : World} {B q : Nat} {r : Option Nat} {l : List UInt8} (h : Qu w B q r l) (hb : Below w.heap.size w w') : Qu w' B q r l := by
  obtain ⟨hB, v, hk, ho, rfl⟩ := h
  exact ⟨hB, v, hk.below hb hk.lt, ho.below hb, rfl⟩
theorem Qu.drew {w : World} {B q : Nat} {r : Option Nat} {l : List UInt8} (h : Qu w B q r l) : Qu w.drew B q r l := h
theorem Qu.new {w : World} {B : Nat} (hB : B ≤ w.heap.size) : Qu (w.alloc (.cells #[.slice none 0 0] 65)) B w.heap.size none [] :=
  ⟨hB, _, Blk.new w _ _, OwnB.nil_ _ _, rfl⟩

theorem wpl_append_at {w : World} {ops : Array Oper} {rest : List Oper} {o : Oper} {a : Act} {Q : Exit → Act → World → Prop} (hgd : o.guard = Option.none) (s x : Operand)
    (ho : o.op = .call { callee := .builtin .append, args := #[s, x], argTypes := #[27, 27] })
    (base : Nat) (v : Value) (n : Nat) (l : List UInt8) (hs : a.eval s = v) (hown : OwnB w base v n l)
    (b off m c : Nat) (news : List UInt8) (hx : a.eval x = .slice (some ⟨b, off, none⟩) m c) (hR : ∀ (j : Nat) u, news[j]? = some u → w.cell? ⟨b, off + j, none⟩ = some (.int .u8 (u.toNat : Int))) (hm : news.length = m) (hsz : n + m ≤ 140737488355328) (hbase : base ≤ w.heap.size)
    (h : ∀ v' w', OwnB w' base v' (n + m) (l ++ news) → w.grownBy w' v.ownBlock → (v'.ownBlock = v.ownBlock ∨ v'.ownBlock = some w.heap.size) → wpList Tryd.prog ops Q rest (a.put o.dst v') w') : wpList Tryd.prog ops Q (o :: rest) a w := by
  refine wpList_plain hgd fun _ hK => ?_
  obtain ⟨i0, hi, hz0, hz1, hz2⟩ := info_parts infoB
  obtain ⟨v', w', hr, h2, h3, _, h5⟩ := run_append_own_at (P := Tryd.prog) w base 27 o.type 5 i0 (.int .u8 0) 1 1 Tryd.underlying27 hi hz0 hz1 hz2 rfl (by decide) v n (l.map enc8) hown
      ⟨b, off, none⟩ m c (news.map enc8) (by simpa using hm) (fun j u hu => by
        rw [List.getElem?_map] at hu
        obtain ⟨x, hx, rfl⟩ := Option.map_eq_some_iff.1 hu
        simpa [go_sem, enc8] using hR j x hx) (enc8_one news) (by unfold maxLen; omega) (by omega) hbase
  unfold Oper.wp execOp
  simp only [ho, resolve, invoke, builtin, Sem.run_bind, Sem.run_pure, Result.andThen_ok, List.map_toArray, List.map_cons, List.map_nil, hs, hx, hr]
  exact hK _ _ (h v' w' (by unfold OwnB; rw [List.map_append]; exact h2) h3 h5)
theorem OwnB.drew {w : World} {base n : Nat} {v : Value} {l : List UInt8} (h : OwnB w base v n l) : OwnB w.drew base v n l := h
theorem step_append_b {w : World} {ops : Array Oper} {o : Oper} {a : Act} {K : Act → World → Prop} {Q : Exit → Act → World → Prop} {E : Prop} (hgd : o.guard = Option.none) (s x : Operand)
    (ho : o.op = .call { callee := .builtin .append, args := #[s, x], argTypes := #[27, 27] })
    (base : Nat) (v : Value) (n : Nat) (l : List UInt8) (hs : a.eval s = v) (hown : OwnB w base v n l)
    (b off m c : Nat) (news : List UInt8) (hx : a.eval x = .slice (some ⟨b, off, none⟩) m c) (hR : ∀ (j : Nat) u, news[j]? = some u → w.cell? ⟨b, off + j, none⟩ = some (.int .u8 (u.toNat : Int))) (hm : news.length = m) (hsz : n + m ≤ 140737488355328) (hbase : base ≤ w.heap.size)
    (h : ∀ v' w', OwnB w' base v' (n + m) (l ++ news) → w.grownBy w' v.ownBlock → (v'.ownBlock = v.ownBlock ∨ v'.ownBlock = some w.heap.size) → K (a.put o.dst v') w') : if Region.wanted o (yielded ops a.tmps) = true then Oper.wp Tryd.prog o a w K Q else E := by
  have hw : Region.wanted o (yielded ops a.tmps) = true := by simp [Region.wanted, hgd]
  rw [if_pos hw]
  obtain ⟨i0, hi, hz0, hz1, hz2⟩ := info_parts infoB
  obtain ⟨v', w', hr, h2, h3, _, h5⟩ := run_append_own_at (P := Tryd.prog) w base 27 o.type 5 i0 (.int .u8 0) 1 1 Tryd.underlying27 hi hz0 hz1 hz2 rfl (by decide) v n (l.map enc8) hown
      ⟨b, off, none⟩ m c (news.map enc8) (by simpa using hm) (fun j u hu => by
        rw [List.getElem?_map] at hu
        obtain ⟨x, hx, rfl⟩ := Option.map_eq_some_iff.1 hu
        simpa [go_sem, enc8] using hR j x hx) (enc8_one news) (by unfold maxLen; omega) (by omega) hbase
  unfold Oper.wp execOp
  simp only [ho, resolve, invoke, builtin, Sem.run_bind, Sem.run_pure, Result.andThen_ok, List.map_toArray, List.map_cons, List.map_nil, hs, hx, hr]
  exact h v' w' (by unfold OwnB; rw [List.map_append]; exact h2) h3 h5
end Go.Proofs.YtdknhjnbkmcicaaDoor
