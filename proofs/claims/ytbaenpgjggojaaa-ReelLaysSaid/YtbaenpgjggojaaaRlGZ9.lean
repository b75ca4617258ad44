/-
The reel keeps a record: one more in its row. Conditions: a reel in memory, whose row is its own.
-/
import Derived.Test.YtbaenpgjggojaaaRlFZ9
import Derived.Test.YtbaenpgjggojaaaRowsBZ9
namespace Go.Proofs.Ytbaenpgjggojaaa
open Go.ChangeShapes Go.WideShapes Go.RowKit

theorem wpList_appendL9 {w : World} {ops : Array Oper} {rest : List Oper} {o : Oper} {a : Act} {Q : Exit → Act → World → Prop} (hgd : o.guard = Option.none) (s x : Operand)
    (ho : o.op = .call { callee := .builtin .append, args := #[s, x], argTypes := #[22, 22] })
    (base : Nat) (v : Value) (n : Nat) (l : List Value) (hs : a.eval s = v) (hown : OwnR w base v n l)
    (b : Nat) (u : Value) (hx : a.eval x = .slice (some ⟨b, 0, none⟩) 1 1) (hR : w.cell? ⟨b, 0, none⟩ = some u) (hu : u.oneCell' = true) (hsz : n ≤ 1000) (hbase : base ≤ w.heap.size)
    (h : ∀ v' w', OwnR w' base v' (n + 1) (l ++ [u]) → w.grownBy w' v.ownBlock → (v'.ownBlock = v.ownBlock ∨ v'.ownBlock = some w.heap.size) → wpList Try.prog ops Q rest (a.put o.dst v') w') : wpList Try.prog ops Q (o :: rest) a w := by
  refine wpList_plain hgd fun _ hK => ?_
  obtain ⟨i0, hi, hz0, hz1, hz2⟩ := info_parts infoR
  obtain ⟨v', w', hr, h2, h3, _, h4⟩ := run_append_own_at (P := Try.prog) w base 22 o.type 35 i0 (.slice none 0 0) 1 24 Try.underlying22 hi hz0 hz1 hz2 rfl (by decide) v n l hown
      ⟨b, 0, none⟩ 1 1 [u] rfl (fun j y hy => by
        rcases j with _ | j
        · simp only [List.getElem?_cons_zero, Option.some.injEq] at hy
          subst hy
          simpa [go_sem] using hR
        · simp at hy) (fun y hy => by rw [List.mem_singleton.1 hy]; exact hu) (by unfold maxLen; omega) (by omega) hbase
  unfold Oper.wp execOp
  simp only [ho, resolve, invoke, builtin, Sem.run_bind, Sem.run_pure, Result.andThen_ok, List.map_toArray, List.map_cons, List.map_nil, hs, hx, hr]
  exact hK _ _ (h v' w' h2 h3 h4)
theorem own_setr {w : World} {base n r i : Nat} {v x : Value} {l : List Value} (h : OwnR w base v n l) (hne : v.ownBlock ≠ some r) : OwnR (w.setCell ⟨r, i, none⟩ x) base v n l := by
  refine ⟨h.1, ?_⟩
  rcases h.2 with h | ⟨g, cap, cur, rfl, h2, h3, h4⟩
  · exact Or.inl h
  · exact Or.inr ⟨g, cap, cur, rfl, h2, (Below.heap_setCell w ⟨r, i, none⟩ x g (fun e => hne (by rw [show (Value.slice (some ⟨g, 0, none⟩) n cap).ownBlock = some g from rfl]; exact congrArg some e))).trans h3, h4⟩
section
variable {w : World} {base d r g n c u p q : Nat} {R A : Option Addr} {l : List Value}
/-- What keep leaves. -/
def KeepPost (w : World) (base d r g n u p : Nat) (R : Option Addr) (c : Nat) (l : List Value) (x : Value) (e : Ending) (w' : World) : Prop :=
  e = .returned (.tuple #[]) ∧ ∃ R' c', Blk w' r 62 (rhead d g R' (n + 1) c' (u + pagesN p)) ∧ OwnR w' base (.slice R' (n + 1) c') (n + 1) (l ++ [x]) ∧
    Kept (fun i => i = r ∨ (Value.slice R n c).ownBlock = some i) w w' ∧ ∀ i, (Value.slice R' (n + 1) c').ownBlock = some i → (Value.slice R n c).ownBlock = some i ∨ w.heap.size ≤ i
set_option maxHeartbeats 2000000 in
theorem keep_any (hr : Blk w r 62 (rhead d g R n c u)) (hown : OwnR w base (.slice R n c) n l) (hbase : base ≤ w.heap.size) (hne : (Value.slice R n c).ownBlock ≠ some r)
    (hn : n ≤ 1000) (hu : u ≤ 8192) (hp : p ≤ 100000) :
    Calls Try.prog 44 #[.pointer (some ⟨r, 0, none⟩), .slice A p q] w (KeepPost w base d r g n u p R c l (.slice A p q)) := by
  obtain ⟨-, -, c2, c3⟩ := rhead_cells hr
  have hlt := hr.lt
  have HO := Lib.hid (hown.alloc (.cells #[.slice A p q] 35))
  have HR := Lib.hid (hr.alloc (.cells #[.slice A p q] 35))
  have HNE := Lib.hid hne
  have HB := Lib.hid hbase
  have f2 := hr.frozen 2
  have cb : (w.alloc (.cells #[.slice A p q] 35)).cell? ⟨w.heap.size, 0, none⟩ = some (.slice A p q) := (Blk.new w 35 #[.slice A p q]).cell 0
  have HCB := Lib.hid cb
  have cP := fun W => Pages_any p (by omega) W
  have hpp : pagesN p ≤ 500 := by unfold pagesN; omega
  obtain ⟨P, hP⟩ : ∃ P, pagesN p = P := ⟨_, rfl⟩
  rw [hP] at cP hpp
  have HP := Lib.hid hP
  have HN := Lib.hid hn
  have hpb : (p : Int) ≤ 100000 := by omega
  have hub : (u : Int) ≤ 8192 := by omega
  have hPb : (P : Int) ≤ 500 := by omega
  clear hr hown hne hbase cb hP hn hp hu hpp
  go_enter Try.func44, Try.ntmps44
  go_wp2_with (with_reducible refine wpList_appendL9 (o := ⟨some 11, _, _, _, _, _⟩) rfl (.tmp 8) (.tmp 10) rfl base (.slice R n c) n l ?h1 HO.out w.heap.size (.slice A p q) ?h2 HCB.out rfl ?h3 ?h4 ?_)
  case h1 => rfl
  case h2 => rfl
  case h3 => exact HN.out
  case h4 => simp; have := HB.out; omega
  intro v1 w1 hown1 hg1 hloc
  obtain ⟨-, R', c', rfl, -, -, -⟩ := own_formR hown1
  have hr1 := HR.out.grown hg1 (fun e => HNE.out e.symm)
  have d2 := hr1.cell 2
  have d3 := hr1.cell 3
  have f2 := hr1.frozen 2
  have f3 := hr1.frozen 3
  have hlt1 := hr1.lt
  have hr3 := (hr1.set_ 2 (.slice R' (n + 1) c')).set_ 3 (.int .i64 ((u : Int) + (P : Int)))
  have HR3 : Hid (Blk ((w1.setCell ⟨r, 2, none⟩ (.slice R' (n + 1) c')).setCell ⟨r, 3, none⟩ (.int .i64 ((u : Int) + (P : Int)))) r 62 (rhead d g R' (n + 1) c' (u + P))) := Lib.hid (by
    have e : ((u : Int) + (P : Int)) = ((u + P : Nat) : Int) := by omega
    rw [show rhead d g R' (n + 1) c' (u + P) = ((rhead d g R n c u).setIfInBounds 2 (.slice R' (n + 1) c')).setIfInBounds 3 (.int .i64 ((u : Int) + (P : Int))) from by rw [e]; rfl]
    exact hr3)
  have hsz1 : w.heap.size + 1 ≤ w1.heap.size := by have := hg1.size; simpa using this
  have hv1 : (Value.slice R' (n + 1) c').ownBlock ≠ some r := by
    rcases hloc with h | h
    · rw [h]; exact HNE.out
    · rw [h]
      intro e
      injection e with e
      have : r < w.heap.size := hlt
      have e2 : (w.alloc (.cells #[.slice A p q] 35)).heap.size = w.heap.size + 1 := by simp
      omega
  have HV := Lib.hid hv1
  have HLC : Hid (∀ i, (Value.slice R' (n + 1) c').ownBlock = some i → (Value.slice R n c).ownBlock = some i ∨ w.heap.size ≤ i) := Lib.hid (by
    intro i hi
    rcases hloc with h | h
    · exact .inl (by rw [← h]; exact hi)
    · rw [h] at hi
      injection hi with hi
      right
      have e2 : (w.alloc (.cells #[.slice A p q] 35)).heap.size = w.heap.size + 1 := by simp
      omega)
  have HSZ : Hid (w.heap.size ≤ (((w1.setCell ⟨r, 2, none⟩ (.slice R' (n + 1) c')).setCell ⟨r, 3, none⟩ (.int .i64 ((u : Int) + (P : Int))))).heap.size) := Lib.hid (by simp [World.setCell]; omega)
  have HBK : Hid (∀ i, i < w.heap.size → ¬ (i = r ∨ (Value.slice R n c).ownBlock = some i) → ((w1.setCell ⟨r, 2, none⟩ (.slice R' (n + 1) c')).setCell ⟨r, 3, none⟩ (.int .i64 ((u : Int) + (P : Int)))).heap[i]? = w.heap[i]?) := Lib.hid (by
    intro i hi hn
    rw [Below.heap_setCell _ _ _ _ (fun e => hn (.inl e)), Below.heap_setCell _ _ _ _ (fun e => hn (.inl e)), hg1.block i (by simp; omega) (fun e => hn (.inr e.symm))]
    exact Below.heap_alloc _ _ _ hi)
  have hW : IntKind.i64.wrap ((u : Int) + (P : Int)) = (u : Int) + (P : Int) := by rw [IntKind.wrap_i64]; omega
  have HO1 := Lib.hid hown1
  have HL := Lib.hid hloc
  have HG := Lib.hid hg1
  unfold rhead at d2 d3
  simp only [List.getElem?_toArray, List.getElem?_cons_succ, List.getElem?_cons_zero] at d2 d3
  clear hown1 hg1 hloc hr1 hr3 c2 c3 HR HO HCB hlt
  go_wp2_with fail
  go_region_with (go_at_call 55; refine (cP _).mono ?_; rintro e w2 ⟨rfl, rfl⟩)
  all_goals
    go_wp2_with fail
    go_end0
    refine ⟨rfl, R', c', ?_, ?_, ?_, ?_⟩
    · rw [HP.out]
      exact HR3.out
    · exact own_setr (own_setr HO1.out HV.out) HV.out
    · exact ⟨HG.out.os, HG.out.tape, HG.out.output, HSZ.out, HBK.out⟩
    · exact HLC.out
end
end Go.Proofs.Ytbaenpgjggojaaa
