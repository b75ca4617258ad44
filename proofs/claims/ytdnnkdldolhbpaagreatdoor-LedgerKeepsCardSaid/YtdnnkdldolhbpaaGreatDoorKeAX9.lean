/-
The keys of a map of uint32, handed out one by one by maps.Keys. Conditions: the map lies there.
slices.AppendSeq and slices.Collect over the keys of a map of uint32. Conditions: the map lies there; its keys are few.
The library's sort over uint32, XII: Sort. Conditions: the days are there.
slices.Sort of no element; Ledger.Loans. Conditions: the ledger is there; its lines are few.
LedgerLoans: how many lines a loan has, as a map of counts; how long a map is. No condition.
LedgerKeeps: how many lines live; a copy beside the acts. No condition.
-/
import Derived.RangeFuncNested
import Derived.RangeFuncMany
import Derived.RangeFuncBound
import Derived.RangeFuncCalls
import Derived.RangeFuncLeaves
import Derived.WalkKit
import Derived.OwnWalkIn
import Derived.TacticsInMore
import Derived.LoopNIn
import Derived.LoopIn
import Derived.Sort.MapsRangeIn
import Derived.Test.YtdnnkdldolhbpaaGreatDoorCpAX9
import Derived.Test.YtdnnkdldolhbpaaGreatDoorLedCX9
import Derived.Test.YtdnnkdldolhbpaaGreatDoorLnBX9
import Derived.Test.YtdnnkdldolhbpaaGreatDoorSruKX9
import Derived.Lib.Small
import Derived.Sort.OwnSortedInts
import Derived.Lib.OwnBridge
import Derived.Test.YtdnnkdldolhbpaaGreatDoorLtBX9
namespace Go.Proofs.YtdnnkdldolhbpaaGreatDoor
open Go.RowKit Go.Maps Go.MapKept Go.ChangeMaps
attribute [local go_sem] Oper.semAt_some
section
variable {κ : Type} {F : Fence} {fn : Nat} {P : Program} {k t e : TypeId} {In : κ → Prop} {enc : κ → Value} {w w' : World} {m : Option Nat} {r : Nat} {f : κ → Option Value} {left : κ → Prop} {cnt : Nat}
variable {ops : Array Oper} {rest : List Oper} {o : Oper} {a : Act} {Q : Exit → Act → World → Prop}
theorem wpListIn_rangeF (hg : o.guard = none) (mo : Operand) (hop : o.op = Op.range t mo) (K : KeyE P k In enc) (ht : P.underlying t = some (.map k e)) (hm : a.eval mo = .map m) (h : MapO w In enc m f)
    (hK : ∀ w' cnt, MapR w' In enc m w.heap.size f (fun x => ∃ v, f x = some v) cnt → w.grownBy w' none → w'.heap.size = w.heap.size + 1 → wpListIn F fn P ops Q rest (a.put o.dst (.pointer (some ⟨w.heap.size, 0, none⟩))) w') :
    wpListIn F fn P ops Q (o :: rest) a w := by
  refine wpListIn_plain hg fun K' hK' => ?_
  unfold Oper.wpIn
  refine ⟨by simp [Oper.about, hop], ?_⟩
  rw [Oper.semAt_plain F _ _ (by rw [hop]; intro c hc'; cases hc')]
  cases m with
  | none =>
    simp [execOp, hop, hm, run_range_nilMap w t k e ht, Result.andThen]
    refine hK' _ _ (hK _ 0 ⟨(MapKept.heap_alloc w _).1, rfl, fun x ⟨v, hv⟩ => ?_⟩ (World.grownBy_alloc w _ none) (by simp))
    rw [h x] at hv
    cases hv
  | some b =>
    have hlt := MapF.lt h
    obtain ⟨es, clock, hb, F'⟩ := h
    simp [execOp, hop, hm, run_range_map w t k e b es clock ht hb, Result.andThen]
    refine hK' _ _ (hK _ es.size ⟨es, clock, clock, #[], clock, ((MapKept.heap_alloc w _).2 b hlt).trans hb, F', (MapKept.heap_alloc w _).1, F'.2.2.1, by simp [leftOf], fun x => ⟨fun ⟨v, hv⟩ => ?_, fun ⟨e, he, hk, _⟩ => ?_⟩, Nat.le_refl _, Nat.le_refl _⟩ (World.grownBy_alloc w _ none) (by simp))
    · obtain ⟨e, he, hk, _⟩ := F'.2.1 x v hv
      exact ⟨e, he, hk, by simp⟩
    · obtain ⟨y, _, hy, hv⟩ := F'.1 e he
      obtain rfl := K.inj _ _ (hk.symm.trans hy)
      exact ⟨_, hv⟩
/-- A step of a range, run: none is left, or one has come. -/
theorem MapR.next (K : KeyE P k In enc) (ty : TypeId) (h : MapR w In enc m r f left cnt) :
    ((∀ x, ¬ left x) ∧ (Instr.next (.pointer (some ⟨r, 0, none⟩)) false ty).run P w = .ok (.tuple #[.bool false]) w) ∨
    ∃ (x : κ) (v : Value) (w' : World) (cnt' : Nat), In x ∧ left x ∧ f x = some v ∧ MapR w' In enc m r f (fun y => left y ∧ y ≠ x) cnt' ∧ cnt' < cnt ∧ w.grownBy w' (some r) ∧ w'.heap.size = w.heap.size ∧
      (Instr.entry (.pointer (some ⟨r, 0, none⟩))).run P w' = .ok (.tuple #[enc x, v]) w' ∧ (Instr.next (.pointer (some ⟨r, 0, none⟩)) false ty).run P w = .ok (.tuple #[.bool true, enc x, v]) w' := by
  cases m with
  | none =>
    refine .inl ⟨h.2.2, ?_⟩
    simp only [Instr.next, getObj, Sem.run_bind, Sem.run, h.1, Result.andThen]
    rfl
  | some b =>
    obtain ⟨es, clock, since, seen, c0, hb, F, hr, hold, hc, hl, hsc, hsk⟩ := h
    have hne : r ≠ b := fun e => by
      rw [e, hb] at hr
      cases hr
    have hst := (stamped_iff es clock).1 F.2.2
    rcases run_next_at (P := P) w ty r b since c0 seen es clock hr hb hold hsc with ⟨h0, hrun⟩ | ⟨e, he, w1, hal, hrun⟩
    · refine .inl ⟨fun x hx => ?_, hrun⟩
      obtain ⟨e, he, _, hs⟩ := (hl x).1 hx
      rw [all_seen es seen h0 e he] at hs
      cases hs
    · obtain ⟨hem, hes⟩ := mem_left he
      obtain ⟨x, hx, hk, hv⟩ := F.1 e hem
      have hr1 : w1.heap[r]? = some (.mapIter (some b) since seen c0) := by rcases hal with rfl | rfl <;> exact hr
      have hb1 : w1.heap[b]? = some (.map es clock) := by rcases hal with rfl | rfl <;> exact hb
      have hset := heap_set (o' := .mapIter (some b) since (seen.push e.born) clock) hr1
      have hb' : (setBlock w1 r (.mapIter (some b) since (seen.push e.born) clock)).heap[b]? = some (.map es clock) := (hset.2 b (fun e1 => hne e1.symm)).trans hb1
      rw [hk] at hrun
      refine .inr ⟨x, e.val, _, (leftOf es (seen.push e.born)).size, hx, (hl x).2 ⟨e, hem, hk, hes⟩, hv, ⟨es, clock, since, seen.push e.born, clock, hb', F, hset.1, hold, rfl, fun y => ?_, hsk, hsk⟩, by rw [← hc]; exact left_shrinks es seen e he, ?_, ?_, ?_, hrun⟩
      · constructor
        · rintro ⟨h1, h2⟩
          obtain ⟨e2, he2, hk2, hs2⟩ := (hl y).1 h1
          refine ⟨e2, he2, hk2, ?_⟩
          rw [contains_push, hs2, Bool.false_or]
          simp only [beq_eq_false_iff_ne, ne_eq]
          intro hbn
          have := born_inj hst.2.1 he2 hem hbn
          subst this
          exact h2 (K.inj _ _ (hk2.symm.trans hk))
        · rintro ⟨e2, he2, hk2, hs2⟩
          rw [contains_push, Bool.or_eq_false_iff] at hs2
          refine ⟨(hl y).2 ⟨e2, he2, hk2, hs2.1⟩, ?_⟩
          rintro rfl
          have := entry_eq_of_key hst.2.2 he2 hem (hk2.trans hk.symm)
          subst this
          simp at hs2
      · rcases hal with rfl | rfl <;> exact ⟨rfl, rfl, rfl, by simp [setBlock], fun i _ hi => hset.2 i (fun e1 => hi (by rw [e1]))⟩
      · rcases hal with rfl | rfl <;> simp [setBlock]
      · rw [← hk]
        exact run_entry_at _ r b since seen es clock e hset.1 hb' hem hst.2.1
theorem wpListIn_nextF (hg : o.guard = none) (it : Operand) (hop : o.op = Op.next it false) (K : KeyE P k In enc) (hit : a.eval it = .pointer (some ⟨r, 0, none⟩)) (h : MapR w In enc m r f left cnt)
    (hDone : (∀ x, ¬ left x) → wpListIn F fn P ops Q rest (a.put o.dst (.tuple #[.bool false])) w)
    (hMore : ∀ (x : κ) (v : Value) (w' : World) (cnt' : Nat), In x → left x → f x = some v → MapR w' In enc m r f (fun y => left y ∧ y ≠ x) cnt' → cnt' < cnt → w.grownBy w' (some r) → w'.heap.size = w.heap.size →
      (Instr.entry (.pointer (some ⟨r, 0, none⟩))).run P w' = .ok (.tuple #[enc x, v]) w' → wpListIn F fn P ops Q rest (a.put o.dst (.tuple #[.bool true, enc x, v])) w') :
    wpListIn F fn P ops Q (o :: rest) a w := by
  refine wpListIn_plain hg fun K' hK' => ?_
  unfold Oper.wpIn
  refine ⟨by simp [Oper.about, hop], ?_⟩
  rw [Oper.semAt_plain F _ _ (by rw [hop]; intro c hc'; cases hc')]
  rcases h.next K o.type with ⟨hl, hrun⟩ | ⟨x, v, w1, c1, h1, h2, h3, h4, h5, h6, h7, h8, hrun⟩
  · simp [execOp, hop, hit, hrun, Result.andThen]
    exact hK' _ _ (hDone hl)
  · simp [execOp, hop, hit, hrun, Result.andThen]
    exact hK' _ _ (hMore x v w1 c1 h1 h2 h3 h4 h5 h6 h7 h8)
theorem MapR.iter (h : MapR w In enc m r f left cnt) : ∃ o : Obj, w.heap[r]? = some o ∧ o.isWalk = true := by
  cases m with
  | none => exact ⟨_, h.1, rfl⟩
  | some b =>
    obtain ⟨es, clock, since, seen, c0, _, _, hr, _⟩ := h
    exact ⟨_, hr, rfl⟩
theorem MapR.walks (h : MapR w In enc m r f left cnt) (hk : KeepsWalks w w') : MapR w' In enc m r f left cnt := by
  cases m with
  | none => exact ⟨hk.same _ _ h.1 rfl, h.2⟩
  | some b =>
    obtain ⟨es, clock, since, seen, c0, hb, F, hr, rest⟩ := h
    exact ⟨es, clock, since, seen, c0, hk.same _ _ hb rfl, F, hk.same _ _ hr rfl, rest⟩
end
/-- All keys, each once. -/
def AllK (f : Nat → Option Value) (ss : List Nat) : Prop := ss.Nodup ∧ (∀ x, x ∈ ss ↔ ∃ v, f x = some v) ∧ ∀ x ∈ ss, u32In x
/-- The keys that have come. -/
structure SeenK (f : Nat → Option Value) (left : Nat → Prop) (ss : List Nat) : Prop where
  nodup : ss.Nodup
  iff : ∀ x, x ∈ ss ↔ (∃ v, f x = some v) ∧ ¬ left x
  inn : ∀ x ∈ ss, u32In x
theorem SeenK.step {f : Nat → Option Value} {left : Nat → Prop} {ss : List Nat} (h : SeenK f left ss) {x : Nat} {v : Value} (hx : u32In x) (hl : left x) (hf : f x = some v) : SeenK f (fun y => left y ∧ y ≠ x) (ss ++ [x]) := by
  have hn : x ∉ ss := fun hm => ((h.iff x).1 hm).2 hl
  refine ⟨List.nodup_append.2 ⟨h.nodup, by simp, fun y hy z hz => ?_⟩, fun z => ?_, fun y hy => ?_⟩
  · rw [List.mem_singleton.1 hz]
    rintro rfl
    exact hn hy
  · rw [List.mem_append, List.mem_singleton, h.iff z]
    by_cases e : z = x
    · subst e
      simp [hf]
    · simp [e]
  · rcases List.mem_append.1 hy with h1 | h1
    · exact h.inn y h1
    · rw [List.mem_singleton.1 h1]
      exact hx
set_option maxRecDepth 100000 in
set_option maxHeartbeats 2000000 in
theorem keysU_in (n l Bm : Nat) (m : Option Nat) (f : Nat → Option Value) (N : Nat) (hN : ∀ ss : List Nat, ss.Nodup → (∀ x ∈ ss, ∃ v, f x = some v) → ss.length ≤ N) (hn : 1 ≤ n) (J Jx : List Nat → World → Prop)
    (hY : ∀ pre x W, J pre W → pre.length < N → YieldAt Fence.wide (n - 1) Tryz.prog l #[u32E x] W fun e W' =>
      (e = .returned (.bool true) ∧ J (pre ++ [x]) W' ∧ KeepsWalks W W') ∨ (e = .returned (.bool false) ∧ Jx (pre ++ [x]) W'))
    (W : World) (hJ : AbidesFrom W.heap.size J) (hm : W.cell? ⟨Bm, 0, none⟩ = some (.map m)) (hM : MapO W u32In u32E m f) (h0 : J [] W) :
    CallsIn Fence.wide n Tryz.prog 63 #[.func (.yield l) #[] #[], .pointer (some ⟨Bm, 0, none⟩)] W fun e W' => (∃ v, e = .returned v) ∧
      ((∃ ss, AllK f ss ∧ J ss W') ∨ (∃ pre, True ∧ Jx pre W')) := by
  refine callsIn_of_wp Tryz.func63 rfl trivial ?_ rfl
  simp only [Tryz.ntmps63, List.size_toArray, List.length_cons, List.length_nil, Nat.reduceAdd, Nat.reduceSub, Array.replicate_succ, Array.replicate_zero, List.push_toArray, List.append_toArray, List.nil_append, List.cons_append]
  gi_wp2_with (first
    | (gi_at_range; refine wpListIn_rangeF (f := f) rfl _ rfl keyU32 Tryz.underlying83 rfl hM ?_; intro w0 cnt0 hr0 hg0 hs0)
    | gi_in)
  go_frame
  gi_loopw [3] (fun _ wr => ∃ (left : Nat → Prop) (cnt : Nat) (ss : List Nat), Hid (MapR wr u32In u32E m W.heap.size f left cnt) ∧ Hid (SeenK f left ss) ∧ J ss wr)
    (fun _ wr => mapLeft wr m W.heap.size)
  case atStart =>
    exact ⟨_, _, [], Lib.hid hr0, Lib.hid ⟨List.nodup_nil, fun x => by simp, fun x hx => by cases hx⟩, hJ [] W w0 none h0 hg0 (fun r e => by cases e)⟩
  case round =>
    obtain ⟨left, cnt, ss, HR, HS, hJs⟩ := hrel
    gi_wp2_with (first
      | (gi_at_next; refine wpListIn_nextF (f := f) (m := m) (r := W.heap.size) rfl _ rfl keyU32 rfl HR.out ?_ ?_)
      | gi_in)
    · intro hl0
      have HL0 := Lib.hid hl0
      clear hl0
      gi_wp2
      go_end0
      exact ⟨⟨_, rfl⟩, .inl ⟨ss, ⟨HS.out.nodup, fun x => (HS.out.iff x).trans ⟨fun h => h.1, fun h => ⟨h, HL0.out x⟩⟩, HS.out.inn⟩, hJs⟩⟩
    · intro x v w2 cnt2 hx hlx hfx hr2 hlt hg2 hs2 hen
      have hJ2 : J ss w2 := hJ ss wr w2 (some W.heap.size) hJs hg2 (fun r e => by cases e; exact ⟨Nat.le_refl _, HR.out.iter⟩)
      have hS2 := HS.out.step hx hlx hfx
      have hl2 : ss.length < N := by
        have := hN _ hS2.nodup (fun y hy => ((hS2.iff y).1 hy).1)
        simp at this
        omega
      obtain ⟨fn, tmps, assign, body, hy, hR⟩ := hY ss x w2 hJ2 hl2
      have HS2 := Lib.hid hS2
      have HR2 := Lib.hid hr2
      have HLT := Lib.hid (And.intro HR.out.left_eq hlt)
      clear hs2 hS2 hr2 hlt hx hlx hfx hl2
      gi_wp2
      refine hR.mono ?_
      rintro e W3 (⟨rfl, hJ3, hk3⟩ | ⟨rfl, hJx3⟩)
      · gi_wp2
        have hr3 := HR2.out.walks hk3
        go_roundw
        case rel => exact ⟨_, cnt2, ss ++ [x], Lib.hid hr3, HS2, hJ3⟩
        case measure => rw [hr3.left_eq, HLT.out.1]; exact HLT.out.2
      · gi_wp2
        refine bodyPost_ret (results_none rfl _ _ _) rfl ?_
        exact ⟨⟨_, rfl⟩, .inr ⟨_, trivial, hJx3⟩⟩
/-- The iterator over the map of balances, nil or not: its keys, each once. -/
theorem keysU_stops (n Bm : Nat) (m : Option Nat) (f : Nat → Option Value) (N : Nat) (hN : ∀ ss : List Nat, ss.Nodup → (∀ x ∈ ss, ∃ v, f x = some v) → ss.length ≤ N) (hn : 1 ≤ n) (w : World) (hB : Bm < w.heap.size) (hm : w.cell? ⟨Bm, 0, none⟩ = some (.map m))
    (hM : MapO w u32In u32E m f) :
    SeqStopsA Fence.wide n Tryz.prog 63 #[.pointer (some ⟨Bm, 0, none⟩)] (fun x => #[u32E x]) (AllK f) (fun _ => True) N w := fun l J Jx W hW hJ _ hY h0 =>
  keysU_in n l Bm m f N hN hn J Jx hY W hJ ((hW.cell (p := ⟨Bm, 0, none⟩) hB).trans hm) (hM.keep fun b hb => hW.block b (hM.lt hb)) h0
theorem Keys_any (m : Option Nat) (w : World) :
    Calls Tryz.prog 35 #[.map m] w fun e w' => e = .returned (.func (.func 63) #[] #[.pointer (some ⟨w.heap.size, 0, none⟩)]) ∧
      w' = w.alloc (.cells #[.map m] 83) := by
  go_enter Tryz.func35, Tryz.ntmps35
  go_wp2
  go_ret
  exact ⟨rfl, rfl⟩
end Go.Proofs.YtdnnkdldolhbpaaGreatDoor
namespace Go.Proofs.YtdnnkdldolhbpaaGreatDoor
open Go.ChangeShapes Go.WideShapes Go.ChangeAt Go.RowKit Go.Maps
attribute [local go_sem] Oper.semAt_some
/-- How a number of 32 bits lies. -/
def u32T : Lies Nat := ⟨fun a => [u32E a], 1, fun _ => rfl, fun a u hu => by
  simp at hu
  subst hu
  rfl⟩
theorem rowU32 : RowOf u32T Tryz.prog 46 30 4 := RowOf.of (z := .int .u32 0) Tryz.underlying46 (by kernel_rfl) rfl (by decide)
/-- Between two rounds: the box holds what has come. -/
def ApI (B Bs : Nat) (w0 : World) (ss : List Nat) (W : World) : Prop := ∃ v, Blk W Bs 46 #[v] ∧ OwnS u32T 30 W B v ss.length ss ∧ Below B w0 W
theorem apI_own (B Bs C : Nat) (w0 : World) (hB0 : B ≤ w0.heap.size) (hC : B ≤ C) : OwnFrom C (ApI B Bs w0) := by
  rintro ss W W' row ⟨v, h1, h2, h3⟩ hg hr
  have hne : some Bs ≠ row := fun e => by
    obtain ⟨-, b, h5, h6⟩ := hr Bs e.symm
    rw [show W.heap[Bs]? = _ from h1] at h5
    injection h5 with h5
    rw [← h5] at h6
    cases h6
  refine ⟨v, h1.grown hg hne, h2.same fun g hv => hg.block g (h2.lt g hv).2 fun e => ?_, h3.grown hg (Nat.le_trans hB0 h3.size) fun k e => Nat.le_trans hC (hr k e).1⟩
  obtain ⟨cs, hc⟩ := own_blk14 h2 hv
  obtain ⟨-, b, h5, h6⟩ := hr g e.symm
  rw [show W.heap[g]? = _ from hc] at h5
  injection h5 with h5
  rw [← h5] at h6
  cases h6
theorem others_own {w w' : World} {B n : Nat} {v : Value} {l : List Nat} (h : OwnS u32T 30 w B v n l) (hg : w.grownBy w' v.ownBlock) : KeepsOthers w w' := KeepsOthers.of_grownBy hg fun j o e hj => by
  obtain ⟨cs, hc⟩ := own_blk14 h e
  rw [show w.heap[j]? = _ from hc] at hj
  injection hj with hj
  rw [← hj]
  rfl
set_option maxRecDepth 100000 in
set_option maxHeartbeats 4000000 in
theorem AppSeq_any (Bm : Nat) (m : Option Nat) (f : Nat → Option Value) (N : Nat) (hN : ∀ ss : List Nat, ss.Nodup → (∀ x ∈ ss, ∃ v, f x = some v) → ss.length ≤ N) (hN1 : N ≤ 100000) (w : World) (hB : Bm < w.heap.size) (hm : w.cell? ⟨Bm, 0, none⟩ = some (.map m)) (hM : MapO w u32In u32E m f) :
    Calls Tryz.prog 87 #[.slice none 0 0, .func (.func 63) #[] #[.pointer (some ⟨Bm, 0, none⟩)]] w fun e w' =>
      ∃ v ss, e = .returned v ∧ AllK f ss ∧ OwnS u32T 30 w' w.heap.size v ss.length ss ∧ Below w.heap.size w w' := by
  refine (callsIn_wide (n := 6)).1 ?_
  refine callsIn_of_wp_marks Tryz.func87 rfl trivial ?_ rfl
  simp only [Tryz.ntmps87, List.size_toArray, List.length_cons, List.length_nil, Nat.reduceAdd, Nat.reduceSub, Array.replicate_succ, Array.replicate_zero, List.push_toArray, List.append_toArray, List.nil_append, List.cons_append]
  refine wpIn_wide.2 ?_
  go_wp2_with fail
  obtain ⟨W0, hW0⟩ : ∃ W0, w.alloc (.cells #[.slice none 0 0] 46) = W0 := ⟨_, rfl⟩
  have hb0 : Below w.heap.size w W0 := by rw [← hW0]; exact (Below.refl _ w).alloc (Nat.le_refl _) _
  have hs0 : W0.heap.size = w.heap.size + 1 := by rw [← hW0]; simp
  have hx0 : Blk W0 w.heap.size 46 #[.slice none 0 0] := by rw [← hW0]; exact Blk.new w _ _
  rw [hW0]
  clear hW0
  refine (wpIn_wide (n := 6)).1 ?_
  refine wpIn_rangeFunc_ownG rfl (by decide) (gf := 63) (lb := #[.pointer (some ⟨Bm, 0, none⟩)]) rfl trivial (enters_of Tryz.func63 (by kernel_rfl) rfl)
    (seqStopsA_iff.1 (keysU_stops 5 Bm m f N hN (by decide) W0 (by omega) ((hb0.cell (p := ⟨Bm, 0, none⟩) hB).trans hm) (hM.keep fun b hb => hb0.block b (hM.lt hb))))
    KeepsWalks.trans (fun W l ob ob' _ hl _ hw => KeepsWalks.putObj _ hl hw) (Below.refl _ _) (fun _ => rfl)
    (ApI w.heap.size w.heap.size w) (fun _ _ _ => False) (apI_own _ _ _ _ (Nat.le_refl _) (by omega)) (fun _ _ _ _ _ hs _ _ => hs) ?init ?a1 ?assign ?body ?done ?stop
  case assign =>
    intro l x W K hK
    gi_wp2
    exact hK
  case init => exact ⟨_, hx0, ⟨rfl, .inl ⟨rfl, rfl⟩⟩, hb0⟩
  case body =>
    rintro l pre x W ⟨v, hb, ho, hbl⟩ hlen
    have hmx : Tryz.prog.follows .mixedOrders = true := by kernel_rfl
    obtain ⟨i, hi, hz0, hz1, hz2⟩ := info_parts (P := Tryz.prog) (e := 30) (z := .int .u32 0) (size := 1) (bytes := 4) (by kernel_rfl)
    have v2 := hb.cell 0
    simp only [List.getElem?_toArray, List.getElem?_cons_zero] at v2
    have hnb := ho.ne_blk hb (by decide)
    have HB := Lib.hid hb
    have HO := Lib.hid ho
    have HL := Lib.hid hbl
    clear hb ho hbl
    unfold u32E
    gi_wp2_with (first
      | (gi_at_builtin; refine wpListIn_append_own _ rfl _ _ 46 rfl w.heap.size 30 i (.int .u32 0) 1 4 Tryz.underlying46 hi hz0 hz1 hz2 rfl (by decide) _ _ _ rfl (OwnS.alloc HO.out _) ⟨W.heap.size, 0, none⟩ 1 1 [u32E x] rfl rfl (cell_one_new _ _ _) (by simp [Value.oneCell', u32E]) (by unfold maxLen; omega) (by omega) (by have := HL.out.size; simp; omega) ?_
         intro v' w3 ho3 hg3 hnil3
         have hb3 := (HB.out.alloc (.cells #[u32E x] 30)).grown hg3 (fun e => hnb e.symm)
         have v3 := hb3.cell 0
         have f3 := hb3.frozen 0
         simp only [List.getElem?_toArray, List.getElem?_cons_zero] at v3
         obtain ⟨g3, c3, rfl⟩ : ∃ g3 c3, v' = .slice (some ⟨g3, 0, none⟩) (pre.length + 1) c3 := by
           rcases ho3.2 with ⟨_, h0⟩ | ⟨g3, c3, _, h3, _⟩
           · exact absurd h0 (by omega)
           · exact ⟨g3, c3, h3⟩
         have HB3 := Lib.hid hb3
         have HO3 := Lib.hid (And.intro ho3 hg3)
         clear hb3 ho3 hg3 hnil3
         go_frame)
      | gi_in)
    have hk4 := ((KeepsOthers.alloc W (.cells #[.int .u32 (x : Int)] 30)).trans (others_own (OwnS.alloc HO.out _) HO3.out.2)).trans (KeepsOthers.setCell w3 ⟨w.heap.size, 0, none⟩ (.slice (some ⟨g3, 0, none⟩) (pre.length + 1) c3))
    have ho4 : OwnS u32T 30 w3 w.heap.size (.slice (some ⟨g3, 0, none⟩) (pre.length + 1) c3) (pre ++ [x]).length (pre ++ [x]) := by
      unfold OwnS
      rw [List.length_append, flatS_snoc]
      exact HO3.out.1
    have hb4 := HB3.out.set_ 0 (.slice (some ⟨g3, 0, none⟩) (pre.length + 1) c3)
    have hgn : g3 ≠ w.heap.size := fun e => (ho4.ne_blk HB3.out (by decide)) (by rw [e]; rfl)
    have hl3 : Below w.heap.size w w3 := (HL.out.alloc HL.out.size (.cells #[.int .u32 (x : Int)] 30)).grown HO3.out.2 (by have := HL.out.size; simp; omega) (fun k e => (HO.out.lt k e).1)
    refine ⟨hk4.from _, hk4.walks, _, hb4, ho4.same fun g hv => Below.heap_setCell _ _ _ _ fun e => ?_, hl3.setCell (p := ⟨w.heap.size, 0, none⟩) (Nat.le_refl _) _⟩
    have hv' : some g3 = some g := hv
    injection hv' with hv'
    exact hgn (hv'.trans e)
  case done =>
    rintro D xs W hD hS ⟨v, hb, ho, hbl⟩ hK
    have v2 := hb.cell 0
    simp only [List.getElem?_toArray, List.getElem?_cons_zero] at v2
    have HB := Lib.hid hb
    have HO := Lib.hid ho
    have HL := Lib.hid hbl
    have HK := Lib.hid hK
    clear hb ho hbl hK
    go_wp2_with fail
    refine ⟨by simp, .inl ⟨_, _, rfl, run_takeDeferred HK.out, ?_⟩⟩
    refine ⟨_, results_tmp rfl _ _ _, v, xs, rfl, hS, HO.out.same fun g hv => ?_, HL.out.grown (grownBy_putObj' W D _) HL.out.size (fun k e => by cases e; omega)⟩
    refine World.putObj_heap_other fun e => ?_
    obtain ⟨cs, hc⟩ := own_blk14 HO.out hv
    have hd := HK.out
    rw [← e, show W.heap[g]? = _ from hc] at hd
    cases hd
  case stop =>
    rintro D c pre W _ _ h _
    exact h.elim
end Go.Proofs.YtdnnkdldolhbpaaGreatDoor
namespace Go.Proofs.YtdnnkdldolhbpaaGreatDoor.U32
open Go.RowKit
open Go.Sort (putRow Holds swp ltInt PermIn SortedIn)

set_option maxRecDepth 20000 in
theorem Sort9 (n blk off cap : Nat) (d : Array Int) (w : World) (hn : d.size = n) (hH : Holds eD w blk off d) (hblk : blk < w.heap.size) (hsz : n ≤ 1000000) :
    Calls Tryz.prog 62 #[.slice (some ⟨blk, off, none⟩) n cap] w fun e w' => e = .returned (.tuple #[]) ∧ ∃ d', PermIn 0 n d d' ∧ SortedIn ltInt 0 n d' ∧ At9 w blk off d' w' := by
  have hC := Pdq9 n blk off cap hsz (n + 1) 0 n (Lib.bitLen n) d w (by omega) hn hH hblk (by omega) (Nat.le_refl _) (by have := bit_le hsz; omega) (.inl rfl)
  have hL := Len9 n hsz w
  generalize Lib.bitLen n = k at hC hL
  go_enter Tryz.func62, Tryz.ntmps62
  go_wp2_with fail
  refine hL.mono ?_
  rintro e w' ⟨rfl, rfl⟩
  go_wp2_with fail
  refine hC.mono ?_
  rintro e w2 ⟨rfl, d', hp, hs, hA⟩
  have HP := Lib.hid hp
  have HS := Lib.hid hs
  have HA := Lib.hid hA
  clear hp hs hA hC hL
  go_wp2_with fail
  go_end0
  exact ⟨rfl, d', HP.out, HS.out, HA.out⟩

end Go.Proofs.YtdnnkdldolhbpaaGreatDoor.U32
namespace Go.Proofs.YtdnnkdldolhbpaaGreatDoor
open Go.ChangeShapes Go.WideShapes Go.ChangeAt Go.RowKit Go.Maps
set_option maxRecDepth 20000 in
theorem Ins0 (w : World) : Calls Tryz.prog 115 #[.slice none 0 0, .int .i64 0, .int .i64 0] w fun e w' => e = .returned (.tuple #[]) ∧ w' = w := by
  go_enter Tryz.func115, Tryz.ntmps115
  go_wp2
  go_loopw [6] (fun i wr => i = .int .i64 1 ∧ wr = w) (fun _ _ => 0)
  case atStart => exact ⟨by go_num, rfl⟩
  case round =>
    obtain ⟨rfl, rfl⟩ := hrel
    go_wp2
    go_end0
    exact ⟨rfl, rfl⟩
set_option maxRecDepth 20000 in
theorem Pdq0 (l : Nat) (w : World) : Calls Tryz.prog 88 #[.slice none 0 0, .int .i64 0, .int .i64 0, .int .i64 l] w fun e w' => e = .returned (.tuple #[]) ∧ w' = w := by
  have hI := fun W => Ins0 W
  go_enter Tryz.func88, Tryz.ntmps88
  go_wp2_with fail
  go_loopw [1, 2, 3, 8, 9] (fun x y _ _ _ wr => x = .int .i64 0 ∧ y = .int .i64 0 ∧ wr = w) (fun _ _ _ _ _ _ => 0)
  case atStart => exact ⟨rfl, rfl, rfl⟩
  case round =>
    obtain ⟨rfl, rfl, rfl⟩ := hrel
    go_wp2_with fail
    refine (hI _).mono ?_
    rintro x w2 ⟨rfl, rfl⟩
    go_wp2_with fail
    try simp only [Exit.inBlock, Exit.then]
    refine bodyPost_ret (results_none rfl _ _ _) rfl ?_
    exact ⟨rfl, rfl⟩
set_option maxRecDepth 20000 in
theorem Sort0 (w : World) : Calls Tryz.prog 62 #[.slice none 0 0] w fun e w' => e = .returned (.tuple #[]) ∧ w' = w := by
  have hL := U32.Len9 0 (by decide) w
  have hP := fun l W => Pdq0 l W
  go_enter Tryz.func62, Tryz.ntmps62
  go_wp2_with fail
  refine hL.mono ?_
  rintro e w' ⟨rfl, rfl⟩
  go_wp2_with fail
  refine (hP _ _).mono ?_
  rintro e w2 ⟨rfl, rfl⟩
  go_wp2_with fail
  go_end0
  exact ⟨rfl, rfl⟩
theorem at_grown {w w' : World} {g : Nat} {d : Array Int} (h : U32.At9 w g 0 d w') : w.grownBy w' (some g) := by
  obtain ⟨n, os, rfl⟩ := h
  refine ⟨rfl, rfl, rfl, by simp, fun k hk hne => ?_⟩
  rw [Go.Sort.heap_grow_old _ _ (by simpa using hk)]
  have : g ≠ k := fun e => hne (by rw [e])
  simp [Go.Sort.putRow, Go.Sort.mapBlock, Go.Sort.ahead, Array.getElem?_modify, this]
def toI (a : Nat) : Int := (a : Int)
theorem flat_u32 (ss : List Nat) : flatS u32T ss = (ss.map toI).map U32.eD := by
  induction ss with
  | nil => rfl
  | cons a ss ih =>
    simp only [flatS, List.flatMap_cons, List.map_cons] at ih ⊢
    rw [ih]
    rfl
/-- What a sort makes of numbers of which no two are the same. -/
theorem rising_of (ss : List Nat) (d : Array Int) (hn : ss.Nodup) (hp : Go.Sort.PermIn 0 ss.length (ss.map toI).toArray d) (hs : Go.Sort.SortedIn Go.Sort.ltInt 0 ss.length d) : ∃ R : List Nat, R.Perm ss ∧ d.toList = R.map toI ∧ R.Pairwise (· < ·) := by
  obtain ⟨hsz, -, hpm⟩ := hp
  simp only [List.size_toArray, List.length_map] at hsz
  have h1 : d.extract 0 ss.length = d := by rw [← hsz]; simp
  have h2 : (ss.map toI).toArray.extract 0 ss.length = (ss.map toI).toArray := by
    have h := Array.extract_size (xs := (ss.map toI).toArray)
    simpa using h
  rw [h1, h2] at hpm
  have hback : d.toList = (d.toList.map Int.toNat).map toI := by
    rw [List.map_map]
    refine (List.map_id _).symm.trans (List.map_congr_left fun x hx => ?_)
    obtain ⟨a, _, rfl⟩ := List.mem_map.1 (hpm.mem_iff.1 hx)
    simp [toI]
  have hperm : (d.toList.map Int.toNat).Perm ss := by
    have h := hpm.map Int.toNat
    rwa [show ((ss.map toI).toArray.toList.map Int.toNat) = ss by
      rw [List.map_map]
      exact (List.map_congr_left fun x _ => by simp [toI]).trans (List.map_id _)] at h
  refine ⟨d.toList.map Int.toNat, hperm, hback, ?_⟩
  have hnd := hperm.nodup_iff.2 hn
  rw [List.pairwise_iff_getElem]
  intro i j hi hj hij
  have hi2 : i < d.size := by simpa using hi
  have hj2 : j < d.size := by simpa using hj
  have hle := hs i j (Nat.zero_le _) hij (by omega)
  rw [getElem!_pos d i hi2, getElem!_pos d j hj2] at hle
  have hle2 : d[i] ≤ d[j] := by simpa [Go.Sort.ltInt] using hle
  have hne : (d.toList.map Int.toNat)[i] ≠ (d.toList.map Int.toNat)[j] := fun e => by
    have := (List.getElem_inj hnd).1 e
    omega
  simp only [List.getElem_map, Array.getElem_toList] at hne ⊢
  omega
set_option maxRecDepth 20000 in
theorem Collect_any (Bm : Nat) (m : Option Nat) (f : Nat → Option Value) (N : Nat) (hN : ∀ ss : List Nat, ss.Nodup → (∀ x ∈ ss, ∃ v, f x = some v) → ss.length ≤ N) (hN1 : N ≤ 100000) (w : World) (hB : Bm < w.heap.size) (hm : w.cell? ⟨Bm, 0, none⟩ = some (.map m)) (hM : MapO w u32In u32E m f) :
    Calls Tryz.prog 61 #[.func (.func 63) #[] #[.pointer (some ⟨Bm, 0, none⟩)]] w fun e w' =>
      ∃ v ss, e = .returned v ∧ AllK f ss ∧ OwnS u32T 30 w' w.heap.size v ss.length ss ∧ Below w.heap.size w w' := by
  have hA := AppSeq_any Bm m f N hN hN1 w hB hm hM
  go_enter Tryz.func61, Tryz.ntmps61
  go_wp2_with fail
  refine hA.mono ?_
  rintro e w' ⟨v, ss, rfl, h1, h2, h3⟩
  have H1 := Lib.hid (And.intro h1 (And.intro h2 h3))
  clear hA h1 h2 h3
  go_wp2_with fail
  refine fin_tmp rfl (by rfl) ?_
  exact ⟨v, ss, rfl, H1.out.1, H1.out.2.1, H1.out.2.2⟩
/-- Numbers that rise, of these keys. -/
def SdPost (f : Nat → Option Value) (w : World) (e : Ending) (w' : World) : Prop := ∃ (R : List Nat) (A : Option Addr) (c : Nat), e = .returned (.slice A R.length c) ∧ R.Pairwise (· < ·) ∧ (∀ x, x ∈ R ↔ ∃ v, f x = some v) ∧ (∀ x ∈ R, u32In x) ∧ Rs u32T w' w'.heap.size A R ∧ Below w.heap.size w w'
set_option maxRecDepth 20000 in
set_option maxHeartbeats 1000000 in
theorem Sorted_any (Bm : Nat) (m : Option Nat) (f : Nat → Option Value) (N : Nat) (hN : ∀ ss : List Nat, ss.Nodup → (∀ x ∈ ss, ∃ v, f x = some v) → ss.length ≤ N) (hN1 : N ≤ 100000) (w : World) (hB : Bm < w.heap.size) (hm : w.cell? ⟨Bm, 0, none⟩ = some (.map m)) (hM : MapO w u32In u32E m f) :
    Calls Tryz.prog 34 #[.func (.func 63) #[] #[.pointer (some ⟨Bm, 0, none⟩)]] w (SdPost f w) := by
  have hA := Collect_any Bm m f N hN hN1 w hB hm hM
  have HN := Lib.hid hN
  have h0 := fun W => Sort0 W
  clear hM hm hN
  go_enter Tryz.func34, Tryz.ntmps34
  go_wp2_with fail
  refine hA.mono ?_
  rintro e w3 ⟨v, ss, rfl, h1, h2, h3⟩
  have H1 := Lib.hid h1
  have H3 := Lib.hid h3
  clear hA h1 h3
  by_cases hv : v = .slice none 0 0
  · subst hv
    have hss : ss = [] := by
      rcases h2.2 with ⟨_, h⟩ | ⟨g, cap, cur, h, _⟩
      · exact List.eq_nil_of_length_eq_zero h
      · cases h
    subst hss
    clear h2
    go_wp2_with fail
    refine (h0 _).mono ?_
    rintro e w4 ⟨rfl, rfl⟩
    clear h0
    go_wp2_with fail
    refine fin_tmp rfl (by rfl) ?_
    exact ⟨[], none, 0, rfl, List.Pairwise.nil, H1.out.2.1, H1.out.2.2, Rs.nil_, H3.out⟩
  · have h2' : w3.ownsRow w.heap.size 30 1 v ss.length ((ss.map toI).map U32.eD) := by
      rw [← flat_u32]
      exact h2
    obtain ⟨g, cap, rfl, hg1, hg2, hn1, hn2, hn3, hH⟩ := Lib.holds_of_ownsRow h2' hv
    have hS := U32.Sort9 ss.length g 0 cap (ss.map toI).toArray w3 (by simp) hH hg2 (by have := HN.out ss H1.out.1 (fun x hx => (H1.out.2.1 x).1 hx); omega)
    have HH := Lib.hid hH
    clear h2 h2' hH h0 hn1 hn2 hn3 hv
    go_wp2_with fail
    refine hS.mono ?_
    rintro e w4 ⟨rfl, d, hp, hs, hat⟩
    obtain ⟨R, hR1, hR2, hR3⟩ := rising_of ss d H1.out.1 hp hs
    have hgr := at_grown hat
    have hb4 : Below w.heap.size w w4 := H3.out.grown hgr H3.out.size (fun k e => by cases e; exact hg1)
    have hh := hat.holds HH.out (by simpa using hp.1) hg2
    have hlen : R.length = ss.length := hR1.length_eq
    have hrs : Rs u32T w4 w4.heap.size (some ⟨g, 0, none⟩) R := fun _ => by
      refine ⟨g, 0, rfl, hh.2, fun j a hj i x hx => ?_⟩
      have hjl := (List.getElem?_eq_some_iff.1 hj).1
      have hdl : j < d.size := by
        have := congrArg List.length hR2
        simp at this
        omega
      have hx1 : i = 0 ∧ x = u32E a := by
        cases i with
        | zero =>
          simp [u32T] at hx
          exact ⟨rfl, hx.symm⟩
        | succ i =>
          simp [u32T] at hx
      obtain ⟨rfl, rfl⟩ := hx1
      have hc := (hh.1 j hdl).1
      have hd : d[j]! = (a : Int) := by
        rw [getElem!_pos d j hdl]
        have h := congrArg (fun l => l[j]?) hR2
        simp only [List.getElem?_map, hj, Array.getElem?_toList, Array.getElem?_eq_getElem hdl, Option.map_some, Option.some.injEq] at h
        exact h
      rw [hd] at hc
      simpa [u32T, u32E, U32.eD] using hc
    have HX := Lib.hid (And.intro hR1 (And.intro hR3 (And.intro hrs (And.intro hb4 hlen))))
    clear hR1 hR2 hR3 hgr hb4 hh hrs hlen hS hp hs hat
    go_wp2_with fail
    refine fin_tmp rfl (by rfl) ?_
    exact ⟨R, some ⟨g, 0, none⟩, cap, by rw [HX.out.2.2.2.2]; rfl, HX.out.2.1, fun x => (HX.out.1.mem_iff).trans (H1.out.2.1 x), fun x hx => H1.out.2.2 x (HX.out.1.mem_iff.1 hx), HX.out.2.2.1, HX.out.2.2.2.1⟩
def LoansPost (M : List Li) (w : World) (e : Ending) (w' : World) : Prop := ∃ (R : List Nat) (A : Option Addr) (c : Nat), e = .returned (.slice A R.length c) ∧ R.Pairwise (· < ·) ∧ (∀ a, a ∈ R ↔ hasLn M a = true) ∧ (∀ a ∈ R, u32In a) ∧ Rs u32T w' w'.heap.size A R ∧ Below w.heap.size w w'
theorem LedL.bals {w : World} {q : Nat} {D : Nat → Prop} {M : List Li} (h : Led w q D M) : ∃ bm, w.cell? ⟨q, 2, none⟩ = some (.map bm) ∧ MapO w u32In u32E bm (fun a => if hasLn M a then some (.agg (vec (bal M a))) else none) := by
  obtain ⟨lv, V, lm, bm, inn, h1, h2, h3, h4, h5, h6⟩ := h
  refine ⟨bm, h1.cell 2, ?_⟩
  cases bm with
  | none =>
    rw [h5.nil rfl]
    intro x
    rfl
  | some b => exact (h5.out b rfl).2
set_option maxRecDepth 20000 in
set_option maxHeartbeats 1000000 in
theorem Loans_any (q : Nat) (D : Nat → Prop) (M : List Li) (w : World) (h : Led w q D M) (hM : M.length ≤ 100000) : Calls Tryz.prog 14 #[.pointer (some ⟨q, 0, none⟩)] w (LoansPost M w) := by
  obtain ⟨bm, c1, hmo⟩ := LedL.bals h
  have hN : ∀ ss : List Nat, ss.Nodup → (∀ x ∈ ss, ∃ v, (if hasLn M x then some (Value.agg (vec (bal M x))) else none) = some v) → ss.length ≤ M.length := fun ss hn hx => by
    have hs : ss ⊆ M.map (fun x => x.y.a) := fun a ha => by
      obtain ⟨v, hv⟩ := hx a ha
      by_cases e : hasLn M a = true
      · unfold hasLn at e
        rw [List.any_eq_true] at e
        obtain ⟨z, hz, hz2⟩ := e
        exact List.mem_map.2 ⟨z, hz, by simpa using hz2⟩
      · rw [if_neg e] at hv
        cases hv
    have := hn.length_le_of_subset hs
    simpa using this
  have hb1 : Below w.heap.size w (w.alloc (.cells #[.map bm] 83)) := (Below.refl _ w).alloc (Nat.le_refl _) _
  have hS := Sorted_any w.heap.size bm _ M.length hN hM (w.alloc (.cells #[.map bm] 83)) (by simp) ((Blk.new w 83 #[.map bm]).cell 0) (hmo.keep fun b hb => hb1.block b (hmo.lt hb))
  have hK := Keys_any bm w
  clear hN hmo h
  go_enter Tryz.func14, Tryz.ntmps14
  go_wp2_with fail
  refine hK.mono ?_
  rintro e w1 ⟨rfl, rfl⟩
  go_wp2_with fail
  refine hS.mono ?_
  rintro e w2 ⟨R, A, c, rfl, h1, h2, h3, h4, h5⟩
  have HX := Lib.hid (And.intro h1 (And.intro h2 (And.intro h3 (And.intro h4 h5))))
  clear h1 h2 h3 h4 h5 hS hK
  go_wp2_with fail
  refine fin_tmp rfl (by rfl) ?_
  refine ⟨R, A, c, rfl, HX.out.1, fun a => (HX.out.2.1 a).trans ?_, HX.out.2.2.1, HX.out.2.2.2.1, hb1.trans (HX.out.2.2.2.2.mono (by simp))⟩
  by_cases e : hasLn M a = true
  · simp [e]
  · simp [e]
end Go.Proofs.YtdnnkdldolhbpaaGreatDoor
namespace Go.Proofs.YtdnnkdldolhbpaaGreatDoor
open Go.ChangeShapes Go.WideShapes Go.ChangeAt Go.RowKit Go.Maps
theorem MapF.len {κ : Type} {P : Program} {k t e : TypeId} {In : κ → Prop} {enc : κ → Value} {w : World} {b : Nat} {f : κ → Option Value} (h : MapF w In enc b f) (K : KeyE P k In enc) (ht : P.underlying t = some (.map k e)) {R : List κ} (hn : R.Nodup) (hR : ∀ x, x ∈ R ↔ ∃ v, f x = some v) (ty : TypeId) :
    (Builtin.len_ #[t] ty #[.map (some b)]).run P w = .ok (.int .i64 (R.length : Int)) w := by
  obtain ⟨es, clock, hb, F⟩ := h
  have hk := F.2.2.2.2
  have h1 : es.toList.map (·.key) ⊆ R.map enc := fun v hv => by
    obtain ⟨e, he, rfl⟩ := List.mem_map.1 hv
    obtain ⟨x, _, hx, hfx⟩ := F.1 e he
    exact List.mem_map.2 ⟨x, (hR x).2 ⟨_, hfx⟩, hx.symm⟩
  have h2 : R.map enc ⊆ es.toList.map (·.key) := fun v hv => by
    obtain ⟨x, hx, rfl⟩ := List.mem_map.1 hv
    obtain ⟨u, hu⟩ := (hR x).1 hx
    obtain ⟨e, he, hek, _⟩ := F.2.1 x u hu
    exact List.mem_map.2 ⟨e, he, hek⟩
  have hn2 : (R.map enc).Nodup := by
    rw [List.nodup_iff_pairwise_ne] at hn ⊢
    exact List.pairwise_map.2 (hn.imp fun hxy h => hxy (K.inj _ _ h))
  have l1 := hk.length_le_of_subset h1
  have l2 := hn2.length_le_of_subset h2
  simp only [List.length_map, Array.length_toList] at l1 l2
  have hs : es.size = R.length := by omega
  simp [Builtin.len_, run_underlying ht, go_sem, goInt, MapKept.run_getObj_map hb, hs]
/-- How many lines are a loan's. -/
def cntL (M : List Li) (a : Nat) : Nat := M.countP (fun x => x.y.a == a)
def hasF (M : List Li) : Nat → Option Value := fun a => if cntL M a = 0 then none else some (natV (cntL M a))
theorem cnt_snoc (M : List Li) (x : Li) (a : Nat) : cntL (M ++ [x]) a = cntL M a + if x.y.a = a then 1 else 0 := by
  unfold cntL
  rw [List.countP_append, List.countP_singleton]
  simp
theorem cnt_le (M : List Li) (a : Nat) : cntL M a ≤ M.length := List.countP_le_length
theorem hasF_nil : hasF [] = fun _ => none := rfl
theorem hasF_snoc (M : List Li) (x : Li) : hasF (M ++ [x]) = upd (hasF M) x.y.a (some (natV (cntL M x.y.a + 1))) := by
  funext a
  unfold hasF upd
  rw [cnt_snoc]
  by_cases h : a = x.y.a
  · subst h
    simp
  · rw [if_neg h, if_neg (fun e : x.y.a = a => h e.symm), Nat.add_zero]
theorem hasF_get (M : List Li) (a : Nat) : (hasF M a).getD (.int .i64 0) = .int .i64 (cntL M a : Int) := by
  unfold hasF
  by_cases h : cntL M a = 0
  · rw [if_pos h, h]
    rfl
  · rw [if_neg h]
    rfl
theorem cnt_pos (M : List Li) (a : Nat) : cntL M a ≠ 0 ↔ hasLn M a = true := by
  unfold cntL hasLn
  rw [← Nat.pos_iff_ne_zero, List.countP_pos_iff, List.any_eq_true]
theorem hasF_some (M : List Li) (a : Nat) : (∃ v, hasF M a = some v) ↔ hasLn M a = true := by
  rw [← cnt_pos]
  unfold hasF
  by_cases h : cntL M a = 0 <;> simp [h]
theorem loan_none {M : List Li} {a : Nat} (h : hasLn M a = false) {R : List Ky} (hR : ∀ y, y ∈ R ↔ y.a = a ∧ ∃ i, liveL M y = some i) : R = [] :=
  List.eq_nil_iff_forall_not_mem.2 fun z hz => by
    obtain ⟨rfl, i, hi⟩ := (hR z).1 hz
    obtain ⟨x, hx, hxy, _⟩ := liveL_some hi
    have : hasLn M z.a = true := by
      unfold hasLn
      rw [List.any_eq_true]
      exact ⟨x, List.mem_of_getElem? hx, by rw [hxy]; simp⟩
    rw [h] at this
    cases this
end Go.Proofs.YtdnnkdldolhbpaaGreatDoor
namespace Go.Proofs.YtdnnkdldolhbpaaGreatDoor
open Go.ChangeShapes Go.WideShapes Go.ChangeAt Go.RowKit Go.Maps
/-- How many lines are reversals. -/
def revs (M : List Li) : Nat := M.countP (fun x => decide (0 < x.o))
theorem revs_snoc (M : List Li) (x : Li) : revs (M ++ [x]) = revs M + if 0 < x.o then 1 else 0 := by
  unfold revs
  rw [List.countP_append, List.countP_singleton]
  simp
theorem revs_le (M : List Li) : revs M ≤ M.length := List.countP_le_length
/-- As many keys live as lines, less two for each reversal. -/
def Cnt (M : List Li) : Prop := ∃ K : List Ky, K.Nodup ∧ (∀ y, y ∈ K ↔ ∃ i, liveL M y = some i) ∧ K.length + 2 * revs M = M.length
theorem Cnt.nil : Cnt [] := by
  refine ⟨[], List.nodup_nil, fun y => ⟨fun h => (by cases h), fun h => ?_⟩, rfl⟩
  obtain ⟨i, hi⟩ := h
  rw [liveL_nil] at hi
  cases hi
theorem Cnt.goes {M : List Li} {x : Li} (h : Cnt M) (hg : Goes M x) : Cnt (M ++ [x]) := by
  obtain ⟨K, hn, hi, hl⟩ := h
  rcases hg with ⟨ho, hx⟩ | ⟨i, ho, hx⟩
  · have hnot : x.y ∉ K := fun hm => by
      obtain ⟨i, h⟩ := (hi x.y).1 hm
      rw [hx] at h
      cases h
    refine ⟨K ++ [x.y], List.nodup_append.2 ⟨hn, by simp, fun y hy z hz => ?_⟩, fun y => ?_, ?_⟩
    · rw [List.mem_singleton.1 hz]
      rintro rfl
      exact hnot hy
    · rw [liveL_post ho, List.mem_append, List.mem_singleton, hi y]
      by_cases e : y = x.y
      · simp [e]
      · simp [e]
    · rw [revs_snoc, if_neg (by omega)]
      simp
      omega
  · have hm : x.y ∈ K := (hi x.y).2 ⟨i, hx⟩
    refine ⟨K.erase x.y, hn.erase _, fun y => ?_, ?_⟩
    · rw [liveL_rev ho hx, hn.mem_erase_iff, hi y]
      by_cases e : y = x.y
      · simp [e]
      · simp [e]
    · have h1 := List.length_erase_of_mem hm
      have h2 := List.length_pos_of_mem hm
      rw [revs_snoc, if_pos (by omega)]
      simp
      omega
theorem sum_loans : ∀ (R : List Nat) (K : List Ky), R.Nodup → (∀ y ∈ K, y.a ∈ R) → (R.map (fun a => K.countP (fun y => y.a == a))).sum = K.length
  | [], K, _, h => by
    have : K = [] := List.eq_nil_iff_forall_not_mem.2 fun y hy => by
      have := h y hy
      cases this
    rw [this]
    rfl
  | a :: R, K, hn, h => by
    obtain ⟨ha, hn'⟩ := List.nodup_cons.1 hn
    have ih := sum_loans R (K.filter (fun y => !(y.a == a))) hn' fun y hy => by
      obtain ⟨h1, h2⟩ := List.mem_filter.1 hy
      rcases List.mem_cons.1 (h y h1) with e | e
      · rw [e] at h2
        simp at h2
      · exact e
    have hc : R.map (fun b => (K.filter (fun y => !(y.a == a))).countP (fun y => y.a == b)) = R.map (fun b => K.countP (fun y => y.a == b)) := List.map_congr_left fun b hb => by
      rw [List.countP_filter]
      refine List.countP_congr fun y _ => ?_
      have hne : b ≠ a := fun e => ha (e ▸ hb)
      simp only [Bool.and_eq_true, beq_iff_eq, Bool.not_eq_true', beq_eq_false_iff_ne, ne_eq]
      exact ⟨fun h => h.1, fun h => ⟨h, fun e => hne (h.symm.trans e)⟩⟩
    rw [hc] at ih
    rw [List.map_cons, List.sum_cons, ih, List.length_eq_countP_add_countP (fun y : Ky => y.a == a) (l := K), ← List.countP_eq_length_filter]
    congr 1
    exact List.countP_congr fun y _ => by simp
theorem loan_len {M : List Li} {a : Nat} {K R : List Ky} (hK : K.Nodup) (hi : ∀ y, y ∈ K ↔ ∃ i, liveL M y = some i) (hR : R.Nodup) (hr : ∀ y, y ∈ R ↔ y.a = a ∧ ∃ i, liveL M y = some i) : R.length = K.countP (fun y => y.a == a) := by
  rw [List.countP_eq_length_filter]
  refine ((List.perm_ext_iff_of_nodup hR (hK.filter _)).2 fun y => ?_).length_eq
  rw [hr y, List.mem_filter, hi y]
  simp [and_comm]
/-- All of a ledger's live keys, by their loans. -/
theorem sum_live {M : List Li} {K : List Ky} {R : List Nat} (hi : ∀ y, y ∈ K ↔ ∃ i, liveL M y = some i) (hR : R.Pairwise (· < ·)) (hr : ∀ a, a ∈ R ↔ hasLn M a = true) : (R.map (fun a => K.countP (fun y => y.a == a))).sum = K.length :=
  sum_loans R K (List.nodup_iff_pairwise_ne.2 (hR.imp fun h => Nat.ne_of_lt h)) fun y hy => by
    obtain ⟨i, h⟩ := (hi y).1 hy
    obtain ⟨x, hx, hxy, _⟩ := liveL_some h
    rw [hr]
    unfold hasLn
    rw [List.any_eq_true]
    exact ⟨x, List.mem_of_getElem? hx, by rw [hxy]; simp⟩
theorem sum_take {R : List Nat} (f : Nat → Nat) {j : Nat} (hj : j < R.length) : ((R.take (j + 1)).map f).sum = ((R.take j).map f).sum + f R[j] := by
  rw [take_snoc R hj, List.map_append, List.sum_append]
  simp
/-- A copy stands beside the ledgers. -/
structure Was (w : World) (cc X : Nat) (Dc D : Nat → Prop) (M : List Li) : Prop where
  led : Led w cc Dc M
  off : ∀ i, Dc i → ¬ D i ∧ i ≠ X
theorem Was.below {w w' : World} {cc X : Nat} {Dc D : Nat → Prop} {M : List Li} (h : Was w cc X Dc D M) (hb : Below w.heap.size w w') : Was w' cc X Dc D M := ⟨h.led.below hb, h.off⟩
theorem Both.step2 {w w' : World} {q X S n cc : Nat} {M M1 : List Li} {D Dc : Nat → Prop} {e : Ending} (h : Both w q X S n M D) (hd : DoPost q X D M w e w') (hS : S ≤ w.heap.size) (hw : Was w cc X Dc D M1) :
    ∃ M' D', Both w' q X S (n + 1) M' D' ∧ Below S w w' ∧ (M' = M ∨ ∃ x, M' = M ++ [x] ∧ Goes M x ∧ x.y.a < 5) ∧ Was w' cc X Dc D' M1 := by
  obtain ⟨_, hc, M', D', E', k1, k2, k3, k4, k5⟩ := hd
  refine ⟨M', D', ⟨k1, ⟨E', k2, k3⟩, ?_, fun i hi => ?_, ?_⟩, hc.below hS h.off, k5, ⟨hw.led.same (fun i hi => hc.block i (hw.led.lt i hi) (fun hD => ?_)) hc.size, fun i hi => ⟨fun hD => ?_, (hw.off i hi).2⟩⟩⟩
  · rcases k5 with rfl | ⟨x, rfl, _, hx⟩
    · exact h.low
    · intro z hz
      rcases List.mem_append.1 hz with hz | hz
      · exact h.low z hz
      · rw [List.mem_singleton.1 hz]
        exact hx
  · rcases hi with hi | hi
    · rcases k4 i hi with h1 | h1
      · exact h.off i (.inl h1)
      · omega
    · exact h.off i (.inr hi)
  · rcases k5 with rfl | ⟨x, rfl, _, _⟩
    · have := h.few
      omega
    · have := h.few
      simp
      omega
  · rcases hD with hD | hD
    · exact (hw.off i hi).1 hD
    · exact (hw.off i hi).2 hD
  · rcases k4 i hD with h1 | h1
    · exact (hw.off i hi).1 h1
    · have := hw.led.lt i hi
      omega
theorem cnt_of {M M' : List Li} (h : Cnt M) (hg : M' = M ∨ ∃ x, M' = M ++ [x] ∧ Goes M x ∧ x.y.a < 5) : Cnt M' := by
  rcases hg with rfl | ⟨x, rfl, hx, _⟩
  · exact h
  · exact h.goes hx
theorem pre_of {M1 M M' : List Li} (h : M1 <+: M) (hg : M' = M ∨ ∃ x, M' = M ++ [x] ∧ Goes M x ∧ x.y.a < 5) : M1 <+: M' := by
  rcases hg with rfl | ⟨x, rfl, _, _⟩
  · exact h
  · exact h.trans (List.prefix_append _ _)
end Go.Proofs.YtdnnkdldolhbpaaGreatDoor
