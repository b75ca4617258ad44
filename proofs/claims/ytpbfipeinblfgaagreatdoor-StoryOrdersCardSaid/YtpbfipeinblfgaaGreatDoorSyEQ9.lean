/-
The law's key and own: as the document has them. Conditions: the rows are there.
Regions that draw their order, with calls that change what is there: what is known of the world hangs on what has run. No condition.
Drawn regions whose last operation stands apart, read off the region itself; legs that are made into a row. No condition.
A teller's entries: debit, credit, and one that is added. Condition: the teller is there.
A teller's small methods: charge, board. Condition: the teller is there.
-/
import Derived.Test.YtpbfipeinblfgaaGreatDoorChDQ9
import Derived.Test.YtpbfipeinblfgaaGreatDoorSyCQ9
import Derived.Test.YtpbfipeinblfgaaGreatDoorFlowQ9
import Derived.Test.YtpbfipeinblfgaaGreatDoorChAQ9
import Derived.Great.BuildSlice
import Derived.Deep.RegionLaw
import Derived.Shelf.Abstract
import Derived.BigQuiet
namespace Go.Proofs.YtpbfipeinblfgaaGreatDoor
open Go.ChangeShapes Go.WideShapes Go.ChangeAt Go.RowKit

theorem Make_any (y : Ky) (A : Option Addr) (n c B : Nat) (L : List (Nat × Int)) (w : World) (hR : Rs legT w B A L) (hn : L.length = n) (hm : n ≤ 1000) (hB : B ≤ w.heap.size) (hI : ∀ u ∈ L, LegIn u) :
    Calls Tryz.prog 104 #[y.v, .slice A n c] w (MakePost y L w) := by
  by_cases h : okL L
  · exact Make_ok y A n c B L w hR hn hm hB hI h
  · exact Make_no y A n c B L w hR hn hm hB hI h
theorem mkL_in (L : List (Nat × Int)) : ∀ u ∈ mkL L, LegIn u := by
  intro u hu
  by_cases h : okL L
  · rw [mkL_ok h] at hu
    obtain ⟨a, ha, rfl⟩ := List.mem_map.1 hu
    exact ⟨(keysA_mem.1 ha).1, sumA_fit L a⟩
  · rw [mkL_no h] at hu
    cases hu
theorem mkL_len (L : List (Nat × Int)) : (mkL L).length ≤ 256 := by
  by_cases h : okL L
  · rw [mkL_ok h, List.length_map]
    have := keysTo_len L 256
    exact this
  · rw [mkL_no h]
    exact Nat.zero_le _
end Go.Proofs.YtpbfipeinblfgaaGreatDoor
namespace Go.Proofs.YtpbfipeinblfgaaGreatDoor
open Go Go.RowKit

section
variable {P : Program} {R : Rel}
def putS (S : Nat → Bool) (i : Nat) : Nat → Bool := fun j => if j = i then true else S j
def stepFI (P : Program) (ops : Array Oper) (ds : List (Option Tmp)) (F : Nat → FlwG R) (Iv : (Nat → Bool) → World → Prop) (a0 : Act) (w0 : World) (i : Nat) (o : Oper) : Prop :=
  ∀ a w S, seesSG ds F a0 a w (o.looksAt ops) → R.r w0 w → S i = false → Iv S w →
    if Region.wanted o (yielded ops a.tmps) then opC P o a w (fun v w' => (F i).p (resV o a v) w' ∧ R.r w w' ∧ Iv (putS S i) w') else (F i).p (resV o a undef) w ∧ Iv (putS S i) w
def stepsFI (P : Program) (ops : Array Oper) (ds : List (Option Tmp)) (F : Nat → FlwG R) (Iv : (Nat → Bool) → World → Prop) (a0 : Act) (w0 : World) : Nat → List Oper → Prop
  | _, [] => True
  | i, o :: r => stepFI P ops ds F Iv a0 w0 i o ∧ stepsFI P ops ds F Iv a0 w0 (i + 1) r
theorem stepsF_atI {ops : Array Oper} {ds : List (Option Tmp)} {F : Nat → FlwG R} {Iv : (Nat → Bool) → World → Prop} {a0 : Act} {w0 : World} : ∀ {l : List Oper} {k : Nat}, stepsFI P ops ds F Iv a0 w0 k l → ∀ (i : Nat) (o : Oper), l[i]? = some o → stepFI P ops ds F Iv a0 w0 (k + i) o
  | [], _, _, i, o, h => by simp at h
  | x :: r, k, hs, i, o, h => by
    cases i with
    | zero => obtain rfl : x = o := by simpa using h
              exact hs.1
    | succ i =>
      have := stepsF_atI hs.2 i o (by simpa using h)
      rwa [show k + (i + 1) = k + 1 + i by omega]
def lstS (listed : Array Bool) : Nat → Bool := fun i => listed[i]? == some true
theorem lst_put {listed : Array Bool} {i : Nat} (hi : i < listed.size) : lstS (listed.setIfInBounds i true) = putS (lstS listed) i := by
  funext j
  unfold lstS putS
  by_cases e : j = i
  · subst e
    rw [if_pos rfl, Array.getElem?_setIfInBounds_self_of_lt hi]
    rfl
  · rw [if_neg e, Array.getElem?_setIfInBounds_ne (fun hh => e hh.symm)]
theorem wpAny_flowI {ops : Array Oper} {F : Nat → FlwG R} {Iv : (Nat → Bool) → World → Prop} {a0 : Act} {w0 : World} {Q : Exit → Act → World → Prop} (hk : FlowOk ops a0.tmps.size)
    (hs : ∀ (i : Nat) (o : Oper), ops[i]? = some o → stepFI P ops (ops.toList.map (·.dst)) F Iv a0 w0 i o)
    (hq : ∀ (f : Nat → Value) w S, (∀ (i : Nat) (o : Oper) (d : Tmp), ops[i]? = some o → o.dst = some d → (F i).p (f i) w) → R.r w0 w → (∀ i, i < ops.size → S i = true) → Iv S w → Q .normal (putF f (ops.toList.map (·.dst)) 0 a0) w) :
    ∀ (fuel : Nat) (listed : Array Bool) (a : Act) (w : World), leftF listed ≤ fuel → AtFG ops F a0 listed a w → R.r w0 w → Iv (lstS listed) w → wpAny P .any ops Q fuel listed a w := by
  have fin : ∀ (listed : Array Bool) (a : Act) (w : World), AtFG ops F a0 listed a w → R.r w0 w → Iv (lstS listed) w → Region.ready .any ops listed = [] → Q .normal a w := fun listed a w h hb hI hr => by
    obtain ⟨f, rfl, hf⟩ := h.all hk (all_listed hk h.ls hr)
    refine hq f w (lstS listed) hf hb (fun i hi => ?_) hI
    unfold lstS
    rw [all_listed hk h.ls hr i _ (Array.getElem?_eq_getElem hi)]
    rfl
  intro fuel
  induction fuel with
  | zero =>
    intro listed a w hl h hb hI
    have hr : Region.ready .any ops listed = [] := by
      rw [List.eq_nil_iff_forall_not_mem]
      intro i hi
      obtain ⟨o, _, h2, _⟩ := ready_listed h.ls hi
      exact left_none (by omega) i h2
    exact ⟨hr, fin _ _ _ h hb hI hr⟩
  | succ fuel ih =>
    intro listed a w hl h hb hI
    refine ⟨fin _ _ _ h hb hI, fun i hi => ?_⟩
    obtain ⟨o, ho, h2, h3⟩ := ready_listed h.ls hi
    have hst := hs i o ho a w (lstS listed) (sees_atG hk h ho h3) hb (by unfold lstS; rw [h2]; rfl) hI
    rw [← lst_put (by rw [h.ls]; exact size_of_some ho)] at hst
    have hls := left_set h2
    unfold wpOp
    rw [ho]
    simp only
    split
    · rename_i hw
      rw [if_pos hw] at hst
      refine .inl (wp_of_opC hst fun v w' hv => ?_)
      exact ih _ _ _ (by omega) (h.put hk ho h2 h3 hv.1 hv.2.1) (R.trans hb hv.2.1) hv.2.2
    · rename_i hw
      rw [if_neg hw] at hst
      exact ih _ _ _ (by omega) (h.put hk ho h2 h3 hst.1 (R.refl _)) hb hst.2
/-- THE LAW: each operation's share, wherever it comes up, and what it does to what hangs on what has run. -/
theorem wp_region_flowI {id : Nat} {l : List Oper} {Q : Exit → Act → World → Prop} {a0 : Act} {w : World} (ds : List (Option Tmp)) (F : Nat → FlwG R) (Iv : (Nat → Bool) → World → Prop) (hm : P.follows .mixedOrders = true)
    (hB : flowB l.toArray a0.tmps.size = true) (hd : l.map (·.dst) = ds) (hI : Iv (fun _ => false) w.drew) (hs : stepsFI P l.toArray ds F Iv a0 w 0 l)
    (hq : ∀ (f : Nat → Value) w' S, (∀ (i : Nat) (d : Tmp), ds[i]? = some (some d) → (F i).p (f i) w') → R.r w w' → (∀ i, i < l.length → S i = true) → Iv S w' → Q .normal (putF f ds 0 a0) w') : (Code.region id l.toArray true).wp P Q a0 w := by
  subst hd
  refine wp_region_any hm (wpAny_flowI (F := F) (Iv := Iv) (a0 := a0) (w0 := w) (flowOk hB) (fun i o ho => ?_) (fun f w' S hf hb hS hI => ?_) _ _ _ _ ?_ ?_ ?_ ?_)
  · have := stepsF_atI hs i o (by simpa using ho)
    rwa [Nat.zero_add] at this
  · refine hq f w' S (fun i d hi => ?_) hb (fun i hi => hS i (by simpa using hi)) hI
    rw [List.getElem?_map] at hi
    obtain ⟨o, h1, h2⟩ := Option.map_eq_some_iff.1 hi
    exact hf i o d (by simpa using h1) h2
  · exact left_new _
  · refine ⟨by simp, rfl, rfl, fun _ _ => rfl, fun i o d _ _ h => ?_, fun i o s _ _ h => ?_⟩
    · rw [Array.getElem?_replicate] at h
      split at h <;> cases h
    · rw [Array.getElem?_replicate] at h
      split at h <;> cases h
  · exact R.drew _
  · have e : lstS (Array.replicate l.toArray.size false) = fun _ => false := by
      funext j
      unfold lstS
      rw [Array.getElem?_replicate]
      split <;> rfl
    rw [e]
    exact hI
theorem step_freeI {ops : Array Oper} {ds : List (Option Tmp)} {F : Nat → FlwG R} {Iv : (Nat → Bool) → World → Prop} {a0 : Act} {w0 : World} {i : Nat} {o : Oper} (hg : o.guard = none)
    (h : ∀ a w S, seesSG ds F a0 a w (opndsF o) → R.r w0 w → S i = false → Iv S w → opC P o a w (fun v w' => (F i).p (resV o a v) w' ∧ R.r w w' ∧ Iv (putS S i) w')) : stepFI P ops ds F Iv a0 w0 i o := fun a w S hs hb hS hI => by
  have hw : Region.wanted o (yielded ops a.tmps) = true := by unfold Region.wanted; rw [hg]
  rw [if_pos hw]
  exact h a w S (seesS_appG hs).1 hb hS hI
end
end Go.Proofs.YtpbfipeinblfgaaGreatDoor
namespace Go.Proofs.YtpbfipeinblfgaaGreatDoor
open Go Go.RowKit

def lastO : List Oper → Option Oper
  | [] => none
  | o :: l => match l with
    | [] => some o
    | _ :: _ => lastO l
theorem lastO_is : ∀ (l : List Oper) (o : Oper), lastO l = some o → l = l.dropLast ++ [o]
  | [], o, h => by cases h
  | [x], o, h => by
    simp only [lastO, Option.some.injEq] at h
    subst h
    rfl
  | x :: y :: l, o, h => by
    have := lastO_is (y :: l) o h
    rw [List.dropLast_cons_cons, List.cons_append, ← this]
theorem wp_region_flow_lst {P : Program} {id : Nat} {ops : List Oper} {Q : Exit → Act → World → Prop} {a0 : Act} {w : World} (ol : Oper) (ds : List (Option Tmp)) (F : Nat → Flw) (hol : lastO ops = some ol) (hm : P.follows .mixedOrders = true)
    (hB : flowB ops.toArray a0.tmps.size = true) (hc : coverB ops.toArray = true) (hd : ops.map (·.dst) = ds ++ [ol.dst]) (hg : ol.guard = none) (hs : stepsF P ops.toArray (ds ++ [ol.dst]) F a0 w 0 ops.dropLast)
    (hq : ∀ (f : Nat → Value) w', (∀ (i : Nat) (d : Tmp), ds[i]? = some (some d) → (F i).p (f i) w') → Below w.heap.size w w' → opC P ol (putF f ds 0 a0) w' (fun v w'' => Q .normal ((putF f ds 0 a0).put ol.dst v) w'')) : (Code.region id ops.toArray true).wp P Q a0 w :=
  wp_region_flow_last (lastO_is ops ol hol) ds F hm hB hc hd hg hs hq
/-- A row of just these cells, made since. -/
def legF (base n : Nat) (cs : Array Value) : Flw := ⟨fun v w => ∃ g, v = .slice (some ⟨g, 0, none⟩) n n ∧ base ≤ g ∧ Blk w g 99 cs, fun ⟨g, h1, h2, h3⟩ hb => ⟨g, h1, h2, h3.below hb h3.lt⟩⟩
theorem infoLeg9 : (Tryz.prog.info? 99).map (fun i => (i.zero, i.size, i.bytes)) = some (some (.agg #[.int .u8 0, .int .i64 0]), 2, 16) := by kernel_rfl
section
variable {dst : Option Tmp} {ty : TypeId} {pos : String} {af : Array Edge} {a : Act} {w : World} {base : Nat}
theorem run_leg2 (p1 q1 p2 q2 : Value) : (Instr.buildSlice 59 2 #[(0, .agg #[p1, q1]), (1, .agg #[p2, q2])]).run Tryz.prog w = .ok (.slice (some ⟨w.heap.size, 0, none⟩) 2 2) (w.alloc (.cells #[p1, q1, p2, q2] 99)) := by
  obtain ⟨i0, hi, hz0, hz1, hz2⟩ := info_parts infoLeg9
  refine run_buildSlice w 59 99 2 _ #[p1, q1, p2, q2] i0 _ Tryz.underlying59 hi hz0 (by rw [hz1]; decide) (by rw [hz1]; decide) ?_
  rw [hz1]
  simp [Instr.fill, Value.cells]
  apply Array.toList_inj.1
  simp [List.range_succ]
theorem opC_leg2 {x1 x2 : Operand} {p1 q1 p2 q2 : Value} (e1 : a.eval x1 = .agg #[p1, q1]) (e2 : a.eval x2 = .agg #[p2, q2]) (hb : base ≤ w.heap.size) :
    opC Tryz.prog ⟨dst, .buildSlice 59 2 #[(0, x1), (1, x2)], ty, pos, af, none⟩ a w (fun v w' => (legF base 2 #[p1, q1, p2, q2]).p v w' ∧ Below w.heap.size w w') := by
  constructor
  rw [show (execOp a.eval ⟨dst, .buildSlice 59 2 #[(0, x1), (1, x2)], ty, pos, af, none⟩).run Tryz.prog w = .ok (.value (.slice (some ⟨w.heap.size, 0, none⟩) 2 2)) (w.alloc (.cells #[p1, q1, p2, q2] 99)) by
    simp [execOp, e1, e2, run_leg2, Result.andThen]]
  exact ⟨⟨_, rfl, hb, Blk.new w _ _⟩, b_alloc w _⟩
theorem run_leg4 (p1 q1 p2 q2 p3 q3 p4 q4 : Value) : (Instr.buildSlice 59 4 #[(0, .agg #[p1, q1]), (1, .agg #[p2, q2]), (2, .agg #[p3, q3]), (3, .agg #[p4, q4])]).run Tryz.prog w = .ok (.slice (some ⟨w.heap.size, 0, none⟩) 4 4) (w.alloc (.cells #[p1, q1, p2, q2, p3, q3, p4, q4] 99)) := by
  obtain ⟨i0, hi, hz0, hz1, hz2⟩ := info_parts infoLeg9
  refine run_buildSlice w 59 99 4 _ #[p1, q1, p2, q2, p3, q3, p4, q4] i0 _ Tryz.underlying59 hi hz0 (by rw [hz1]; decide) (by rw [hz1]; decide) ?_
  rw [hz1]
  simp [Instr.fill, Value.cells]
  apply Array.toList_inj.1
  simp [List.range_succ]
theorem opC_leg4 {x1 x2 x3 x4 : Operand} {p1 q1 p2 q2 p3 q3 p4 q4 : Value} (e1 : a.eval x1 = .agg #[p1, q1]) (e2 : a.eval x2 = .agg #[p2, q2]) (e3 : a.eval x3 = .agg #[p3, q3]) (e4 : a.eval x4 = .agg #[p4, q4]) (hb : base ≤ w.heap.size) :
    opC Tryz.prog ⟨dst, .buildSlice 59 4 #[(0, x1), (1, x2), (2, x3), (3, x4)], ty, pos, af, none⟩ a w (fun v w' => (legF base 4 #[p1, q1, p2, q2, p3, q3, p4, q4]).p v w' ∧ Below w.heap.size w w') := by
  constructor
  rw [show (execOp a.eval ⟨dst, .buildSlice 59 4 #[(0, x1), (1, x2), (2, x3), (3, x4)], ty, pos, af, none⟩).run Tryz.prog w = .ok (.value (.slice (some ⟨w.heap.size, 0, none⟩) 4 4)) (w.alloc (.cells #[p1, q1, p2, q2, p3, q3, p4, q4] 99)) by
    simp [execOp, e1, e2, e3, e4, run_leg4, Result.andThen]]
  exact ⟨⟨_, rfl, hb, Blk.new w _ _⟩, b_alloc w _⟩
theorem run_leg5 (p1 q1 p2 q2 p3 q3 p4 q4 p5 q5 : Value) : (Instr.buildSlice 59 5 #[(0, .agg #[p1, q1]), (1, .agg #[p2, q2]), (2, .agg #[p3, q3]), (3, .agg #[p4, q4]), (4, .agg #[p5, q5])]).run Tryz.prog w = .ok (.slice (some ⟨w.heap.size, 0, none⟩) 5 5) (w.alloc (.cells #[p1, q1, p2, q2, p3, q3, p4, q4, p5, q5] 99)) := by
  obtain ⟨i0, hi, hz0, hz1, hz2⟩ := info_parts infoLeg9
  refine run_buildSlice w 59 99 5 _ #[p1, q1, p2, q2, p3, q3, p4, q4, p5, q5] i0 _ Tryz.underlying59 hi hz0 (by rw [hz1]; decide) (by rw [hz1]; decide) ?_
  rw [hz1]
  simp [Instr.fill, Value.cells]
  apply Array.toList_inj.1
  simp [List.range_succ]
theorem opC_leg5 {x1 x2 x3 x4 x5 : Operand} {p1 q1 p2 q2 p3 q3 p4 q4 p5 q5 : Value} (e1 : a.eval x1 = .agg #[p1, q1]) (e2 : a.eval x2 = .agg #[p2, q2]) (e3 : a.eval x3 = .agg #[p3, q3]) (e4 : a.eval x4 = .agg #[p4, q4]) (e5 : a.eval x5 = .agg #[p5, q5]) (hb : base ≤ w.heap.size) :
    opC Tryz.prog ⟨dst, .buildSlice 59 5 #[(0, x1), (1, x2), (2, x3), (3, x4), (4, x5)], ty, pos, af, none⟩ a w (fun v w' => (legF base 5 #[p1, q1, p2, q2, p3, q3, p4, q4, p5, q5]).p v w' ∧ Below w.heap.size w w') := by
  constructor
  rw [show (execOp a.eval ⟨dst, .buildSlice 59 5 #[(0, x1), (1, x2), (2, x3), (3, x4), (4, x5)], ty, pos, af, none⟩).run Tryz.prog w = .ok (.value (.slice (some ⟨w.heap.size, 0, none⟩) 5 5)) (w.alloc (.cells #[p1, q1, p2, q2, p3, q3, p4, q4, p5, q5] 99)) by
    simp [execOp, e1, e2, e3, e4, e5, run_leg5, Result.andThen]]
  exact ⟨⟨_, rfl, hb, Blk.new w _ _⟩, b_alloc w _⟩
end
/-- A call that stands last: what it leaves is what follows. -/
theorem opC_callK {P : Program} {dst : Option Tmp} {f : FuncId} {xs : Array Operand} {ts : Array TypeId} {ty : TypeId} {pos : String} {af : Array Edge} {g : Option (Nat × Bool)} {a : Act} {w : World} {K : Value → World → Prop} {args : Array Value}
    (he : ∀ args w, (callFunc f args).run P w = .ok (.enter f args) w) (ha : xs.map a.eval = args) (hk : Calls P f args w (fun e w'' => ∃ v, e = .returned v ∧ K v w'')) :
    opC P ⟨dst, .call { callee := .value (.func f), args := xs, argTypes := ts }, ty, pos, af, g⟩ a w K := by
  refine opC_enter (f := f) (args := args) ?_ hk
  subst ha
  simp [go_sem, he]
def relB (q : Nat) : Rel := ⟨Below q, fun w => Below.refl q w, fun _ => ⟨rfl, rfl, rfl, Nat.le_refl _, fun _ _ => rfl⟩, fun h k => h.trans k⟩
theorem below_only {B g : Nat} {w w' : World} (h : OnlyAt g w w') (hg : B ≤ g) : Below B w w' := ⟨h.os, h.tape, h.output, by rw [h.size]; exact Nat.le_refl _, fun i hi => h.block i (by omega)⟩
/-- A row of values written into the midst of a block. -/
theorem opC_storeM {P : Program} {t : TypeId} {s : Tmp} {x : Operand} {ty : TypeId} {pos : String} {af : Array Edge} {gd : Option (Nat × Bool)} {a : Act} {w : World} {K : Value → World → Prop} {g k : Nat} {bt : TypeId} {cs vs : Array Value}
    (he : a.eval (.tmp s) = .pointer (some ⟨g, k, none⟩)) (hx : a.eval x = .agg vs) (hb : Blk w g bt cs) (hs : k + vs.size ≤ cs.size) (hi : (P.info? t).map (·.size) = some vs.size) (h1 : vs.all (·.oneCell') = true)
    (hk : ∀ w', OnlyAt g w w' → Blk w' g bt (putL cs k vs.toList) → K undef w') : opC P ⟨none, .store t (.tmp s) x, ty, pos, af, gd⟩ a w K := by
  have ht : w.there g k vs.size := fun j hj => by
    refine ⟨?_, by simpa using hb.frozen (k + j)⟩
    have := hb.cell (k + j)
    rw [this]
    simp
    omega
  refine opC_skip (w' := w.setCells g k vs.toList) ?_ (hk _ (onlyAt_setCells _ _ _ _) (blk_setCells _ _ _ _ hb))
  simp [execOp, he, hx, run_storeAt_mid w g k t vs ht hi h1, Result.andThen]
/-- One value. -/
theorem opC_store1 {P : Program} {t : TypeId} {s : Tmp} {x : Operand} {ty : TypeId} {pos : String} {af : Array Edge} {gd : Option (Nat × Bool)} {a : Act} {w : World} {K : Value → World → Prop} {g k : Nat} {bt : TypeId} {cs : Array Value} {v : Value}
    (he : a.eval (.tmp s) = .pointer (some ⟨g, k, none⟩)) (hx : a.eval x = v) (hb : Blk w g bt cs) (hs : k < cs.size) (hr : ∀ u, w.cell? ⟨g, k, none⟩ = some u → w.frozen? ⟨g, k, none⟩ = false → (Instr.storeAt t (.pointer (some ⟨g, k, none⟩)) v).run P w = .ok () (w.setCell ⟨g, k, none⟩ v))
    (hk : ∀ w', OnlyAt g w w' → Blk w' g bt (cs.setIfInBounds k v) → K undef w') : opC P ⟨none, .store t (.tmp s) x, ty, pos, af, gd⟩ a w K := by
  have hc := hb.cell k
  rw [Array.getElem?_eq_getElem hs] at hc
  refine opC_skip (w' := w.setCell ⟨g, k, none⟩ v) ?_ (hk _ (onlyAt_setCells g [v] k w) (hb.set_ k v))
  simp [execOp, he, hx, hr _ hc (hb.frozen k), Result.andThen]
theorem infoKey9 : (Tryz.prog.info? 58).map (·.size) = some 4 := by kernel_rfl
theorem infoState : (Tryz.prog.info? 52).map (·.size) = some 9 := by kernel_rfl
theorem infoOwed : (Tryz.prog.info? 49).map (·.size) = some 3 := by kernel_rfl
theorem infoRate9 : (Tryz.prog.info? 25).map (·.size) = some 2 := by kernel_rfl
theorem infoEvt : (Tryz.prog.info? 47).map (·.size) = some 4 := by kernel_rfl
theorem rowKey9 : RowT Tryz.prog 58 4 := ⟨_, Tryz.underlying58, rfl, infoKey9⟩
theorem rowState : RowT Tryz.prog 52 9 := ⟨_, Tryz.underlying52, rfl, infoState⟩
theorem rowOwed : RowT Tryz.prog 49 3 := ⟨_, Tryz.underlying49, rfl, infoOwed⟩
theorem rowRate9 : RowT Tryz.prog 25 2 := ⟨_, Tryz.underlying25, rfl, infoRate9⟩
theorem rowEvt : RowT Tryz.prog 47 4 := ⟨_, Tryz.underlying47, rfl, infoEvt⟩
/-- A call, where a region's next operation is one. -/
theorem step_callK {P : Program} {ops : Array Oper} {E : Prop} {Q : Exit → Act → World → Prop} {dst : Option Tmp} {f : FuncId} {xs : Array Operand} {ts : Array TypeId} {ty : TypeId} {pos : String} {af : Array Edge} {a : Act} {w : World} {K : Act → World → Prop} {args : Array Value}
    (he : ∀ args w, (callFunc f args).run P w = .ok (.enter f args) w) (ha : xs.map a.eval = args) (hk : Calls P f args w (fun e w'' => ∃ v, e = .returned v ∧ K (a.put dst v) w'')) :
    if Region.wanted ⟨dst, .call { callee := .value (.func f), args := xs, argTypes := ts }, ty, pos, af, none⟩ (yielded ops a.tmps) = true then Oper.wp P ⟨dst, .call { callee := .value (.func f), args := xs, argTypes := ts }, ty, pos, af, none⟩ a w K Q else E := by
  rw [if_pos (by simp [Region.wanted])]
  exact wp_of_opC (opC_callK (K := fun v w'' => K (a.put dst v) w'') he ha hk) (fun v w' h => h)
end Go.Proofs.YtpbfipeinblfgaaGreatDoor
namespace Go.Proofs.YtpbfipeinblfgaaGreatDoor
open Go.ChangeShapes Go.WideShapes Go.ChangeAt Go.RowKit Go.Shelf

set_option maxRecDepth 20000 in
theorem debit_any (k : Nat) (a : Int) (w : World) : Calls Tryz.prog 56 #[.int .u8 (k : Int), .int .i64 a] w (Ret (.agg #[.int .u8 (k : Int), .int .i64 a]) w) := by
  have HK := Blk.new w 99 #[.int .u8 (k : Int), .int .i64 a]
  have s0 := HK.cell 0
  have s1 := HK.cell 1
  simp at s0 s1
  clear HK
  go_enter Tryz.func56, Tryz.ntmps56
  go_wp2_with fail
  exact bodyPost_ret (v := .agg #[.int .u8 (k : Int), .int .i64 a]) (by simp [results, Tryz.results56, go_sem, Result.andThen]) rfl ⟨rfl, b_alloc w _⟩
set_option maxRecDepth 20000 in
theorem credit_any (k : Nat) (a : Int) (ha : -9223372036854775807 ≤ a ∧ a ≤ 9223372036854775807) (w : World) : Calls Tryz.prog 57 #[.int .u8 (k : Int), .int .i64 a] w (Ret (.agg #[.int .u8 (k : Int), .int .i64 (-a)]) w) := by
  obtain ⟨b1, b2⟩ := ha
  have HK := Blk.new w 99 #[.int .u8 (k : Int), .int .i64 (-a)]
  have s0 := HK.cell 0
  have s1 := HK.cell 1
  simp at s0 s1
  clear HK
  go_enter Tryz.func57, Tryz.ntmps57
  go_wp2_with fail
  exact bodyPost_ret (v := .agg #[.int .u8 (k : Int), .int .i64 (-a)]) (by simp [results, Tryz.results57, go_sem, Result.andThen]) rfl ⟨rfl, b_alloc w _⟩
section
variable {w w' : World} {b0 : Nat} {V : List EnW} {L : List En}
theorem EntsV.snoc (h : EntsV w b0 V L) (hs : w.heap.size ≤ w'.heap.size) (hk : ∀ (i : Nat) cs, Blk w i 99 cs → w'.heap[i]? = w.heap[i]?) (u : EnW) (y : Ky) (R : List (Nat × Int)) (hu : u.y = y ∧ u.n = R.length ∧ u.n ≤ u.c ∧ u.c ≤ maxLen) (hr : Rs legT w' w'.heap.size u.A R) (ht : ∀ p, u.A = some p → b0 ≤ p.block ∧ ∃ cs, Blk w' p.block 99 cs) : EntsV w' b0 (V ++ [u]) (L ++ [(y, R)]) := by
  have hl := h.len
  have cut : ∀ (i : Nat) v, (V ++ [u])[i]? = some v → (i < V.length ∧ V[i]? = some v) ∨ (i = V.length ∧ v = u) := fun i v hv => by
    rcases Nat.lt_trichotomy i V.length with hi | rfl | hi
    · rw [List.getElem?_append_left hi] at hv
      exact .inl ⟨hi, hv⟩
    · rw [List.getElem?_concat_length] at hv
      exact .inr ⟨rfl, (Option.some.inj hv).symm⟩
    · rw [List.getElem?_eq_none (by simp; omega)] at hv
      cases hv
  refine ⟨by simp [hl], fun i v x hv hx => ?_, fun i v x hv hx => ?_, fun i v p hv hp => ?_⟩
  · rcases cut i v hv with ⟨hi, hv⟩ | ⟨rfl, rfl⟩
    · rw [List.getElem?_append_left (by omega)] at hx
      exact h.y i v x hv hx
    · rw [hl, List.getElem?_concat_length] at hx
      cases hx
      exact hu
  · rcases cut i v hv with ⟨hi, hv⟩ | ⟨rfl, rfl⟩
    · rw [List.getElem?_append_left (by omega)] at hx
      intro hn
      obtain ⟨b, off, e, hb, hc⟩ := h.r i v x hv hx hn
      obtain ⟨_, cs, hB⟩ := h.t i v _ hv e
      exact ⟨b, off, e, by omega, fun j z hz k q hq => (cell_blkS (hk b cs hB)).trans (hc j z hz k q hq)⟩
    · rw [hl, List.getElem?_concat_length] at hx
      cases hx
      exact hr
  · rcases cut i v hv with ⟨hi, hv⟩ | ⟨rfl, rfl⟩
    · obtain ⟨h3, cs, hB⟩ := h.t i v p hv hp
      exact ⟨h3, cs, (hk _ cs hB).trans hB⟩
    · exact ht p hp
end
theorem blk_type {w : World} {i : Nat} {T U : TypeId} {cs ds : Array Value} (h : Blk w i T cs) (k : Blk w i U ds) : T = U := by
  unfold Blk at h k
  rw [h] at k
  simp only [Option.some.injEq, Obj.cells.injEq] at k
  exact k.2.1
/-- What the append and the store leave is the teller with one entry more. -/
theorem post_fin {w2 w3 w4 : World} {b0 g : Nat} {sp ev en : Value} {x : TS} {day : Int} {l : List Ev} {V : List EnW} {a k s : Nat} {L : List (Nat × Int)} {A3 A4 : Option Addr} {c3 c4 : Nat} {EC : Array Value}
    (hg : b0 ≤ g) (hb0 : b0 ≤ w2.heap.size) (hb3 : Below w2.heap.size w2 w3) (hO : OwnS enT 61 w2 b0 en x.L.length V) (hX : EntsV w2 b0 V x.L) (hV : Evs w2 ev l) (hL3 : OwnS legT 99 w3 w2.heap.size (.slice A3 (mkL L).length c3) (mkL L).length (mkL L))
    (hg4 : (w3.alloc (.cells EC 61)).grownBy w4 en.ownBlock) (hT4 : Blk w4 g 96 (telC sp x day ev en)) (ho4 : OwnS enT 61 w4 b0 (.slice A4 (x.L.length + 1) c4) (x.L.length + 1) (V ++ [⟨⟨a, day, k, s⟩, A3, (mkL L).length, c3⟩])) :
    Below b0 w2 (w4.setCell ⟨g, 13, none⟩ (.slice A4 (x.L.length + 1) c4)) ∧ Tel (w4.setCell ⟨g, 13, none⟩ (.slice A4 (x.L.length + 1) c4)) b0 g sp day l (x.add a day k s L) := by
  have ho3 := hO.below hb3
  have hrow : ∀ j, en.ownBlock = some j → b0 ≤ j := fun j hj => (ho3.lt j hj).1
  have keep : ∀ (i : Nat) T cs, Blk w3 i T cs → T ≠ 61 → T ≠ 96 → (w4.setCell ⟨g, 13, none⟩ (.slice A4 (x.L.length + 1) c4)).heap[i]? = w3.heap[i]? := fun i T cs hB h1 h2 => by
    have hi : some i ≠ en.ownBlock := fun e => ho3.ne_blk hB h1 e.symm
    have h4 : w4.heap[i]? = w3.heap[i]? := (hg4.block i (by have := hB.lt; simp; omega) hi).trans (Below.heap_alloc w3 _ i hB.lt)
    refine (Below.heap_setCell w4 _ _ i ?_).trans h4
    intro e
    subst e
    exact h2 (blk_type (h4.trans hB : Blk w4 i T cs) hT4)
  have keep2 : ∀ (i : Nat) T cs, Blk w2 i T cs → T ≠ 61 → T ≠ 96 → (w4.setCell ⟨g, 13, none⟩ (.slice A4 (x.L.length + 1) c4)).heap[i]? = w2.heap[i]? := fun i T cs hB h1 h2 =>
    (keep i T cs (hB.below hb3 hB.lt) h1 h2).trans (hb3.block i hB.lt)
  have hsz : w3.heap.size ≤ (w4.setCell ⟨g, 13, none⟩ (.slice A4 (x.L.length + 1) c4)).heap.size := by
    have := hg4.size
    simp [World.size_setCell] at this ⊢
    omega
  have hlow : Below b0 w2 (w4.setCell ⟨g, 13, none⟩ (.slice A4 (x.L.length + 1) c4)) := by
    have h1 : Below b0 w2 (w3.alloc (.cells EC 61)) := (hb3.mono hb0).alloc (Nat.le_trans hb0 hb3.size) _
    have h2 : Below b0 (w3.alloc (.cells EC 61)) w4 := ⟨hg4.os, hg4.tape, hg4.output, hg4.size, fun i hi => hg4.block i (Nat.lt_of_lt_of_le hi (Nat.le_trans hb0 (Nat.le_trans hb3.size (by simp)))) (fun e => by have := hrow i e.symm; omega)⟩
    exact (h1.trans h2).setCell hg _
  refine ⟨hlow, ev, .slice A4 (x.L.length + 1) c4, hT4.set_ 13 _, hg, ?_, hV.keep fun i cs hB => keep2 i _ cs hB neEvEn neEvTe⟩
  obtain ⟨hln, A', c', he, hnc, hcm, hRs⟩ := hL3.form (show 0 < legT.k from (by decide : 0 < 2))
  injection he with e1 e2 e3
  subst e1 e3
  have hown : ∀ p, A3 = some p → ∃ cs, w2.heap.size ≤ p.block ∧ Blk w3 p.block 99 cs := fun p hp => by
    subst hp
    unfold OwnS at hL3
    rcases hL3.2 with ⟨h1, _⟩ | ⟨j, cap, cur, h1, h2, hj, _⟩
    · cases h1
    · injection h1 with h1
      injection h1 with h1
      subst h1
      exact ⟨cur, h2, hj⟩
  have hlen : (x.add a day k s L).L = x.L ++ [(⟨a, day, k, s⟩, mkL L)] := rfl
  rw [hlen]
  refine ⟨V ++ [⟨⟨a, day, k, s⟩, A3, (mkL L).length, c3⟩], ?_, ?_⟩
  · rw [List.length_append]
    exact ho4.sameS fun j hj => Below.heap_setCell w4 _ _ j (fun e => by
      subst e
      exact ho4.ne_blk hT4 (Ne.symm neEnTe) hj)
  · refine hX.snoc (Nat.le_trans hb3.size hsz) (fun i cs hB => keep2 i _ cs hB neLeEn neLeTe) _ _ _ ⟨rfl, rfl, hnc, hcm⟩ ?_ fun p hp => ?_
    · intro hn
      obtain ⟨b, off, e, hb, hc⟩ := hRs hn
      obtain ⟨cs, h1, hB⟩ := hown _ e
      exact ⟨b, off, e, by omega, fun j z hz i q hq => (cell_blkS (keep b _ cs hB neLeEn neLeTe)).trans (hc j z hz i q hq)⟩
    · obtain ⟨cs, h1, hB⟩ := hown p hp
      exact ⟨by omega, cs, (keep _ _ cs hB neLeEn neLeTe).trans hB⟩
def TelPost (w : World) (b0 g : Nat) (sp : Value) (day : Int) (l : List Ev) (x : TS) (e : Ending) (w' : World) : Prop :=
  e = .returned (.tuple #[]) ∧ Below b0 w w' ∧ Tel w' b0 g sp day l x
set_option maxRecDepth 100000 in
set_option maxHeartbeats 4000000 in
theorem post_any {o : Deal} {b0 g q : Nat} {day : Int} {l : List Ev} {x : TS} (w : World) (h : Tel w b0 g (.pointer (some ⟨q, 0, none⟩)) day l x) (hs : Sto w b0 q o) (hb : b0 ≤ w.heap.size) (hL : x.L.length ≤ 1000000000) (k s : Nat) (A : Option Addr) (n c B : Nat) (L : List (Nat × Int)) (hR : Rs legT w B A L) (hn : L.length = n) (hm : n ≤ 1000) (hB : B ≤ w.heap.size) (hI : ∀ u ∈ L, LegIn u) :
    Calls Tryz.prog 55 #[.pointer (some ⟨g, 0, none⟩), .int .u8 (k : Int), .int .u32 (s : Int), .slice A n c] w (TelPost w b0 g (.pointer (some ⟨q, 0, none⟩)) day l (x.add o.n day k s L)) := by
  obtain ⟨ev, en, hT, hg, hE, hV⟩ := h
  obtain ⟨_, _, _, dq, ds, hS, -, -, -⟩ := hs
  have HKY := Lib.hid (Blk.new w 58 #[.int .u32 (o.n : Int), .int .i32 day, .int .u8 (k : Int), .int .u32 (s : Int)])
  have hMk := fun W B' hR' hB' => Make_any ⟨o.n, day, k, s⟩ A n c B' L W hR' hn hm hB' hI
  unfold Ky.v at hMk
  have c0 := hT.cell 0
  have c10 := hT.cell 10
  have c13 := hT.cell 13
  have s0 := hS.cell 0
  simp [telC] at c0 c10 c13 s0
  have HT := Lib.hid hT
  have HE := Lib.hid hE
  have HV := Lib.hid hV
  have HS := Lib.hid hS
  have HR := Lib.hid hR
  have HM := Lib.hid hMk
  clear hT hE hV hS hR hMk
  have LD0_0 : ∀ W', Below w.heap.size w W' → (Instr.loadAt 37 (.pointer (some ⟨g, 0, none⟩))).run Tryz.prog W' = .ok (.pointer (some ⟨q, 0, none⟩)) W' := fun W' hb' => by
    have x0 := (HT.out.below hb' HT.out.lt).cell 0
    simp [telC] at x0
    go_simp
  have LD0_1 : ∀ W', Below w.heap.size w W' → (Instr.loadAt 23 (.pointer (some ⟨q, 0, none⟩))).run Tryz.prog W' = .ok (.int .u32 (o.n : Int)) W' := fun W' hb' => by
    have x0 := (HS.out.below hb' HS.out.lt).cell 0
    simp at x0
    go_simp
  have LD0_2 : ∀ W', Below w.heap.size w W' → (Instr.loadAt 26 (.pointer (some ⟨g, 10, none⟩))).run Tryz.prog W' = .ok (.int .i32 day) W' := fun W' hb' => by
    have x0 := (HT.out.below hb' HT.out.lt).cell 10
    simp [telC] at x0
    go_simp
  go_enter Tryz.func55, Tryz.ntmps55
  go_wp2_with fail
  refine wp_region_flow_lst _ [some 9, some 10, some 11, some 12, some 13, some 14, some 15, some 16, some 17, some 18, some 19, some 20, some 21, some 22, some 8] (fun i => ([.is (.pointer (some ⟨g, 0, none⟩)), .is (.pointer (some ⟨g, 0, none⟩)), .is (.pointer (some ⟨g, 0, none⟩)), .is (.pointer (some ⟨q, 0, none⟩)), .is (.pointer (some ⟨q, 0, none⟩)), .is (.pointer (some ⟨q, 0, none⟩)), .is (.int .u32 (o.n : Int)), .is (.pointer (some ⟨g, 0, none⟩)), .is (.pointer (some ⟨g, 0, none⟩)), .is (.pointer (some ⟨g, 10, none⟩)), .is (.int .i32 day), .is (.int .u8 (k : Int)), .is (.int .u32 (s : Int)), .is (.agg #[.int .u32 (o.n : Int), .int .i32 day, .int .u8 (k : Int), .int .u32 (s : Int)]), boxF w.heap.size 58 #[.int .u32 0, .int .i32 0, .int .u8 0, .int .u32 0]] : List Flw).getD i .any) (by rfl) (by kernel_rfl) (by kernel_rfl) (by kernel_rfl) (by rfl) (by rfl) ?_ ?_
  · skip
    refine ⟨step_free rfl (fun aF wF hs hb => ?_), ?_⟩
    · obtain ⟨x0, -⟩ := hs
      have e0 : aF.eval (.tmp 0) = .pointer (some ⟨g, 0, none⟩) := x0
      exact opC_move e0 ⟨rfl, below_same wF⟩
    refine ⟨step_free rfl (fun aF wF hs hb => ?_), ?_⟩
    · obtain ⟨x0, -⟩ := hs
      have e0 : aF.eval (.tmp 9) = .pointer (some ⟨g, 0, none⟩) := x0
      refine opC_value (v := .pointer (some ⟨g, 0, none⟩)) ?_ ⟨rfl, below_same wF⟩
      have t0 := ev_of e0
      go_simp
    refine ⟨step_free rfl (fun aF wF hs hb => ?_), ?_⟩
    · obtain ⟨x0, -⟩ := hs
      have e0 : aF.eval (.tmp 10) = .pointer (some ⟨g, 0, none⟩) := x0
      refine opC_value (v := .pointer (some ⟨g, 0, none⟩)) ?_ ⟨rfl, below_same wF⟩
      have t0 := ev_of e0
      go_simp
    refine ⟨step_free rfl (fun aF wF hs hb => ?_), ?_⟩
    · obtain ⟨x0, -⟩ := hs
      have e0 : aF.eval (.tmp 11) = .pointer (some ⟨g, 0, none⟩) := x0
      exact opC_load e0 (LD0_0 wF hb) ⟨rfl, below_same wF⟩
    refine ⟨step_free rfl (fun aF wF hs hb => ?_), ?_⟩
    · obtain ⟨x0, -⟩ := hs
      have e0 : aF.eval (.tmp 12) = .pointer (some ⟨q, 0, none⟩) := x0
      refine opC_value (v := .pointer (some ⟨q, 0, none⟩)) ?_ ⟨rfl, below_same wF⟩
      have t0 := ev_of e0
      go_simp
    refine ⟨step_free rfl (fun aF wF hs hb => ?_), ?_⟩
    · obtain ⟨x0, -⟩ := hs
      have e0 : aF.eval (.tmp 13) = .pointer (some ⟨q, 0, none⟩) := x0
      refine opC_value (v := .pointer (some ⟨q, 0, none⟩)) ?_ ⟨rfl, below_same wF⟩
      have t0 := ev_of e0
      go_simp
    refine ⟨step_free rfl (fun aF wF hs hb => ?_), ?_⟩
    · obtain ⟨x0, -⟩ := hs
      have e0 : aF.eval (.tmp 14) = .pointer (some ⟨q, 0, none⟩) := x0
      exact opC_load e0 (LD0_1 wF hb) ⟨rfl, below_same wF⟩
    refine ⟨step_free rfl (fun aF wF hs hb => ?_), ?_⟩
    · obtain ⟨x0, -⟩ := hs
      have e0 : aF.eval (.tmp 0) = .pointer (some ⟨g, 0, none⟩) := x0
      exact opC_move e0 ⟨rfl, below_same wF⟩
    refine ⟨step_free rfl (fun aF wF hs hb => ?_), ?_⟩
    · obtain ⟨x0, -⟩ := hs
      have e0 : aF.eval (.tmp 16) = .pointer (some ⟨g, 0, none⟩) := x0
      refine opC_value (v := .pointer (some ⟨g, 0, none⟩)) ?_ ⟨rfl, below_same wF⟩
      have t0 := ev_of e0
      go_simp
    refine ⟨step_free rfl (fun aF wF hs hb => ?_), ?_⟩
    · obtain ⟨x0, -⟩ := hs
      have e0 : aF.eval (.tmp 17) = .pointer (some ⟨g, 0, none⟩) := x0
      refine opC_value (v := .pointer (some ⟨g, 10, none⟩)) ?_ ⟨rfl, below_same wF⟩
      have t0 := ev_of e0
      go_simp
    refine ⟨step_free rfl (fun aF wF hs hb => ?_), ?_⟩
    · obtain ⟨x0, -⟩ := hs
      have e0 : aF.eval (.tmp 18) = .pointer (some ⟨g, 10, none⟩) := x0
      exact opC_load e0 (LD0_2 wF hb) ⟨rfl, below_same wF⟩
    refine ⟨step_free rfl (fun aF wF hs hb => ?_), ?_⟩
    · obtain ⟨x0, -⟩ := hs
      have e0 : aF.eval (.tmp 1) = .int .u8 (k : Int) := x0
      exact opC_move e0 ⟨rfl, below_same wF⟩
    refine ⟨step_free rfl (fun aF wF hs hb => ?_), ?_⟩
    · obtain ⟨x0, -⟩ := hs
      have e0 : aF.eval (.tmp 2) = .int .u32 (s : Int) := x0
      exact opC_move e0 ⟨rfl, below_same wF⟩
    refine ⟨step_free rfl (fun aF wF hs hb => ?_), ?_⟩
    · obtain ⟨x0, x1, x2, x3, -⟩ := hs
      have e0 : aF.eval (.tmp 15) = .int .u32 (o.n : Int) := x0
      have e1 : aF.eval (.tmp 19) = .int .i32 day := x1
      have e2 : aF.eval (.tmp 20) = .int .u8 (k : Int) := x2
      have e3 : aF.eval (.tmp 21) = .int .u32 (s : Int) := x3
      refine opC_value (v := .agg #[.int .u32 (o.n : Int), .int .i32 day, .int .u8 (k : Int), .int .u32 (s : Int)]) ?_ ⟨rfl, below_same wF⟩
      have t0 := ev_of e0
      have t1 := ev_of e1
      have t2 := ev_of e2
      have t3 := ev_of e3
      simp [execOp, go_sem, t0, t1, t2, t3]
    refine ⟨step_free rfl (fun aF wF hs hb => ?_), ?_⟩
    · exact opC_alloc (by kernel_rfl) ⟨⟨wF.heap.size, rfl, hb.size, heap_alloc_new wF _⟩, b_alloc wF _⟩
    exact trivial
  · intro fv w1 hf hb1
    obtain ⟨gk, e8, hgk, hkb⟩ : (boxF w.heap.size 58 #[.int .u32 0, .int .i32 0, .int .u8 0, .int .u32 0]).p (fv 14) w1 := hf 14 8 rfl
    have e22 : fv 13 = .agg #[.int .u32 (o.n : Int), .int .i32 day, .int .u8 (k : Int), .int .u32 (s : Int)] := hf 13 22 rfl
    simp only [putF, Act.put, List.setIfInBounds_toArray, List.set_cons_zero, List.set_cons_succ]
    simp only [e8, e22]
    refine opC_storeM (vs := #[.int .u32 (o.n : Int), .int .i32 day, .int .u8 (k : Int), .int .u32 (s : Int)]) rfl rfl hkb (by simp) infoKey9 (by simp; exact ⟨rfl, rfl, rfl, rfl⟩) ?_
    intro w2 ho2 hk2
    rw [putL_all (by rfl)] at hk2
    have hb2 : Below w.heap.size w w2 := hb1.trans (below_only ho2 hgk)
    clear hkb e8 e22 hf ho2 hb1 LD0_0 LD0_1 LD0_2
    have HT2 := Lib.hid (HT.out.below hb2 HT.out.lt)
    have HE2 := Lib.hid (HE.out.keep hb2.size fun i _ _ hB _ => hb2.block i hB.lt)
    have HV2 := Lib.hid (HV.out.keep fun i _ hB => hb2.block i hB.lt)
    have HR2 := Lib.hid (HR.out.below (hb2.mono hB))
    have HBs := Lib.hid (Nat.le_trans hB hb2.size)
    have HBb := Lib.hid (Nat.le_trans hb hb2.size)
    have HB2 := Lib.hid (hb2.mono hb)
    have HK2 := Lib.hid hk2
    have d0 := HT2.out.cell 13
    have k0 := hk2.cell 0
    have k1 := hk2.cell 1
    have k2 := hk2.cell 2
    have k3 := hk2.cell 3
    simp [telC] at d0 k0 k1 k2 k3
    clear hb2 hk2 c0 c10 c13 s0 HT HS HV HE HKY hgk HR hb hB
    obtain ⟨V, hO, hX⟩ := HE2.out
    have HO := Lib.hid hO
    have HX := Lib.hid hX
    have HVL := Lib.hid (hO.length (show 0 < enT.k from (by decide : 0 < 5)))
    have hne := hO.ne_blk HT2.out (Ne.symm neEnTe)
    have HNE := Lib.hid hne
    clear hO hX HE2 hne
    go_wp2_with fail
    go_region_law (first
      | (refine step_callK (enters_of Tryz.func104 (by kernel_rfl) rfl) (by first | rfl | (simp [Act.eval]; done) | (simp [Act.eval, Act.put]; exact ⟨rfl, rfl⟩)) ((HM.out w2.drew B HR2.out HBs.out).mono ?_); rintro _ w3 ⟨A3, c3, rfl, hO3, hb3⟩; refine ⟨.agg #[.int .u32 (o.n : Int), .int .i32 day, .int .u8 (k : Int), .int .u32 (s : Int), .slice A3 (mkL L).length c3], rfl, ?_⟩; have hT3 := HT2.out.drew.below hb3 HT2.out.lt; have d3 := hT3.cell 13; have d5 := (hT3.alloc (.cells #[.int .u32 (o.n : Int), .int .i32 day, .int .u8 (k : Int), .int .u32 (s : Int), .slice A3 (mkL L).length c3] 61)).cell 13; simp only [telC, List.getElem?_toArray, List.getElem?_cons_succ, List.getElem?_cons_zero] at d3 d5; have HT3 := Lib.hid hT3; have HL3 := Lib.hid hO3; have HB3 := Lib.hid hb3; clear hT3 hO3 hb3)
      | (refine step_appendS rfl rowEn (.tmp 27) (.tmp 31) rfl b0 en x.L.length V (by rfl) ((OwnS.below (w := w2.drew) HO.out HB3.out).alloc _) _ (some ⟨w3.heap.size, 0, none⟩) 1 1 [⟨⟨o.n, day, k, s⟩, A3, (mkL L).length, c3⟩] (by rfl) (Rs.block (Blk.new w3 _ _)) rfl (by unfold maxLen; omega) (by omega) (by have h1 := HBb.out; have h2 := HB3.out.size; simp at h2 ⊢; omega) ?_; intro v4 w4 ho4 hg4 hat4 hnn4; obtain ⟨-, A4, c4, rfl, hc4, hm4, -⟩ := ho4.form (show 0 < enT.k from (by decide : 0 < 5)); have hT4 := (HT3.out.alloc (.cells #[.int .u32 (o.n : Int), .int .i32 day, .int .u8 (k : Int), .int .u32 (s : Int), .slice A3 (mkL L).length c3] 61)).grown hg4 (fun e => HNE.out e.symm); have d4 := hT4.cell 13; have e4 := hT4.frozen 13; simp [telC] at d4; have HT4 := Lib.hid hT4; have HO4 := Lib.hid ho4; have HG4 := Lib.hid hg4; have HA4 := Lib.hid hat4; clear hT4 ho4 hg4 hat4 hnn4))
    all_goals
      have hbd : Below w2.heap.size w2 w2.drew := ⟨rfl, rfl, rfl, Nat.le_refl _, fun _ _ => rfl⟩
      have hfin := post_fin (a := o.n) (day := day) (k := k) (s := s) (L := L) hg HBb.out (hbd.trans HB3.out) HO.out HX.out HV2.out HL3.out HG4.out HT4.out HO4.out
      go_end0
      exact ⟨rfl, HB2.out.trans hfin.1, hfin.2⟩
end Go.Proofs.YtpbfipeinblfgaaGreatDoor
namespace Go.Proofs.YtpbfipeinblfgaaGreatDoor
open Go.ChangeShapes Go.WideShapes Go.ChangeAt Go.RowKit Go.Shelf

theorem Rs.blkS {α : Type} {T : Lies α} {w : World} {b : Nat} {ty : TypeId} {l : List α} {cs : Array Value} (h : Blk w b ty cs) (hc : cs = (flatS T l).toArray) : Rs T w w.heap.size (some ⟨b, 0, none⟩) l := fun _ =>
  ⟨b, 0, rfl, h.lt, fun j v hv i x hx => by
    subst hc
    rw [h.cell, Nat.zero_add]
    have := flatS_at l j v hv i x hx
    simpa using this⟩
theorem telC_1 (sp : Value) (x : TS) (day : Int) (ev en : Value) (z : Int) : (telC sp x day ev en).setIfInBounds 1 (.int .i64 z) = telC sp { x with f := z } day ev en := by simp [telC]
theorem telC_2 (sp : Value) (x : TS) (day : Int) (ev en : Value) (z : Int) : (telC sp x day ev en).setIfInBounds 2 (.int .i64 z) = telC sp { x with i := z } day ev en := by simp [telC]
theorem telC_3 (sp : Value) (x : TS) (day : Int) (ev en : Value) (z : Int) : (telC sp x day ev en).setIfInBounds 3 (.int .i64 z) = telC sp { x with p := z } day ev en := by simp [telC]
theorem telC_4 (sp : Value) (x : TS) (day : Int) (ev en : Value) (z : Nat) : (telC sp x day ev en).setIfInBounds 4 (.int .u64 (z : Int)) = telC sp { x with c := z } day ev en := by simp [telC]
theorem telC_5 (sp : Value) (x : TS) (day : Int) (ev en : Value) (z : Int) : (telC sp x day ev en).setIfInBounds 5 (.int .i64 z) = telC sp { x with d := z } day ev en := by simp [telC]
theorem telC_6 (sp : Value) (x : TS) (day : Int) (ev en : Value) (z : Int) : (telC sp x day ev en).setIfInBounds 6 (.int .i64 z) = telC sp { x with s := z } day ev en := by simp [telC]
theorem telC_7 (sp : Value) (x : TS) (day : Int) (ev en : Value) (z : Int) : (telC sp x day ev en).setIfInBounds 7 (.int .i64 z) = telC sp { x with r := z } day ev en := by simp [telC]
theorem telC_8 (sp : Value) (x : TS) (day : Int) (ev en : Value) (z : Int) : (telC sp x day ev en).setIfInBounds 8 (.int .i64 z) = telC sp { x with h := z } day ev en := by simp [telC]
theorem telC_9 (sp : Value) (x : TS) (day : Int) (ev en : Value) (z : Nat) : (telC sp x day ev en).setIfInBounds 9 (.int .u8 (z : Int)) = telC sp { x with t := z } day ev en := by simp [telC]
theorem telC_12 (sp : Value) (x : TS) (day : Int) (ev en : Value) (z : Nat) : (telC sp x day ev en).setIfInBounds 12 (.int .i64 (z : Int)) = telC sp { x with m := z } day ev en := by simp [telC]
section
variable {w w' : World} {b0 g : Nat} {sp : Value} {day : Int} {l : List Ev} {x : TS}
theorem Tel.cells (h : Tel w b0 g sp day l x) : w.cell? ⟨g, 0, none⟩ = some sp ∧ w.cell? ⟨g, 1, none⟩ = some (.int .i64 x.f) ∧ w.cell? ⟨g, 2, none⟩ = some (.int .i64 x.i) ∧ w.cell? ⟨g, 3, none⟩ = some (.int .i64 x.p) ∧ w.cell? ⟨g, 4, none⟩ = some (.int .u64 (x.c : Int)) ∧ w.cell? ⟨g, 5, none⟩ = some (.int .i64 x.d) ∧ w.cell? ⟨g, 6, none⟩ = some (.int .i64 x.s) ∧ w.cell? ⟨g, 7, none⟩ = some (.int .i64 x.r) ∧ w.cell? ⟨g, 8, none⟩ = some (.int .i64 x.h) ∧ w.cell? ⟨g, 9, none⟩ = some (.int .u8 (x.t : Int)) ∧ w.cell? ⟨g, 10, none⟩ = some (.int .i32 day) ∧ w.cell? ⟨g, 12, none⟩ = some (.int .i64 (x.m : Int)) ∧ ∀ k, w.frozen? ⟨g, k, none⟩ = false := by
  obtain ⟨ev, en, hB, -⟩ := h
  have c := fun k => hB.cell k
  refine ⟨c 0, c 1, c 2, c 3, c 4, c 5, c 6, c 7, c 8, c 9, c 10, c 12, fun k => hB.frozen k⟩
theorem Tel.low (h : Tel w b0 g sp day l x) (_ : b0 ≤ w.heap.size) (k : Nat) (v : Value) : Below b0 w (w.setCell ⟨g, k, none⟩ v) := (Below.refl b0 w).setCell h.base v
end
theorem below_drewS (w : World) : Below w.heap.size w w.drew := ⟨rfl, rfl, rfl, Nat.le_refl _, fun _ _ => rfl⟩
theorem Tel.drewS {w : World} {b0 g : Nat} {sp : Value} {day : Int} {l : List Ev} {x : TS} (h : Tel w b0 g sp day l x) : Tel w.drew b0 g sp day l x := h.below (below_drewS w)
/-- One cell of the teller's written in a region that draws. -/
theorem Tel.put {w : World} {b0 g : Nat} {sp : Value} {day : Int} {l : List Ev} {x y : TS} {k : Nat} {v : Value} (h : Tel w b0 g sp day l x) (hL : y.L = x.L) (hc : ∀ ev en, (telC sp x day ev en).setIfInBounds k v = telC sp y day ev en) : Tel (w.setCell ⟨g, k, none⟩ v).drew b0 g sp day l y := (h.set hL hc).drewS
theorem Tel.putB {w : World} {b0 g : Nat} {sp : Value} {day : Int} {l : List Ev} {x : TS} (h : Tel w b0 g sp day l x) (k : Nat) (v : Value) : Below b0 w (w.setCell ⟨g, k, none⟩ v).drew := ((Below.refl b0 w).setCell h.base v).trans ⟨rfl, rfl, rfl, Nat.le_refl _, fun _ _ => rfl⟩
theorem Blk.putS {w : World} {j g : Nat} {t : TypeId} {cs : Array Value} (h : Blk w j t cs) (hne : j ≠ g) (k : Nat) (v : Value) : Blk (w.setCell ⟨g, k, none⟩ v).drew j t cs := h.far (p := ⟨g, k, none⟩) hne v
set_option maxRecDepth 100000 in
set_option maxHeartbeats 4000000 in
theorem charge_any {o : Deal} {b0 g q : Nat} {day : Int} {l : List Ev} {x : TS} (w : World) (h : Tel w b0 g (.pointer (some ⟨q, 0, none⟩)) day l x) (hs : Sto w b0 q o) (hb : b0 ≤ w.heap.size) (hL : x.L.length ≤ 1000000000) (k s : Nat) (F : Int) (hF : 0 ≤ F ∧ F ≤ 1000000000000) (hf : 0 ≤ x.f ∧ x.f ≤ 1000000000000000000) :
    Calls Tryz.prog 107 #[.pointer (some ⟨g, 0, none⟩), .int .u8 (k : Int), .int .u32 (s : Int), .int .i64 F] w (TelPost w b0 g (.pointer (some ⟨q, 0, none⟩)) day l (chgM o.n day k s F x)) := by
  obtain ⟨-, c1, -, -, -, -, -, -, -, -, -, -, fz⟩ := h.cells
  have f1 := fz 1
  have hw1 : -9223372036854775808 ≤ x.f + F := by omega
  have hw2 : x.f + F ≤ 9223372036854775807 := by omega
  have T1 := Lib.hid (h.set (k := 1) (v := .int .i64 (x.f + F)) (y := { x with f := x.f + F }) rfl (fun ev en => telC_1 _ x day ev en _))
  have B1 := Lib.hid (h.low hb 1 (.int .i64 (x.f + F)))
  have HS := Lib.hid hs
  have HF := Lib.hid hF
  have HL := Lib.hid hL
  have HB := Lib.hid hb
  clear h hs hb hL fz hf hF
  go_enter Tryz.func107, Tryz.ntmps107
  go_wp2_with fail
  refine (debit_any 4 F _).mono ?_
  rintro e w2 ⟨rfl, b2⟩
  have T2 := Lib.hid (T1.out.below b2)
  have B2 := Lib.hid (B1.out.trans (b2.mono (Nat.le_trans HB.out B1.out.size)))
  clear T1 B1 b2 c1 f1
  go_wp2_with fail
  refine (credit_any 7 F (by have := HF.out; omega) _).mono ?_
  rintro e w3 ⟨rfl, b3⟩
  have T3 := Lib.hid (T2.out.below b3)
  have B3 := Lib.hid (B2.out.trans (b3.mono (Nat.le_trans HB.out B2.out.size)))
  clear T2 B2 b3
  go_wp2_with fail
  have hbk := Blk.new w3 99 #[.int .u8 ((4 : Nat) : Int), .int .i64 F, .int .u8 ((7 : Nat) : Int), .int .i64 (-F)]
  have hab := b_alloc w3 (.cells #[.int .u8 ((4 : Nat) : Int), .int .i64 F, .int .u8 ((7 : Nat) : Int), .int .i64 (-F)] 99)
  have T4 := Lib.hid (T3.out.below hab)
  have B4 := Lib.hid (B3.out.trans (hab.mono (Nat.le_trans HB.out B3.out.size)))
  have hr := Rs.blkS (T := legT) (l := [(4, F), (7, -F)]) hbk (by rfl)
  refine (post_any _ T4.out (HS.out.below B4.out) (Nat.le_trans HB.out B4.out.size) HL.out k s _ 2 2 _ _ hr rfl (by omega) (Nat.le_refl _) ?_).mono ?_
  · intro u hu
    have := HF.out
    simp at hu
    rcases hu with rfl | rfl <;> (unfold LegIn; dsimp only; omega)
  rintro e w5 ⟨rfl, b5, t5⟩
  have T5 := Lib.hid t5
  have B5 := Lib.hid (B4.out.trans b5)
  clear t5 b5 hr hbk hab T3 B3 T4 B4
  go_wp2_with fail
  go_end0
  exact ⟨rfl, B5.out, T5.out⟩
end Go.Proofs.YtpbfipeinblfgaaGreatDoor
