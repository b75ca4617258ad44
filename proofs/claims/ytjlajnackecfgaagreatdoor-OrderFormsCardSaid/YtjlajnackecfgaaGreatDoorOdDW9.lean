/-
A region that draws its order, op by op, under any relation of worlds that is kept (XFlow with another relation); stores too. No condition.
Regions that draw their order, with calls that change what is there: what is known of the world hangs on what has run. No condition.
Regions that draw their order and store into blocks that they made. No condition.
Drawn regions that write fields of a block that was made: what has been written hangs on what has run. No condition.
-/
import Derived.Test.YtjlajnackecfgaaGreatDoorFlowW9
import Derived.Test.YtjlajnackecfgaaGreatDoorMemW9
import Derived.Deep.MidRow
import Derived.Test.YtjlajnackecfgaaGreatDoorOdAW9
import Derived.RegionTactic
import Derived.BigQuiet
namespace Go.Proofs.YtjlajnackecfgaaGreatDoor
open Go Go.RowKit

section flowG
variable {P : Program}
/-- How worlds may follow each other. -/
structure Rel where
  r : World → World → Prop
  refl : ∀ w, r w w
  drew : ∀ w : World, r w w.drew
  trans : ∀ {a b c : World}, r a b → r b c → r a c
variable {R : Rel}
/-- The slot that holds a store's address, or the map that is written. -/
def addrOf (o : Oper) : Option Tmp := match o.dst, o.op with | none, .store _ (.tmp s) _ => some s | none, .entryStore _ (.tmp s) _ _ => some s | none, .mapUpdate _ (.tmp s) _ _ => some s | _, _ => none
/-- What is kept of an operation: its value; of a store its address. -/
def resV (o : Oper) (a : Act) (v : Value) : Value := match addrOf o with | some s => a.eval (.tmp s) | none => v
theorem addr_dst {o : Oper} {s : Tmp} (h : addrOf o = some s) : o.dst = none := by
  unfold addrOf at h
  split at h <;> first | assumption | cases h
theorem addr_sees {ops : Array Oper} {o : Oper} {s : Tmp} (h : addrOf o = some s) : s ∈ o.looksAt ops := by
  obtain ⟨dst, op, ty, pos, af, g⟩ := o
  unfold addrOf at h
  split at h
  · rename_i s' _ h1 h2
    simp only at h2
    subst h2
    cases h
    simp [Oper.looksAt, Op.operands]
  · rename_i s' _ _ h1 h2
    simp only at h2
    subst h2
    cases h
    simp [Oper.looksAt, Op.operands]
  · rename_i s' _ _ h1 h2
    simp only at h2
    subst h2
    cases h
    simp [Oper.looksAt, Op.operands]
  · cases h
/-- What is known of a slot, in every later world too. -/
structure FlwG (R : Rel) where
  p : Value → World → Prop
  mono : ∀ {v : Value} {w w' : World}, p v w → R.r w w' → p v w'
def FlwG.is (v : Value) : FlwG R := ⟨fun u _ => u = v, fun h _ => h⟩
def FlwG.any : FlwG R := ⟨fun _ _ => True, fun _ _ => trivial⟩
/-- What an operation sees of a slot. -/
def seeSG (ds : List (Option Tmp)) (F : Nat → FlwG R) (a0 a : Act) (w : World) (d : Tmp) : Prop :=
  match wr d ds 0 with
  | some j => (F j).p (a.eval (.tmp d)) w
  | none => a.eval (.tmp d) = a0.eval (.tmp d)
def seesSG (ds : List (Option Tmp)) (F : Nat → FlwG R) (a0 a : Act) (w : World) : List Tmp → Prop
  | [] => True
  | d :: r => seeSG ds F a0 a w d ∧ seesSG ds F a0 a w r
theorem seesS_ofG {ds : List (Option Tmp)} {F : Nat → FlwG R} {a0 a : Act} {w : World} : ∀ {l : List Tmp}, (∀ d ∈ l, seeSG ds F a0 a w d) → seesSG ds F a0 a w l
  | [], _ => trivial
  | d :: r, h => ⟨h d (by simp), seesS_ofG fun e he => h e (by simp [he])⟩
/-- What is asked of operation i. -/
def stepFG (P : Program) (ops : Array Oper) (ds : List (Option Tmp)) (F : Nat → FlwG R) (a0 : Act) (w0 : World) (i : Nat) (o : Oper) : Prop :=
  ∀ a w, seesSG ds F a0 a w (o.looksAt ops) → R.r w0 w →
    if Region.wanted o (yielded ops a.tmps) then opC P o a w (fun v w' => (F i).p (resV o a v) w' ∧ R.r w w') else (F i).p (resV o a undef) w
def stepsFG (P : Program) (ops : Array Oper) (ds : List (Option Tmp)) (F : Nat → FlwG R) (a0 : Act) (w0 : World) : Nat → List Oper → Prop
  | _, [] => True
  | i, o :: r => stepFG P ops ds F a0 w0 i o ∧ stepsFG P ops ds F a0 w0 (i + 1) r
theorem stepsF_atG {ops : Array Oper} {ds : List (Option Tmp)} {F : Nat → FlwG R} {a0 : Act} {w0 : World} : ∀ {l : List Oper} {k : Nat}, stepsFG P ops ds F a0 w0 k l → ∀ (i : Nat) (o : Oper), l[i]? = some o → stepFG P ops ds F a0 w0 (k + i) o
  | [], _, _, i, o, h => by simp at h
  | x :: r, k, hs, i, o, h => by
    cases i with
    | zero => obtain rfl : x = o := by simpa using h
              exact hs.1
    | succ i => have := stepsF_atG hs.2 i o (by simpa using h)
                rwa [show k + 1 + i = k + (i + 1) by omega] at this
/-- Where the walk of a region stands. -/
structure AtFG (ops : Array Oper) (F : Nat → FlwG R) (a0 : Act) (listed : Array Bool) (a : Act) (w : World) : Prop where
  ls : listed.size = ops.size
  sz : a.tmps.size = a0.tmps.size
  df : a.defers = a0.defers
  old : ∀ d, (∀ (i : Nat) (o : Oper), ops[i]? = some o → o.dst = some d → listed[i]? = some false) → a.tmps[d]? = a0.tmps[d]?
  new : ∀ (i : Nat) (o : Oper) (d : Tmp), ops[i]? = some o → o.dst = some d → listed[i]? = some true → (F i).p (a.eval (.tmp d)) w
  non : ∀ (i : Nat) (o : Oper) (s : Tmp), ops[i]? = some o → addrOf o = some s → listed[i]? = some true → (F i).p (a.eval (.tmp s)) w ∧ ∀ (j : Nat) (oj : Oper), ops[j]? = some oj → oj.dst = some s → listed[j]? = some true
theorem AtFG.put {ops : Array Oper} {F : Nat → FlwG R} {a0 a : Act} {listed : Array Bool} {w w' : World} (hk : FlowOk ops a0.tmps.size) (h : AtFG ops F a0 listed a w) {i : Nat} {o : Oper} (ho : ops[i]? = some o)
    {v : Value} (hi0 : listed[i]? = some false) (hr : ∀ e ∈ o.after, Region.binds .any e = true → listed[e.on]? = some true) (hv : (F i).p (resV o a v) w') (hb : R.r w w') : AtFG ops F a0 (listed.setIfInBounds i true) (a.put o.dst v) w' := by
  have hi := size_of_some ho
  have hli : i < listed.size := by rw [h.ls]; exact hi
  refine ⟨by simp [h.ls], ?_, ?_, fun d hd => ?_, fun j oj d hj hd hl => ?_, fun j oj s hj hs hl => ?_⟩
  · cases e : o.dst <;> simp [Act.put, h.sz]
  · cases e : o.dst <;> simp [Act.put, h.df]
  · have hne : o.dst ≠ some d := fun e => by
      have := hd i o ho e
      rw [Array.getElem?_setIfInBounds_self_of_lt hli] at this
      cases this
    have : (a.put o.dst v).tmps[d]? = a.tmps[d]? := by
      cases e : o.dst with
      | none => rfl
      | some d' =>
        have : d' ≠ d := fun e' => hne (by rw [e, e'])
        simp [Act.put, Array.getElem?_setIfInBounds_ne this]
    rw [this]
    refine h.old d fun j oj hj hdj => ?_
    have hji : i ≠ j := fun e => hne (by subst e; rw [ho] at hj; injection hj with hj; rw [hj]; exact hdj)
    have := hd j oj hj hdj
    rwa [Array.getElem?_setIfInBounds_ne hji] at this
  · by_cases hji : i = j
    · subst hji
      obtain rfl : o = oj := by rw [ho] at hj; injection hj
      have hdz := hk.lt i o d ho hd
      have : (a.put o.dst v).eval (.tmp d) = v := by
        rw [hd]
        have hd2 : d < a.tmps.size := by rw [h.sz]; exact hdz
        simp [Act.put, Act.eval, Array.getD, hd2]
      rw [this]
      have e9 : resV o a v = v := by
        unfold resV
        cases e : addrOf o with
        | none => rfl
        | some s => rw [addr_dst e] at hd; cases hd
      rw [e9] at hv
      exact hv
    · have hl2 : listed[j]? = some true := by rwa [Array.getElem?_setIfInBounds_ne hji] at hl
      have h2 := h.new j oj d hj hd hl2
      have : (a.put o.dst v).eval (.tmp d) = a.eval (.tmp d) := by
        refine Act.eval_put fun d' hd' e => ?_
        injection e with e
        subst e
        exact hji (hk.one j i oj o d hj ho hd hd')
      rw [this]
      exact (F j).mono h2 hb
  · have hev : ∀ (hw : ∀ (k : Nat) (ok : Oper), ops[k]? = some ok → ok.dst = some s → listed[k]? = some true), (a.put o.dst v).eval (.tmp s) = a.eval (.tmp s) := fun hw => by
      refine Act.eval_put fun d' hd' e => ?_
      injection e with e
      subst e
      have := hw i o ho hd'
      rw [hi0] at this
      cases this
    by_cases hji : i = j
    · subst hji
      obtain rfl : o = oj := by rw [ho] at hj; injection hj
      have hw : ∀ (k : Nat) (ok : Oper), ops[k]? = some ok → ok.dst = some s → listed[k]? = some true := fun k ok hk1 hk2 => by
        obtain ⟨e, he, hbd, rfl⟩ := hk.edge i o s k ok ho (addr_sees hs) hk1 hk2
        exact hr e he hbd
      refine ⟨?_, fun k ok hk1 hk2 => set_keeps (hw k ok hk1 hk2)⟩
      rw [hev hw]
      unfold resV at hv
      rw [hs] at hv
      exact hv
    · have hl2 : listed[j]? = some true := by rwa [Array.getElem?_setIfInBounds_ne hji] at hl
      obtain ⟨h2, h3⟩ := h.non j oj s hj hs hl2
      refine ⟨?_, fun k ok hk1 hk2 => set_keeps (h3 k ok hk1 hk2)⟩
      rw [hev h3]
      exact (F j).mono h2 hb
theorem sees_atG {ops : Array Oper} {F : Nat → FlwG R} {a0 a : Act} {listed : Array Bool} {w : World} (hk : FlowOk ops a0.tmps.size) (h : AtFG ops F a0 listed a w) {i : Nat} {o : Oper} (ho : ops[i]? = some o)
    (hr : ∀ e ∈ o.after, Region.binds .any e = true → listed[e.on]? = some true) : seesSG (ops.toList.map (·.dst)) F a0 a w (o.looksAt ops) := by
  refine seesS_ofG fun d hd => ?_
  unfold seeSG
  split
  · rename_i j hj
    obtain ⟨-, hj⟩ := wr_some hj
    rw [Nat.sub_zero, List.getElem?_map, Array.getElem?_toList] at hj
    obtain ⟨oj, h1, h2⟩ := Option.map_eq_some_iff.1 hj
    obtain ⟨e, he, hb, rfl⟩ := hk.edge i o d j oj ho hd h1 h2
    exact h.new _ oj d h1 h2 (hr e he hb)
  · rename_i hn
    have := h.old d fun j oj hj hdj => by
      exfalso
      refine wr_none hn j ?_
      rw [List.getElem?_map, Array.getElem?_toList, hj]
      simp [hdj]
    simp only [Act.eval, Array.getD_eq_getD_getElem?, this]
theorem AtFG.all {ops : Array Oper} {F : Nat → FlwG R} {a0 a : Act} {listed : Array Bool} {w : World} (hk : FlowOk ops a0.tmps.size) (h : AtFG ops F a0 listed a w) (hl : ∀ (i : Nat) (o : Oper), ops[i]? = some o → listed[i]? = some true) :
    ∃ f : Nat → Value, a = putF f (ops.toList.map (·.dst)) 0 a0 ∧ ∀ (i : Nat) (o : Oper) (d : Tmp), ops[i]? = some o → o.dst = some d → (F i).p (f i) w := by
  refine ⟨fun i => match (ops[i]?).bind (·.dst) with | some d => a.eval (.tmp d) | none => undef, ?_, fun i o d ho hd => ?_⟩
  · obtain ⟨s1, s2⟩ := putF_size (fun i => match (ops[i]?).bind (·.dst) with | some d => a.eval (.tmp d) | none => undef) (ops.toList.map (·.dst)) 0 a0
    refine act_ext (by rw [s1, h.sz]) (by rw [s2, h.df]) fun d => ?_
    cases e : wr d (ops.toList.map (·.dst)) 0 with
    | none =>
      have hn := wr_none e
      rw [putF_old _ _ _ _ _ hn]
      refine h.old d fun j oj hj hdj => ?_
      exfalso
      refine hn j ?_
      rw [List.getElem?_map, Array.getElem?_toList, hj]
      simp [hdj]
    | some j =>
      obtain ⟨-, hj⟩ := wr_some e
      rw [Nat.sub_zero] at hj
      have hj' := hj
      rw [List.getElem?_map, Array.getElem?_toList] at hj
      obtain ⟨oj, h1, h2⟩ := Option.map_eq_some_iff.1 hj
      have hdz := hk.lt j oj d h1 h2
      rw [putF_new _ _ _ _ d j hdz hj' (fun i hi => by
        rw [List.getElem?_map, Array.getElem?_toList] at hi
        obtain ⟨oi, g1, g2⟩ := Option.map_eq_some_iff.1 hi
        exact hk.one j i oj oi d h1 g1 h2 g2)]
      have hd2 : d < a.tmps.size := by rw [h.sz]; exact hdz
      simp [h1, h2, Act.eval, Array.getD, hd2]
  · simp only [ho, Option.bind_some, hd]
    exact h.new i o d ho hd (hl i o ho)
theorem wpAny_flowG {ops : Array Oper} {F : Nat → FlwG R} {a0 : Act} {w0 : World} {Q : Exit → Act → World → Prop} (hk : FlowOk ops a0.tmps.size)
    (hs : ∀ (i : Nat) (o : Oper), ops[i]? = some o → stepFG P ops (ops.toList.map (·.dst)) F a0 w0 i o)
    (hq : ∀ (f : Nat → Value) w, (∀ (i : Nat) (o : Oper) (d : Tmp), ops[i]? = some o → o.dst = some d → (F i).p (f i) w) → (∀ (i : Nat) (o : Oper) (s : Tmp), ops[i]? = some o → addrOf o = some s → (F i).p ((putF f (ops.toList.map (·.dst)) 0 a0).eval (.tmp s)) w) → R.r w0 w → Q .normal (putF f (ops.toList.map (·.dst)) 0 a0) w) :
    ∀ (fuel : Nat) (listed : Array Bool) (a : Act) (w : World), leftF listed ≤ fuel → AtFG ops F a0 listed a w → R.r w0 w → wpAny P .any ops Q fuel listed a w := by
  have fin : ∀ (listed : Array Bool) (a : Act) (w : World), AtFG ops F a0 listed a w → R.r w0 w → Region.ready .any ops listed = [] → Q .normal a w := fun listed a w h hb hr => by
    have hn := h.non
    obtain ⟨f, rfl, hf⟩ := h.all hk (all_listed hk h.ls hr)
    exact hq f w hf (fun i o s ho hs => (hn i o s ho hs (all_listed hk h.ls hr i o ho)).1) hb
  intro fuel
  induction fuel with
  | zero =>
    intro listed a w hl h hb
    have hr : Region.ready .any ops listed = [] := by
      rw [List.eq_nil_iff_forall_not_mem]
      intro i hi
      obtain ⟨o, _, h2, _⟩ := ready_listed h.ls hi
      exact left_none (by omega) i h2
    exact ⟨hr, fin _ _ _ h hb hr⟩
  | succ fuel ih =>
    intro listed a w hl h hb
    refine ⟨fin _ _ _ h hb, fun i hi => ?_⟩
    obtain ⟨o, ho, h2, h3⟩ := ready_listed h.ls hi
    have hst := hs i o ho a w (sees_atG hk h ho h3) hb
    have hls := left_set h2
    unfold wpOp
    rw [ho]
    simp only
    split
    · rename_i hw
      rw [if_pos hw] at hst
      refine .inl (wp_of_opC hst fun v w' hv => ?_)
      exact ih _ _ _ (by omega) (h.put hk ho h2 h3 hv.1 hv.2) (R.trans hb hv.2)
    · rename_i hw
      rw [if_neg hw] at hst
      exact ih _ _ _ (by omega) (h.put hk ho h2 h3 hst (R.refl _)) hb
/-- THE LAW: each operation's share, wherever it comes up. -/
theorem wp_region_flowG {id : Nat} {l : List Oper} {Q : Exit → Act → World → Prop} {a0 : Act} {w : World} (ds : List (Option Tmp)) (F : Nat → FlwG R) (hm : P.follows .mixedOrders = true)
    (hB : flowB l.toArray a0.tmps.size = true) (hd : l.map (·.dst) = ds) (hs : stepsFG P l.toArray ds F a0 w 0 l)
    (hq : ∀ (f : Nat → Value) w', (∀ (i : Nat) (d : Tmp), ds[i]? = some (some d) → (F i).p (f i) w') → (∀ (i : Nat) (o : Oper) (s : Tmp), l[i]? = some o → addrOf o = some s → (F i).p ((putF f ds 0 a0).eval (.tmp s)) w') → R.r w w' → Q .normal (putF f ds 0 a0) w') : (Code.region id l.toArray true).wp P Q a0 w := by
  subst hd
  refine wp_region_any hm (wpAny_flowG (F := F) (a0 := a0) (w0 := w) (flowOk hB) (fun i o ho => ?_) (fun f w' hf hn hb => ?_) _ _ _ _ ?_ ?_ ?_)
  · have := stepsF_atG hs i o (by simpa using ho)
    rwa [Nat.zero_add] at this
  · refine hq f w' (fun i d hi => ?_) (fun i o s h1 h2 => hn i o s (by simpa using h1) h2) hb
    rw [List.getElem?_map] at hi
    obtain ⟨o, h1, h2⟩ := Option.map_eq_some_iff.1 hi
    exact hf i o d (by simpa using h1) h2
  · exact left_new _
  · refine ⟨by simp, rfl, rfl, fun _ _ => rfl, fun i o d _ _ h => ?_, fun i o s _ _ h => ?_⟩
    · rw [Array.getElem?_replicate] at h
      split at h <;> cases h
    · rw [Array.getElem?_replicate] at h
      split at h <;> cases h
  · exact R.drew _
theorem AtFG.rest {ops : Array Oper} {F : Nat → FlwG R} {a0 a : Act} {listed : Array Bool} {w : World} {o : Oper} {l : List Oper} (hops : ops = (l ++ [o]).toArray) (hk : FlowOk ops a0.tmps.size) (h : AtFG ops F a0 listed a w) (hl : ∀ i, i < l.length → listed[i]? = some true) (hn : listed[l.length]? = some false) :
    ∃ f : Nat → Value, a = putF f (l.map (·.dst)) 0 a0 ∧ ∀ (i : Nat) (d : Tmp), (l.map (·.dst))[i]? = some (some d) → (F i).p (f i) w := by
  have hol : ∀ (i : Nat) (x : Oper), l[i]? = some x → ops[i]? = some x := fun i x hx => by
    rw [hops, List.getElem?_toArray, List.getElem?_append_left (List.getElem?_eq_some_iff.1 hx).1]
    exact hx
  have hlast : ops[l.length]? = some o := by rw [hops]; simp
  have hmap : ∀ (i : Nat) (d : Tmp), (l.map (·.dst))[i]? = some (some d) → ∃ x, l[i]? = some x ∧ x.dst = some d := fun i d hi => by
    rw [List.getElem?_map] at hi
    exact Option.map_eq_some_iff.1 hi
  refine ⟨fun i => match (ops[i]?).bind (·.dst) with | some d => a.eval (.tmp d) | none => undef, ?_, fun i d hi => ?_⟩
  · obtain ⟨s1, s2⟩ := putF_size (fun i => match (ops[i]?).bind (·.dst) with | some d => a.eval (.tmp d) | none => undef) (l.map (·.dst)) 0 a0
    refine act_ext (by rw [s1, h.sz]) (by rw [s2, h.df]) fun d => ?_
    cases e : wr d (l.map (·.dst)) 0 with
    | none =>
      have hw := wr_none e
      rw [putF_old _ _ _ _ _ hw]
      refine h.old d fun j oj hj hdj => ?_
      have hjs := size_of_some hj
      rw [hops] at hjs
      simp at hjs
      by_cases hjl : j < l.length
      · exfalso
        refine hw j ?_
        rw [List.getElem?_map]
        have : l[j]? = some oj := by
          rw [hops, List.getElem?_toArray, List.getElem?_append_left hjl] at hj
          exact hj
        rw [this]
        simp [hdj]
      · obtain rfl : j = l.length := by omega
        exact hn
    | some j =>
      obtain ⟨-, hj⟩ := wr_some e
      rw [Nat.sub_zero] at hj
      obtain ⟨oj, h1, h2⟩ := hmap j d hj
      have h1' := hol j oj h1
      have hdz := hk.lt j oj d h1' h2
      rw [putF_new _ _ _ _ d j hdz hj (fun i hi => by
        obtain ⟨oi, g1, g2⟩ := hmap i d hi
        exact hk.one j i oj oi d h1' (hol i oi g1) h2 g2)]
      have hd2 : d < a.tmps.size := by rw [h.sz]; exact hdz
      simp [h1', h2, Act.eval, Array.getD, hd2]
  · obtain ⟨oi, g1, g2⟩ := hmap i d hi
    simp only [hol i oi g1, Option.bind_some, g2]
    exact h.new i oi d (hol i oi g1) g2 (hl i (List.getElem?_eq_some_iff.1 g1).1)
theorem wpAny_flow_lastG {ops : Array Oper} {l : List Oper} {ol : Oper} (hops : ops = (l ++ [ol]).toArray) {F : Nat → FlwG R} {a0 : Act} {w0 : World} {Q : Exit → Act → World → Prop} (hk : FlowOk ops a0.tmps.size) (hc : coverB ops = true)
    (hs : ∀ (i : Nat) (o : Oper), l[i]? = some o → stepFG P ops (ops.toList.map (·.dst)) F a0 w0 i o)
    (hg : ol.guard = none)
    (hq : ∀ (f : Nat → Value) w, (∀ (i : Nat) (d : Tmp), (l.map (·.dst))[i]? = some (some d) → (F i).p (f i) w) → (∀ (i : Nat) (o : Oper) (s : Tmp), l[i]? = some o → addrOf o = some s → (F i).p ((putF f (l.map (·.dst)) 0 a0).eval (.tmp s)) w) → R.r w0 w →
      opC P ol (putF f (l.map (·.dst)) 0 a0) w (fun v w' => Q .normal ((putF f (l.map (·.dst)) 0 a0).put ol.dst v) w')) :
    ∀ (fuel : Nat) (listed : Array Bool) (a : Act) (w : World), leftF listed ≤ fuel → listed[l.length]? = some false → ClosedF ops listed → AtFG ops F a0 listed a w → R.r w0 w → wpAny P .any ops Q fuel listed a w := by
  have hlast : ops[l.length]? = some ol := by rw [hops]; simp
  have hsz : ops.size = l.length + 1 := by rw [hops]; simp
  have hopl : ∀ (i : Nat) (x : Oper), ops[i]? = some x → i ≠ l.length → l[i]? = some x := fun i x hx hi => by
    have := size_of_some hx
    rw [hops, List.getElem?_toArray, List.getElem?_append_left (by omega)] at hx
    exact hx
  intro fuel
  induction fuel with
  | zero =>
    intro listed a w hl hn _ _ _
    exact absurd hn (left_none (by omega) _)
  | succ fuel ih =>
    intro listed a w hl hn hcl h hb
    refine ⟨fun hr => ?_, fun i hi => ?_⟩
    · have := all_listed hk h.ls hr _ _ hlast
      rw [hn] at this
      cases this
    · obtain ⟨o, ho, h2, h3⟩ := ready_listed h.ls hi
      have hls := left_set h2
      by_cases hil : i = l.length
      · subst hil
        obtain rfl : ol = o := by rw [hlast] at ho; injection ho
        have hall : ∀ i, i < l.length → listed[i]? = some true := fun i hi => last_all hc hcl (by rw [hsz]; exact hlast) h3 _ i rfl (by omega)
        have hn9 := h.non
        obtain ⟨f, rfl, hf⟩ := h.rest hops hk hall h2
        have hns : ∀ (i : Nat) (o : Oper) (s : Tmp), l[i]? = some o → addrOf o = some s → (F i).p ((putF f (l.map (·.dst)) 0 a0).eval (.tmp s)) w := fun i o s h1 h9 => by
          have hil := (List.getElem?_eq_some_iff.1 h1).1
          refine (hn9 i o s ?_ h9 (hall i hil)).1
          rw [hops, List.getElem?_toArray, List.getElem?_append_left hil]
          exact h1
        unfold wpOp
        rw [ho]
        simp only
        have hw : Region.wanted ol (yielded ops (putF f (l.map (·.dst)) 0 a0).tmps) = true := by unfold Region.wanted; rw [hg]
        rw [if_pos hw]
        refine .inl (wp_of_opC (hq f w hf hns hb) fun v w' hv => ?_)
        have hr : Region.ready .any ops (listed.setIfInBounds l.length true) = [] := by
          rw [List.eq_nil_iff_forall_not_mem]
          intro i hi
          obtain ⟨o', ho', g2, _⟩ := ready_listed (by simp [h.ls]) hi
          by_cases hi2 : l.length = i
          · subst hi2
            rw [set_keeps_self (by rw [h.ls, hsz]; omega)] at g2
            cases g2
          · rw [Array.getElem?_setIfInBounds_ne hi2] at g2
            have := size_of_some ho'
            rw [hall i (by omega)] at g2
            cases g2
        cases fuel with
        | zero => exact ⟨hr, hv⟩
        | succ fuel => exact ⟨fun _ => hv, fun i hi => by rw [hr] at hi; cases hi⟩
      · have hst := hs i o (hopl i o ho hil) a w (sees_atG hk h ho h3) hb
        have hn' : (listed.setIfInBounds i true)[l.length]? = some false := by rw [Array.getElem?_setIfInBounds_ne hil]; exact hn
        unfold wpOp
        rw [ho]
        simp only
        split
        · rename_i hw
          rw [if_pos hw] at hst
          refine .inl (wp_of_opC hst fun v w' hv => ?_)
          exact ih _ _ _ (by omega) hn' (hcl.put ho h3) (h.put hk ho h2 h3 hv.1 hv.2) (R.trans hb hv.2)
        · rename_i hw
          rw [if_neg hw] at hst
          exact ih _ _ _ (by omega) hn' (hcl.put ho h3) (h.put hk ho h2 h3 hst (R.refl _)) hb
/-- THE LAW, the last operation (a store, say) apart. -/
theorem wp_region_flow_lastG {id : Nat} {l : List Oper} {ol : Oper} {ops : List Oper} {Q : Exit → Act → World → Prop} {a0 : Act} {w : World} (hops : ops = l ++ [ol]) (ds : List (Option Tmp)) (F : Nat → FlwG R) (hm : P.follows .mixedOrders = true)
    (hB : flowB ops.toArray a0.tmps.size = true) (hc : coverB ops.toArray = true) (hd : ops.map (·.dst) = ds ++ [ol.dst]) (hg : ol.guard = none) (hs : stepsFG P ops.toArray (ds ++ [ol.dst]) F a0 w 0 l)
    (hq : ∀ (f : Nat → Value) w', (∀ (i : Nat) (d : Tmp), ds[i]? = some (some d) → (F i).p (f i) w') → (∀ (i : Nat) (o : Oper) (s : Tmp), l[i]? = some o → addrOf o = some s → (F i).p ((putF f ds 0 a0).eval (.tmp s)) w') → R.r w w' → opC P ol (putF f ds 0 a0) w' (fun v w'' => Q .normal ((putF f ds 0 a0).put ol.dst v) w'')) : (Code.region id ops.toArray true).wp P Q a0 w := by
  subst hops
  have hd' : l.map (·.dst) = ds := by
    rw [List.map_append] at hd
    exact List.append_cancel_right hd
  subst hd'
  refine wp_region_any hm (wpAny_flow_lastG (l := l) (ol := ol) rfl (F := F) (a0 := a0) (w0 := w) (flowOk hB) hc (fun i o ho => ?_) hg hq _ _ _ _ ?_ ?_ ?_ ?_ ?_)
  · have := stepsF_atG hs i o ho
    rw [Nat.zero_add] at this
    rw [List.map_append] at hd
    simpa using this
  · exact left_new _
  · simp
  · intro i o _ h
    rw [Array.getElem?_replicate] at h
    split at h <;> cases h
  · refine ⟨by simp, rfl, rfl, fun _ _ => rfl, fun i o d _ _ h => ?_, fun i o s _ _ h => ?_⟩
    · rw [Array.getElem?_replicate] at h
      split at h <;> cases h
    · rw [Array.getElem?_replicate] at h
      split at h <;> cases h
  · exact R.drew _
theorem seesS_appG {ds : List (Option Tmp)} {F : Nat → FlwG R} {a0 a : Act} {w : World} : ∀ {l m : List Tmp}, seesSG ds F a0 a w (l ++ m) → seesSG ds F a0 a w l ∧ seesSG ds F a0 a w m
  | [], _, h => ⟨trivial, h⟩
  | _ :: _, _, h => ⟨⟨h.1, (seesS_appG h.2).1⟩, (seesS_appG h.2).2⟩
/-- An operation without a guard. -/
theorem step_freeG {ops : Array Oper} {ds : List (Option Tmp)} {F : Nat → FlwG R} {a0 : Act} {w0 : World} {i : Nat} {o : Oper} (hg : o.guard = none)
    (h : ∀ a w, seesSG ds F a0 a w (opndsF o) → R.r w0 w → opC P o a w (fun v w' => (F i).p (resV o a v) w' ∧ R.r w w')) : stepFG P ops ds F a0 w0 i o := fun a w hs hb => by
  have hw : Region.wanted o (yielded ops a.tmps) = true := by unfold Region.wanted; rw [hg]
  rw [if_pos hw]
  exact h a w (seesS_appG hs).1 hb
/-- An operation whose guard says yes. -/
theorem step_yesG {ops : Array Oper} {ds : List (Option Tmp)} {F : Nat → FlwG R} {a0 : Act} {w0 : World} {i : Nat} {o : Oper} (j : Nat) (d : Tmp) {want : Bool} (hg : o.guard = some (j, want)) (hd : (ops[j]?).bind (·.dst) = some d)
    (hF : ∀ a w, seeSG ds F a0 a w d → a.eval (.tmp d) = .bool want)
    (h : ∀ a w, seesSG ds F a0 a w (opndsF o) → R.r w0 w → opC P o a w (fun v w' => (F i).p (resV o a v) w' ∧ R.r w w')) : stepFG P ops ds F a0 w0 i o := fun a w hs hb => by
  obtain ⟨h1, h2⟩ := seesS_appG hs
  simp only [hg, hd, Option.toList] at h2
  have hw : Region.wanted o (yielded ops a.tmps) = true := by
    unfold Region.wanted
    simp only [hg, yield_of hd (hF a w h2.1)]
    cases want <;> rfl
  rw [if_pos hw]
  exact h a w h1 hb
/-- An operation whose guard says no. -/
theorem step_noG {ops : Array Oper} {ds : List (Option Tmp)} {F : Nat → FlwG R} {a0 : Act} {w0 : World} {i : Nat} {o : Oper} (j : Nat) (d : Tmp) {want : Bool} (hg : o.guard = some (j, want)) (hd : (ops[j]?).bind (·.dst) = some d)
    (hF : ∀ a w, seeSG ds F a0 a w d → a.eval (.tmp d) = .bool (!want)) (h : ∀ a w, (F i).p (resV o a undef) w) : stepFG P ops ds F a0 w0 i o := fun a w hs hb => by
  obtain ⟨h1, h2⟩ := seesS_appG hs
  simp only [hg, hd, Option.toList] at h2
  have hw : ¬ Region.wanted o (yielded ops a.tmps) = true := by
    unfold Region.wanted
    simp only [hg, yield_of hd (hF a w h2.1)]
    cases want <;> decide
  rw [if_neg hw]
  exact h a w
end flowG
end Go.Proofs.YtjlajnackecfgaaGreatDoor
namespace Go.Proofs.YtjlajnackecfgaaGreatDoor
open Go Go.RowKit

section
variable {P : Program} {R : Rel}
def putS (S : Nat → Bool) (i : Nat) : Nat → Bool := fun j => if j = i then true else S j
def stepFI (P : Program) (ops : Array Oper) (ds : List (Option Tmp)) (F : Nat → FlwG R) (Iv : (Nat → Bool) → World → Prop) (a0 : Act) (w0 : World) (i : Nat) (o : Oper) : Prop :=
  ∀ a w S, seesSG ds F a0 a w (o.looksAt ops) → R.r w0 w → S i = false → Iv S w →
    if Region.wanted o (yielded ops a.tmps) then opC P o a w (fun v w' => (F i).p (resV o a v) w' ∧ R.r w w' ∧ Iv (putS S i) w') else (F i).p (resV o a undef) w ∧ Iv (putS S i) w
def stepsFI (P : Program) (ops : Array Oper) (ds : List (Option Tmp)) (F : Nat → FlwG R) (Iv : (Nat → Bool) → World → Prop) (a0 : Act) (w0 : World) : Nat → List Oper → Prop
  | _, [] => True
  | i, o :: r => stepFI P ops ds F Iv a0 w0 i o ∧ stepsFI P ops ds F Iv a0 w0 (i + 1) r
theorem stepsF_atI {ops : Array Oper} {ds : List (Option Tmp)} {F : Nat → FlwG R} {Iv : (Nat → Bool) → World → Prop} {a0 : Act} {w0 : World} : ∀ {l : List Oper} {k : Nat}, stepsFI P ops ds F Iv a0 w0 k l → ∀ (i : Nat) (o : Oper), l[i]? = some o → stepFI P ops ds F Iv a0 w0 (k + i) o
  | [], _, _, i, o, h => by simp at h
  | x :: r, k, hs, i, o, h => by
    cases i with
    | zero => obtain rfl : x = o := by simpa using h
              exact hs.1
    | succ i =>
      have := stepsF_atI hs.2 i o (by simpa using h)
      rwa [show k + (i + 1) = k + 1 + i by omega]
def lstS (listed : Array Bool) : Nat → Bool := fun i => listed[i]? == some true
theorem lst_put {listed : Array Bool} {i : Nat} (hi : i < listed.size) : lstS (listed.setIfInBounds i true) = putS (lstS listed) i := by
  funext j
  unfold lstS putS
  by_cases e : j = i
  · subst e
    rw [if_pos rfl, Array.getElem?_setIfInBounds_self_of_lt hi]
    rfl
  · rw [if_neg e, Array.getElem?_setIfInBounds_ne (fun hh => e hh.symm)]
theorem wpAny_flowI {ops : Array Oper} {F : Nat → FlwG R} {Iv : (Nat → Bool) → World → Prop} {a0 : Act} {w0 : World} {Q : Exit → Act → World → Prop} (hk : FlowOk ops a0.tmps.size)
    (hs : ∀ (i : Nat) (o : Oper), ops[i]? = some o → stepFI P ops (ops.toList.map (·.dst)) F Iv a0 w0 i o)
    (hq : ∀ (f : Nat → Value) w S, (∀ (i : Nat) (o : Oper) (d : Tmp), ops[i]? = some o → o.dst = some d → (F i).p (f i) w) → R.r w0 w → (∀ i, i < ops.size → S i = true) → Iv S w → Q .normal (putF f (ops.toList.map (·.dst)) 0 a0) w) :
    ∀ (fuel : Nat) (listed : Array Bool) (a : Act) (w : World), leftF listed ≤ fuel → AtFG ops F a0 listed a w → R.r w0 w → Iv (lstS listed) w → wpAny P .any ops Q fuel listed a w := by
  have fin : ∀ (listed : Array Bool) (a : Act) (w : World), AtFG ops F a0 listed a w → R.r w0 w → Iv (lstS listed) w → Region.ready .any ops listed = [] → Q .normal a w := fun listed a w h hb hI hr => by
    obtain ⟨f, rfl, hf⟩ := h.all hk (all_listed hk h.ls hr)
    refine hq f w (lstS listed) hf hb (fun i hi => ?_) hI
    unfold lstS
    rw [all_listed hk h.ls hr i _ (Array.getElem?_eq_getElem hi)]
    rfl
  intro fuel
  induction fuel with
  | zero =>
    intro listed a w hl h hb hI
    have hr : Region.ready .any ops listed = [] := by
      rw [List.eq_nil_iff_forall_not_mem]
      intro i hi
      obtain ⟨o, _, h2, _⟩ := ready_listed h.ls hi
      exact left_none (by omega) i h2
    exact ⟨hr, fin _ _ _ h hb hI hr⟩
  | succ fuel ih =>
    intro listed a w hl h hb hI
    refine ⟨fin _ _ _ h hb hI, fun i hi => ?_⟩
    obtain ⟨o, ho, h2, h3⟩ := ready_listed h.ls hi
    have hst := hs i o ho a w (lstS listed) (sees_atG hk h ho h3) hb (by unfold lstS; rw [h2]; rfl) hI
    rw [← lst_put (by rw [h.ls]; exact size_of_some ho)] at hst
    have hls := left_set h2
    unfold wpOp
    rw [ho]
    simp only
    split
    · rename_i hw
      rw [if_pos hw] at hst
      refine .inl (wp_of_opC hst fun v w' hv => ?_)
      exact ih _ _ _ (by omega) (h.put hk ho h2 h3 hv.1 hv.2.1) (R.trans hb hv.2.1) hv.2.2
    · rename_i hw
      rw [if_neg hw] at hst
      exact ih _ _ _ (by omega) (h.put hk ho h2 h3 hst.1 (R.refl _)) hb hst.2
/-- THE LAW: each operation's share, wherever it comes up, and what it does to what hangs on what has run. -/
theorem wp_region_flowI {id : Nat} {l : List Oper} {Q : Exit → Act → World → Prop} {a0 : Act} {w : World} (ds : List (Option Tmp)) (F : Nat → FlwG R) (Iv : (Nat → Bool) → World → Prop) (hm : P.follows .mixedOrders = true)
    (hB : flowB l.toArray a0.tmps.size = true) (hd : l.map (·.dst) = ds) (hI : Iv (fun _ => false) w.drew) (hs : stepsFI P l.toArray ds F Iv a0 w 0 l)
    (hq : ∀ (f : Nat → Value) w' S, (∀ (i : Nat) (d : Tmp), ds[i]? = some (some d) → (F i).p (f i) w') → R.r w w' → (∀ i, i < l.length → S i = true) → Iv S w' → Q .normal (putF f ds 0 a0) w') : (Code.region id l.toArray true).wp P Q a0 w := by
  subst hd
  refine wp_region_any hm (wpAny_flowI (F := F) (Iv := Iv) (a0 := a0) (w0 := w) (flowOk hB) (fun i o ho => ?_) (fun f w' S hf hb hS hI => ?_) _ _ _ _ ?_ ?_ ?_ ?_)
  · have := stepsF_atI hs i o (by simpa using ho)
    rwa [Nat.zero_add] at this
  · refine hq f w' S (fun i d hi => ?_) hb (fun i hi => hS i (by simpa using hi)) hI
    rw [List.getElem?_map] at hi
    obtain ⟨o, h1, h2⟩ := Option.map_eq_some_iff.1 hi
    exact hf i o d (by simpa using h1) h2
  · exact left_new _
  · refine ⟨by simp, rfl, rfl, fun _ _ => rfl, fun i o d _ _ h => ?_, fun i o s _ _ h => ?_⟩
    · rw [Array.getElem?_replicate] at h
      split at h <;> cases h
    · rw [Array.getElem?_replicate] at h
      split at h <;> cases h
  · exact R.drew _
  · have e : lstS (Array.replicate l.toArray.size false) = fun _ => false := by
      funext j
      unfold lstS
      rw [Array.getElem?_replicate]
      split <;> rfl
    rw [e]
    exact hI
theorem step_freeI {ops : Array Oper} {ds : List (Option Tmp)} {F : Nat → FlwG R} {Iv : (Nat → Bool) → World → Prop} {a0 : Act} {w0 : World} {i : Nat} {o : Oper} (hg : o.guard = none)
    (h : ∀ a w S, seesSG ds F a0 a w (opndsF o) → R.r w0 w → S i = false → Iv S w → opC P o a w (fun v w' => (F i).p (resV o a v) w' ∧ R.r w w' ∧ Iv (putS S i) w')) : stepFI P ops ds F Iv a0 w0 i o := fun a w S hs hb hS hI => by
  have hw : Region.wanted o (yielded ops a.tmps) = true := by unfold Region.wanted; rw [hg]
  rw [if_pos hw]
  exact h a w S (seesS_appG hs).1 hb hS hI
end
end Go.Proofs.YtjlajnackecfgaaGreatDoor
namespace Go.Proofs.YtjlajnackecfgaaGreatDoor
open Go Go.RowKit

section
variable {P : Program}
def putL (cs : Array Value) : Nat → List Value → Array Value
  | _, [] => cs
  | o, v :: r => putL (cs.setIfInBounds o v) (o + 1) r
theorem putL_size (vs : List Value) : ∀ (cs : Array Value) (o : Nat), (putL cs o vs).size = cs.size := by
  induction vs with
  | nil => intro cs o; rfl
  | cons v r ih => intro cs o; simp [putL, ih]
theorem putL_at (vs : List Value) : ∀ (cs : Array Value) (o i : Nat), i < cs.size → (putL cs o vs)[i]? = if o ≤ i ∧ i < o + vs.length then vs[i - o]? else cs[i]? := by
  induction vs with
  | nil =>
    intro cs o i hi
    rw [if_neg (by simp)]
    rfl
  | cons v r ih =>
    intro cs o i hi
    simp only [putL]
    rw [ih _ _ _ (by simpa using hi)]
    by_cases h1 : i = o
    · subst h1
      rw [if_neg (by omega), if_pos (by simp)]
      simp [hi]
    · by_cases h2 : o ≤ i ∧ i < o + (v :: r).length
      · rw [if_pos h2, if_pos (by simp at h2; omega)]
        rw [show i - o = (i - (o + 1)) + 1 by omega]
        simp
      · rw [if_neg h2, if_neg (by simp at h2; omega), Array.getElem?_setIfInBounds_ne (by omega)]
theorem blk_setCells {g : Nat} {ty : TypeId} : ∀ (vs : List Value) (o : Nat) (w : World) (cs : Array Value), Blk w g ty cs → Blk (w.setCells g o vs) g ty (putL cs o vs)
  | [], _, _, _, h => h
  | v :: r, o, _, _, h => blk_setCells r (o + 1) _ _ (h.set_ o v)
theorem putL_all {cs : Array Value} {vs : Array Value} (h : cs.size = vs.size) : putL cs 0 vs.toList = vs := by
  apply Array.ext_getElem?
  intro i
  by_cases hi : i < cs.size
  · rw [putL_at _ _ _ _ hi, if_pos (by simp; omega)]
    simp
  · have h1 : (putL cs 0 vs.toList)[i]? = none := Array.getElem?_eq_none (by rw [putL_size]; omega)
    have h2 : vs[i]? = none := Array.getElem?_eq_none (by omega)
    rw [h1, h2]
theorem setCells_other (g : Nat) : ∀ (vs : List Value) (o : Nat) (w : World) (i : Nat), i ≠ g → (w.setCells g o vs).heap[i]? = w.heap[i]?
  | [], _, _, _, _ => rfl
  | _ :: r, o, _, i, h => (setCells_other g r (o + 1) _ i h).trans (Below.heap_setCell _ _ _ _ h)
theorem setCells_keeps (g : Nat) : ∀ (vs : List Value) (o : Nat) (w : World), (w.setCells g o vs).os = w.os ∧ (w.setCells g o vs).tape = w.tape ∧ (w.setCells g o vs).output = w.output ∧ (w.setCells g o vs).heap.size = w.heap.size
  | [], _, _ => ⟨rfl, rfl, rfl, rfl⟩
  | v :: r, o, w => by
    obtain ⟨h1, h2, h3, h4⟩ := setCells_keeps g r (o + 1) (w.setCell ⟨g, o, none⟩ v)
    have hb := (Below.refl 0 w).setCell (Nat.zero_le _) (p := ⟨g, o, none⟩) v
    exact ⟨h1.trans hb.os, h2.trans hb.tape, h3.trans hb.output, h4.trans (by simp [World.size_setCell])⟩
/-- Only block g has turned. -/
structure OnlyAt (g : Nat) (w w' : World) : Prop where
  os : w'.os = w.os
  tape : w'.tape = w.tape
  output : w'.output = w.output
  size : w'.heap.size = w.heap.size
  block : ∀ i : Nat, i ≠ g → w'.heap[i]? = w.heap[i]?
theorem onlyAt_setCells (g : Nat) (vs : List Value) (o : Nat) (w : World) : OnlyAt g w (w.setCells g o vs) := by
  obtain ⟨h1, h2, h3, h4⟩ := setCells_keeps g vs o w
  exact ⟨h1, h2, h3, h4, fun i hi => setCells_other g vs o w i hi⟩
/-- A whole block is written over. -/
theorem opC_store {t : TypeId} {s : Tmp} {x : Operand} {ty : TypeId} {pos : String} {af : Array Edge} {gd : Option (Nat × Bool)} {a : Act} {w : World} {K : Value → World → Prop} {g : Nat} {bt : TypeId} {cs vs : Array Value}
    (he : a.eval (.tmp s) = .pointer (some ⟨g, 0, none⟩)) (hx : a.eval x = .agg vs) (hb : Blk w g bt cs) (hs : cs.size = vs.size) (hi : (P.info? t).map (·.size) = some vs.size) (h1 : vs.all (·.oneCell') = true)
    (hk : ∀ w', OnlyAt g w w' → Blk w' g bt vs → K undef w') : opC P ⟨none, .store t (.tmp s) x, ty, pos, af, gd⟩ a w K := by
  have ht : w.there g 0 vs.size := fun j hj => by
    refine ⟨?_, by simpa using hb.frozen j⟩
    have := hb.cell j
    rw [Nat.zero_add, this]
    simp [hs, hj]
  refine opC_skip (w' := w.setCells g 0 vs.toList) ?_ (hk _ (onlyAt_setCells _ _ _ _) ?_)
  · simp [execOp, he, hx, run_storeAt_mid w g 0 t vs ht hi h1, Result.andThen]
  · have := blk_setCells vs.toList 0 w cs hb
    rwa [putL_all hs] at this
/-- What an object may turn into. -/
structure Turn where
  s : Obj → Obj → Prop
  refl : ∀ o, s o o
  trans : ∀ {a b c : Obj}, s a b → s b c → s a c
def turn1 (Z V : Obj) : Turn := ⟨fun o o' => o' = o ∨ (o = Z ∧ o' = V), fun _ => .inl rfl, fun {a b c} h1 h2 => by
  rcases h1 with rfl | ⟨rfl, rfl⟩
  · exact h2
  · rcases h2 with rfl | ⟨_, rfl⟩
    · exact .inr ⟨rfl, rfl⟩
    · exact .inr ⟨rfl, rfl⟩⟩
structure TurnR (base : Nat) (S : Turn) (w w' : World) : Prop where
  os : w'.os = w.os
  tape : w'.tape = w.tape
  output : w'.output = w.output
  size : w.heap.size ≤ w'.heap.size
  low : ∀ i : Nat, i < base → w'.heap[i]? = w.heap[i]?
  turn : ∀ (i : Nat) (o : Obj), w.heap[i]? = some o → ∃ o', w'.heap[i]? = some o' ∧ S.s o o'
theorem TurnR.of_below {base : Nat} {S : Turn} {w w' : World} (h : Below w.heap.size w w') (hb : base ≤ w.heap.size) : TurnR base S w w' :=
  ⟨h.os, h.tape, h.output, h.size, fun i hi => h.block i (by omega), fun i o ho => ⟨o, (h.block i (Array.getElem?_eq_some_iff.1 ho).1).trans ho, S.refl o⟩⟩
def relT (base : Nat) (S : Turn) : Rel := ⟨TurnR base S, fun _ => ⟨rfl, rfl, rfl, Nat.le_refl _, fun _ _ => rfl, fun _ o ho => ⟨o, ho, S.refl o⟩⟩,
  fun _ => ⟨rfl, rfl, rfl, Nat.le_refl _, fun _ _ => rfl, fun _ o ho => ⟨o, ho, S.refl o⟩⟩,
  fun h1 h2 => ⟨h2.os.trans h1.os, h2.tape.trans h1.tape, h2.output.trans h1.output, Nat.le_trans h1.size h2.size, fun i hi => (h2.low i hi).trans (h1.low i hi), fun i o ho => by
    obtain ⟨o', h3, h4⟩ := h1.turn i o ho
    obtain ⟨o'', h5, h6⟩ := h2.turn i o' h3
    exact ⟨o'', h5, S.trans h4 h6⟩⟩⟩
theorem TurnR.below {base : Nat} {S : Turn} {w w' : World} (h : TurnR base S w w') : Below base w w' := ⟨h.os, h.tape, h.output, h.size, h.low⟩
theorem TurnR.only {base g : Nat} {S : Turn} {w w' : World} {o o' : Obj} (h : OnlyAt g w w') (hb : base ≤ g) (ho : w.heap[g]? = some o) (ho' : w'.heap[g]? = some o') (hs : S.s o o') : TurnR base S w w' :=
  ⟨h.os, h.tape, h.output, Nat.le_of_eq h.size.symm, fun i hi => h.block i (by omega), fun i x hx => by
    by_cases e : i = g
    · subst e
      rw [ho] at hx
      cases hx
      exact ⟨o', ho', hs⟩
    · exact ⟨x, (h.block i e).trans hx, S.refl x⟩⟩
/-- A block made in the region: zero, or written. -/
def newF (base : Nat) (Z V : Obj) : FlwG (relT base (turn1 Z V)) := ⟨fun v w => ∃ g, v = .pointer (some ⟨g, 0, none⟩) ∧ base ≤ g ∧ (w.heap[g]? = some Z ∨ w.heap[g]? = some V), fun {_ w w'} ⟨g, h1, h2, h3⟩ hb => by
  refine ⟨g, h1, h2, ?_⟩
  rcases h3 with h3 | h3
  · obtain ⟨o', h4, h5⟩ := hb.turn g _ h3
    rcases h5 with rfl | ⟨_, rfl⟩
    · exact .inl h4
    · exact .inr h4
  · obtain ⟨o', h4, h5⟩ := hb.turn g _ h3
    rcases h5 with rfl | ⟨_, rfl⟩
    · exact .inr h4
    · exact .inr h4⟩
/-- .. written. -/
def doneF (base : Nat) (Z V : Obj) : FlwG (relT base (turn1 Z V)) := ⟨fun v w => ∃ g, v = .pointer (some ⟨g, 0, none⟩) ∧ base ≤ g ∧ w.heap[g]? = some V, fun {_ w w'} ⟨g, h1, h2, h3⟩ hb => by
  refine ⟨g, h1, h2, ?_⟩
  obtain ⟨o', h4, h5⟩ := hb.turn g _ h3
  rcases h5 with rfl | ⟨_, rfl⟩
  · exact h4
  · exact h4⟩
end
end Go.Proofs.YtjlajnackecfgaaGreatDoor
namespace Go.Proofs.YtjlajnackecfgaaGreatDoor
open Go.ChangeShapes Go.WideShapes Go.ChangeAt Go.RowKit
def relB (q : Nat) : Rel := ⟨Below q, fun w => Below.refl q w, fun _ => ⟨rfl, rfl, rfl, Nat.le_refl _, fun _ _ => rfl⟩, fun h k => h.trans k⟩
theorem below_only {B g : Nat} {w w' : World} (h : OnlyAt g w w') (hg : B ≤ g) : Below B w w' := ⟨h.os, h.tape, h.output, by rw [h.size]; exact Nat.le_refl _, fun i hi => h.block i (by omega)⟩
/-- A row of values written into the midst of a block. -/
theorem opC_storeM {P : Program} {t : TypeId} {s : Tmp} {x : Operand} {ty : TypeId} {pos : String} {af : Array Edge} {gd : Option (Nat × Bool)} {a : Act} {w : World} {K : Value → World → Prop} {g k : Nat} {bt : TypeId} {cs vs : Array Value}
    (he : a.eval (.tmp s) = .pointer (some ⟨g, k, none⟩)) (hx : a.eval x = .agg vs) (hb : Blk w g bt cs) (hs : k + vs.size ≤ cs.size) (hi : (P.info? t).map (·.size) = some vs.size) (h1 : vs.all (·.oneCell') = true)
    (hk : ∀ w', OnlyAt g w w' → Blk w' g bt (putL cs k vs.toList) → K undef w') : opC P ⟨none, .store t (.tmp s) x, ty, pos, af, gd⟩ a w K := by
  have ht : w.there g k vs.size := fun j hj => by
    refine ⟨?_, by simpa using hb.frozen (k + j)⟩
    have := hb.cell (k + j)
    rw [this]
    simp
    omega
  refine opC_skip (w' := w.setCells g k vs.toList) ?_ (hk _ (onlyAt_setCells _ _ _ _) (blk_setCells _ _ _ _ hb))
  simp [execOp, he, hx, run_storeAt_mid w g k t vs ht hi h1, Result.andThen]
/-- One value. -/
theorem opC_store1 {P : Program} {t : TypeId} {s : Tmp} {x : Operand} {ty : TypeId} {pos : String} {af : Array Edge} {gd : Option (Nat × Bool)} {a : Act} {w : World} {K : Value → World → Prop} {g k : Nat} {bt : TypeId} {cs : Array Value} {v : Value}
    (he : a.eval (.tmp s) = .pointer (some ⟨g, k, none⟩)) (hx : a.eval x = v) (hb : Blk w g bt cs) (hs : k < cs.size) (hr : ∀ u, w.cell? ⟨g, k, none⟩ = some u → w.frozen? ⟨g, k, none⟩ = false → (Instr.storeAt t (.pointer (some ⟨g, k, none⟩)) v).run P w = .ok () (w.setCell ⟨g, k, none⟩ v))
    (hk : ∀ w', OnlyAt g w w' → Blk w' g bt (cs.setIfInBounds k v) → K undef w') : opC P ⟨none, .store t (.tmp s) x, ty, pos, af, gd⟩ a w K := by
  have hc := hb.cell k
  rw [Array.getElem?_eq_getElem hs] at hc
  refine opC_skip (w' := w.setCell ⟨g, k, none⟩ v) ?_ (hk _ (onlyAt_setCells g [v] k w) (hb.set_ k v))
  simp [execOp, he, hx, hr _ hc (hb.frozen k), Result.andThen]
def ordT (k a K : Int) (P R B M S F G s d ek m : Int) : Array Value := #[.int .u8 k, .int .u32 a, .int .u8 K, .int .i64 P, .int .u32 R, .int .u8 B, .int .i64 M, .int .i32 S, .int .i64 F, .int .i64 G, .int .u32 s, .int .i32 d, .int .u8 ek, .int .i64 m]
theorem ordT_loan (k a K : Int) (P R B M S F G s d ek m a' : Int) : (ordT k a K P R B M S F G s d ek m).setIfInBounds 1 (.int .u32 a') = ordT k a' K P R B M S F G s d ek m := by simp [ordT]
theorem ordT_terms (k a K : Int) (P R B M S F G s d ek m K' P' R' B' M' S' F' G' : Int) : putL (ordT k a K P R B M S F G s d ek m) 2 (#[Value.int .u8 K', .int .i64 P', .int .u32 R', .int .u8 B', .int .i64 M', .int .i32 S', .int .i64 F', .int .i64 G'] : Array Value).toList = ordT k a K' P' R' B' M' S' F' G' s d ek m := by simp [ordT, putL]
theorem ord_over {w : World} {r : Nat} {T : TypeId} {y0 y1 y2 y3 y4 y5 y6 y7 y8 y9 y10 y11 y12 y13 : Value} (h : Blk w r T #[y0, y1, y2, y3, y4, y5, y6, y7, y8, y9, y10, y11, y12, y13]) (v0 v1 v2 v3 v4 v5 v6 v7 v8 v9 v10 v11 v12 v13 : Value) : Blk ((((((((((((((w.setCell ⟨r, 0, none⟩ v0).setCell ⟨r, 1, none⟩ v1).setCell ⟨r, 2, none⟩ v2).setCell ⟨r, 3, none⟩ v3).setCell ⟨r, 4, none⟩ v4).setCell ⟨r, 5, none⟩ v5).setCell ⟨r, 6, none⟩ v6).setCell ⟨r, 7, none⟩ v7).setCell ⟨r, 8, none⟩ v8).setCell ⟨r, 9, none⟩ v9).setCell ⟨r, 10, none⟩ v10).setCell ⟨r, 11, none⟩ v11).setCell ⟨r, 12, none⟩ v12).setCell ⟨r, 13, none⟩ v13) r T #[v0, v1, v2, v3, v4, v5, v6, v7, v8, v9, v10, v11, v12, v13] := by
  have k := ((((((((((((((h.set_ 0 v0).set_ 1 v1).set_ 2 v2).set_ 3 v3).set_ 4 v4).set_ 5 v5).set_ 6 v6).set_ 7 v7).set_ 8 v8).set_ 9 v9).set_ 10 v10).set_ 11 v11).set_ 12 v12).set_ 13 v13)
  simp only [List.setIfInBounds_toArray, List.set_cons_zero, List.set_cons_succ] at k
  exact k
end Go.Proofs.YtjlajnackecfgaaGreatDoor
