/-
A region that draws its order, op by op, under any relation of worlds that is kept (XFlow with another relation); stores too. No condition.
-/
import Derived.Test.YtdnnkdldolhbpaaGreatDoorFlowX9
namespace Go.Proofs.YtdnnkdldolhbpaaGreatDoor
open Go Go.RowKit

section flowG
variable {P : Program}
/-- How worlds may follow each other. -/
structure Rel where
  r : World → World → Prop
  refl : ∀ w, r w w
  drew : ∀ w : World, r w w.drew
  trans : ∀ {a b c : World}, r a b → r b c → r a c
variable {R : Rel}
/-- The slot that holds a store's address, or the map that is written. -/
def addrOf (o : Oper) : Option Tmp := match o.dst, o.op with | none, .store _ (.tmp s) _ => some s | none, .entryStore _ (.tmp s) _ _ => some s | none, .mapUpdate _ (.tmp s) _ _ => some s | _, _ => none
/-- What is kept of an operation: its value; of a store its address. -/
def resV (o : Oper) (a : Act) (v : Value) : Value := match addrOf o with | some s => a.eval (.tmp s) | none => v
theorem addr_dst {o : Oper} {s : Tmp} (h : addrOf o = some s) : o.dst = none := by
  unfold addrOf at h
  split at h <;> first | assumption | cases h
theorem addr_sees {ops : Array Oper} {o : Oper} {s : Tmp} (h : addrOf o = some s) : s ∈ o.looksAt ops := by
  obtain ⟨dst, op, ty, pos, af, g⟩ := o
  unfold addrOf at h
  split at h
  · rename_i s' _ h1 h2
    simp only at h2
    subst h2
    cases h
    simp [Oper.looksAt, Op.operands]
  · rename_i s' _ _ h1 h2
    simp only at h2
    subst h2
    cases h
    simp [Oper.looksAt, Op.operands]
  · rename_i s' _ _ h1 h2
    simp only at h2
    subst h2
    cases h
    simp [Oper.looksAt, Op.operands]
  · cases h
/-- What is known of a slot, in every later world too. -/
structure FlwG (R : Rel) where
  p : Value → World → Prop
  mono : ∀ {v : Value} {w w' : World}, p v w → R.r w w' → p v w'
def FlwG.is (v : Value) : FlwG R := ⟨fun u _ => u = v, fun h _ => h⟩
def FlwG.any : FlwG R := ⟨fun _ _ => True, fun _ _ => trivial⟩
/-- What an operation sees of a slot. -/
def seeSG (ds : List (Option Tmp)) (F : Nat → FlwG R) (a0 a : Act) (w : World) (d : Tmp) : Prop :=
  match wr d ds 0 with
  | some j => (F j).p (a.eval (.tmp d)) w
  | none => a.eval (.tmp d) = a0.eval (.tmp d)
def seesSG (ds : List (Option Tmp)) (F : Nat → FlwG R) (a0 a : Act) (w : World) : List Tmp → Prop
  | [] => True
  | d :: r => seeSG ds F a0 a w d ∧ seesSG ds F a0 a w r
theorem seesS_ofG {ds : List (Option Tmp)} {F : Nat → FlwG R} {a0 a : Act} {w : World} : ∀ {l : List Tmp}, (∀ d ∈ l, seeSG ds F a0 a w d) → seesSG ds F a0 a w l
  | [], _ => trivial
  | d :: r, h => ⟨h d (by simp), seesS_ofG fun e he => h e (by simp [he])⟩
/-- What is asked of operation i. -/
def stepFG (P : Program) (ops : Array Oper) (ds : List (Option Tmp)) (F : Nat → FlwG R) (a0 : Act) (w0 : World) (i : Nat) (o : Oper) : Prop :=
  ∀ a w, seesSG ds F a0 a w (o.looksAt ops) → R.r w0 w →
    if Region.wanted o (yielded ops a.tmps) then opC P o a w (fun v w' => (F i).p (resV o a v) w' ∧ R.r w w') else (F i).p (resV o a undef) w
def stepsFG (P : Program) (ops : Array Oper) (ds : List (Option Tmp)) (F : Nat → FlwG R) (a0 : Act) (w0 : World) : Nat → List Oper → Prop
  | _, [] => True
  | i, o :: r => stepFG P ops ds F a0 w0 i o ∧ stepsFG P ops ds F a0 w0 (i + 1) r
theorem stepsF_atG {ops : Array Oper} {ds : List (Option Tmp)} {F : Nat → FlwG R} {a0 : Act} {w0 : World} : ∀ {l : List Oper} {k : Nat}, stepsFG P ops ds F a0 w0 k l → ∀ (i : Nat) (o : Oper), l[i]? = some o → stepFG P ops ds F a0 w0 (k + i) o
  | [], _, _, i, o, h => by simp at h
  | x :: r, k, hs, i, o, h => by
    cases i with
    | zero => obtain rfl : x = o := by simpa using h
              exact hs.1
    | succ i => have := stepsF_atG hs.2 i o (by simpa using h)
                rwa [show k + 1 + i = k + (i + 1) by omega] at this
/-- Where the walk of a region stands. -/
structure AtFG (ops : Array Oper) (F : Nat → FlwG R) (a0 : Act) (listed : Array Bool) (a : Act) (w : World) : Prop where
  ls : listed.size = ops.size
  sz : a.tmps.size = a0.tmps.size
  df : a.defers = a0.defers
  old : ∀ d, (∀ (i : Nat) (o : Oper), ops[i]? = some o → o.dst = some d → listed[i]? = some false) → a.tmps[d]? = a0.tmps[d]?
  new : ∀ (i : Nat) (o : Oper) (d : Tmp), ops[i]? = some o → o.dst = some d → listed[i]? = some true → (F i).p (a.eval (.tmp d)) w
  non : ∀ (i : Nat) (o : Oper) (s : Tmp), ops[i]? = some o → addrOf o = some s → listed[i]? = some true → (F i).p (a.eval (.tmp s)) w ∧ ∀ (j : Nat) (oj : Oper), ops[j]? = some oj → oj.dst = some s → listed[j]? = some true
theorem AtFG.put {ops : Array Oper} {F : Nat → FlwG R} {a0 a : Act} {listed : Array Bool} {w w' : World} (hk : FlowOk ops a0.tmps.size) (h : AtFG ops F a0 listed a w) {i : Nat} {o : Oper} (ho : ops[i]? = some o)
    {v : Value} (hi0 : listed[i]? = some false) (hr : ∀ e ∈ o.after, Region.binds .any e = true → listed[e.on]? = some true) (hv : (F i).p (resV o a v) w') (hb : R.r w w') : AtFG ops F a0 (listed.setIfInBounds i true) (a.put o.dst v) w' := by
  have hi := size_of_some ho
  have hli : i < listed.size := by rw [h.ls]; exact hi
  refine ⟨by simp [h.ls], ?_, ?_, fun d hd => ?_, fun j oj d hj hd hl => ?_, fun j oj s hj hs hl => ?_⟩
  · cases e : o.dst <;> simp [Act.put, h.sz]
  · cases e : o.dst <;> simp [Act.put, h.df]
  · have hne : o.dst ≠ some d := fun e => by
      have := hd i o ho e
      rw [Array.getElem?_setIfInBounds_self_of_lt hli] at this
      cases this
    have : (a.put o.dst v).tmps[d]? = a.tmps[d]? := by
      cases e : o.dst with
      | none => rfl
      | some d' =>
        have : d' ≠ d := fun e' => hne (by rw [e, e'])
        simp [Act.put, Array.getElem?_setIfInBounds_ne this]
    rw [this]
    refine h.old d fun j oj hj hdj => ?_
    have hji : i ≠ j := fun e => hne (by subst e; rw [ho] at hj; injection hj with hj; rw [hj]; exact hdj)
    have := hd j oj hj hdj
    rwa [Array.getElem?_setIfInBounds_ne hji] at this
  · by_cases hji : i = j
    · subst hji
      obtain rfl : o = oj := by rw [ho] at hj; injection hj
      have hdz := hk.lt i o d ho hd
      have : (a.put o.dst v).eval (.tmp d) = v := by
        rw [hd]
        have hd2 : d < a.tmps.size := by rw [h.sz]; exact hdz
        simp [Act.put, Act.eval, Array.getD, hd2]
      rw [this]
      have e9 : resV o a v = v := by
        unfold resV
        cases e : addrOf o with
        | none => rfl
        | some s => rw [addr_dst e] at hd; cases hd
      rw [e9] at hv
      exact hv
    · have hl2 : listed[j]? = some true := by rwa [Array.getElem?_setIfInBounds_ne hji] at hl
      have h2 := h.new j oj d hj hd hl2
      have : (a.put o.dst v).eval (.tmp d) = a.eval (.tmp d) := by
        refine Act.eval_put fun d' hd' e => ?_
        injection e with e
        subst e
        exact hji (hk.one j i oj o d hj ho hd hd')
      rw [this]
      exact (F j).mono h2 hb
  · have hev : ∀ (hw : ∀ (k : Nat) (ok : Oper), ops[k]? = some ok → ok.dst = some s → listed[k]? = some true), (a.put o.dst v).eval (.tmp s) = a.eval (.tmp s) := fun hw => by
      refine Act.eval_put fun d' hd' e => ?_
      injection e with e
      subst e
      have := hw i o ho hd'
      rw [hi0] at this
      cases this
    by_cases hji : i = j
    · subst hji
      obtain rfl : o = oj := by rw [ho] at hj; injection hj
      have hw : ∀ (k : Nat) (ok : Oper), ops[k]? = some ok → ok.dst = some s → listed[k]? = some true := fun k ok hk1 hk2 => by
        obtain ⟨e, he, hbd, rfl⟩ := hk.edge i o s k ok ho (addr_sees hs) hk1 hk2
        exact hr e he hbd
      refine ⟨?_, fun k ok hk1 hk2 => set_keeps (hw k ok hk1 hk2)⟩
      rw [hev hw]
      unfold resV at hv
      rw [hs] at hv
      exact hv
    · have hl2 : listed[j]? = some true := by rwa [Array.getElem?_setIfInBounds_ne hji] at hl
      obtain ⟨h2, h3⟩ := h.non j oj s hj hs hl2
      refine ⟨?_, fun k ok hk1 hk2 => set_keeps (h3 k ok hk1 hk2)⟩
      rw [hev h3]
      exact (F j).mono h2 hb
theorem sees_atG {ops : Array Oper} {F : Nat → FlwG R} {a0 a : Act} {listed : Array Bool} {w : World} (hk : FlowOk ops a0.tmps.size) (h : AtFG ops F a0 listed a w) {i : Nat} {o : Oper} (ho : ops[i]? = some o)
    (hr : ∀ e ∈ o.after, Region.binds .any e = true → listed[e.on]? = some true) : seesSG (ops.toList.map (·.dst)) F a0 a w (o.looksAt ops) := by
  refine seesS_ofG fun d hd => ?_
  unfold seeSG
  split
  · rename_i j hj
    obtain ⟨-, hj⟩ := wr_some hj
    rw [Nat.sub_zero, List.getElem?_map, Array.getElem?_toList] at hj
    obtain ⟨oj, h1, h2⟩ := Option.map_eq_some_iff.1 hj
    obtain ⟨e, he, hb, rfl⟩ := hk.edge i o d j oj ho hd h1 h2
    exact h.new _ oj d h1 h2 (hr e he hb)
  · rename_i hn
    have := h.old d fun j oj hj hdj => by
      exfalso
      refine wr_none hn j ?_
      rw [List.getElem?_map, Array.getElem?_toList, hj]
      simp [hdj]
    simp only [Act.eval, Array.getD_eq_getD_getElem?, this]
theorem AtFG.all {ops : Array Oper} {F : Nat → FlwG R} {a0 a : Act} {listed : Array Bool} {w : World} (hk : FlowOk ops a0.tmps.size) (h : AtFG ops F a0 listed a w) (hl : ∀ (i : Nat) (o : Oper), ops[i]? = some o → listed[i]? = some true) :
    ∃ f : Nat → Value, a = putF f (ops.toList.map (·.dst)) 0 a0 ∧ ∀ (i : Nat) (o : Oper) (d : Tmp), ops[i]? = some o → o.dst = some d → (F i).p (f i) w := by
  refine ⟨fun i => match (ops[i]?).bind (·.dst) with | some d => a.eval (.tmp d) | none => undef, ?_, fun i o d ho hd => ?_⟩
  · obtain ⟨s1, s2⟩ := putF_size (fun i => match (ops[i]?).bind (·.dst) with | some d => a.eval (.tmp d) | none => undef) (ops.toList.map (·.dst)) 0 a0
    refine act_ext (by rw [s1, h.sz]) (by rw [s2, h.df]) fun d => ?_
    cases e : wr d (ops.toList.map (·.dst)) 0 with
    | none =>
      have hn := wr_none e
      rw [putF_old _ _ _ _ _ hn]
      refine h.old d fun j oj hj hdj => ?_
      exfalso
      refine hn j ?_
      rw [List.getElem?_map, Array.getElem?_toList, hj]
      simp [hdj]
    | some j =>
      obtain ⟨-, hj⟩ := wr_some e
      rw [Nat.sub_zero] at hj
      have hj' := hj
      rw [List.getElem?_map, Array.getElem?_toList] at hj
      obtain ⟨oj, h1, h2⟩ := Option.map_eq_some_iff.1 hj
      have hdz := hk.lt j oj d h1 h2
      rw [putF_new _ _ _ _ d j hdz hj' (fun i hi => by
        rw [List.getElem?_map, Array.getElem?_toList] at hi
        obtain ⟨oi, g1, g2⟩ := Option.map_eq_some_iff.1 hi
        exact hk.one j i oj oi d h1 g1 h2 g2)]
      have hd2 : d < a.tmps.size := by rw [h.sz]; exact hdz
      simp [h1, h2, Act.eval, Array.getD, hd2]
  · simp only [ho, Option.bind_some, hd]
    exact h.new i o d ho hd (hl i o ho)
theorem wpAny_flowG {ops : Array Oper} {F : Nat → FlwG R} {a0 : Act} {w0 : World} {Q : Exit → Act → World → Prop} (hk : FlowOk ops a0.tmps.size)
    (hs : ∀ (i : Nat) (o : Oper), ops[i]? = some o → stepFG P ops (ops.toList.map (·.dst)) F a0 w0 i o)
    (hq : ∀ (f : Nat → Value) w, (∀ (i : Nat) (o : Oper) (d : Tmp), ops[i]? = some o → o.dst = some d → (F i).p (f i) w) → (∀ (i : Nat) (o : Oper) (s : Tmp), ops[i]? = some o → addrOf o = some s → (F i).p ((putF f (ops.toList.map (·.dst)) 0 a0).eval (.tmp s)) w) → R.r w0 w → Q .normal (putF f (ops.toList.map (·.dst)) 0 a0) w) :
    ∀ (fuel : Nat) (listed : Array Bool) (a : Act) (w : World), leftF listed ≤ fuel → AtFG ops F a0 listed a w → R.r w0 w → wpAny P .any ops Q fuel listed a w := by
  have fin : ∀ (listed : Array Bool) (a : Act) (w : World), AtFG ops F a0 listed a w → R.r w0 w → Region.ready .any ops listed = [] → Q .normal a w := fun listed a w h hb hr => by
    have hn := h.non
    obtain ⟨f, rfl, hf⟩ := h.all hk (all_listed hk h.ls hr)
    exact hq f w hf (fun i o s ho hs => (hn i o s ho hs (all_listed hk h.ls hr i o ho)).1) hb
  intro fuel
  induction fuel with
  | zero =>
    intro listed a w hl h hb
    have hr : Region.ready .any ops listed = [] := by
      rw [List.eq_nil_iff_forall_not_mem]
      intro i hi
      obtain ⟨o, _, h2, _⟩ := ready_listed h.ls hi
      exact left_none (by omega) i h2
    exact ⟨hr, fin _ _ _ h hb hr⟩
  | succ fuel ih =>
    intro listed a w hl h hb
    refine ⟨fin _ _ _ h hb, fun i hi => ?_⟩
    obtain ⟨o, ho, h2, h3⟩ := ready_listed h.ls hi
    have hst := hs i o ho a w (sees_atG hk h ho h3) hb
    have hls := left_set h2
    unfold wpOp
    rw [ho]
    simp only
    split
    · rename_i hw
      rw [if_pos hw] at hst
      refine .inl (wp_of_opC hst fun v w' hv => ?_)
      exact ih _ _ _ (by omega) (h.put hk ho h2 h3 hv.1 hv.2) (R.trans hb hv.2)
    · rename_i hw
      rw [if_neg hw] at hst
      exact ih _ _ _ (by omega) (h.put hk ho h2 h3 hst (R.refl _)) hb
/-- THE LAW: each operation's share, wherever it comes up. -/
theorem wp_region_flowG {id : Nat} {l : List Oper} {Q : Exit → Act → World → Prop} {a0 : Act} {w : World} (ds : List (Option Tmp)) (F : Nat → FlwG R) (hm : P.follows .mixedOrders = true)
    (hB : flowB l.toArray a0.tmps.size = true) (hd : l.map (·.dst) = ds) (hs : stepsFG P l.toArray ds F a0 w 0 l)
    (hq : ∀ (f : Nat → Value) w', (∀ (i : Nat) (d : Tmp), ds[i]? = some (some d) → (F i).p (f i) w') → (∀ (i : Nat) (o : Oper) (s : Tmp), l[i]? = some o → addrOf o = some s → (F i).p ((putF f ds 0 a0).eval (.tmp s)) w') → R.r w w' → Q .normal (putF f ds 0 a0) w') : (Code.region id l.toArray true).wp P Q a0 w := by
  subst hd
  refine wp_region_any hm (wpAny_flowG (F := F) (a0 := a0) (w0 := w) (flowOk hB) (fun i o ho => ?_) (fun f w' hf hn hb => ?_) _ _ _ _ ?_ ?_ ?_)
  · have := stepsF_atG hs i o (by simpa using ho)
    rwa [Nat.zero_add] at this
  · refine hq f w' (fun i d hi => ?_) (fun i o s h1 h2 => hn i o s (by simpa using h1) h2) hb
    rw [List.getElem?_map] at hi
    obtain ⟨o, h1, h2⟩ := Option.map_eq_some_iff.1 hi
    exact hf i o d (by simpa using h1) h2
  · exact left_new _
  · refine ⟨by simp, rfl, rfl, fun _ _ => rfl, fun i o d _ _ h => ?_, fun i o s _ _ h => ?_⟩
    · rw [Array.getElem?_replicate] at h
      split at h <;> cases h
    · rw [Array.getElem?_replicate] at h
      split at h <;> cases h
  · exact R.drew _
theorem AtFG.rest {ops : Array Oper} {F : Nat → FlwG R} {a0 a : Act} {listed : Array Bool} {w : World} {o : Oper} {l : List Oper} (hops : ops = (l ++ [o]).toArray) (hk : FlowOk ops a0.tmps.size) (h : AtFG ops F a0 listed a w) (hl : ∀ i, i < l.length → listed[i]? = some true) (hn : listed[l.length]? = some false) :
    ∃ f : Nat → Value, a = putF f (l.map (·.dst)) 0 a0 ∧ ∀ (i : Nat) (d : Tmp), (l.map (·.dst))[i]? = some (some d) → (F i).p (f i) w := by
  have hol : ∀ (i : Nat) (x : Oper), l[i]? = some x → ops[i]? = some x := fun i x hx => by
    rw [hops, List.getElem?_toArray, List.getElem?_append_left (List.getElem?_eq_some_iff.1 hx).1]
    exact hx
  have hlast : ops[l.length]? = some o := by rw [hops]; simp
  have hmap : ∀ (i : Nat) (d : Tmp), (l.map (·.dst))[i]? = some (some d) → ∃ x, l[i]? = some x ∧ x.dst = some d := fun i d hi => by
    rw [List.getElem?_map] at hi
    exact Option.map_eq_some_iff.1 hi
  refine ⟨fun i => match (ops[i]?).bind (·.dst) with | some d => a.eval (.tmp d) | none => undef, ?_, fun i d hi => ?_⟩
  · obtain ⟨s1, s2⟩ := putF_size (fun i => match (ops[i]?).bind (·.dst) with | some d => a.eval (.tmp d) | none => undef) (l.map (·.dst)) 0 a0
    refine act_ext (by rw [s1, h.sz]) (by rw [s2, h.df]) fun d => ?_
    cases e : wr d (l.map (·.dst)) 0 with
    | none =>
      have hw := wr_none e
      rw [putF_old _ _ _ _ _ hw]
      refine h.old d fun j oj hj hdj => ?_
      have hjs := size_of_some hj
      rw [hops] at hjs
      simp at hjs
      by_cases hjl : j < l.length
      · exfalso
        refine hw j ?_
        rw [List.getElem?_map]
        have : l[j]? = some oj := by
          rw [hops, List.getElem?_toArray, List.getElem?_append_left hjl] at hj
          exact hj
        rw [this]
        simp [hdj]
      · obtain rfl : j = l.length := by omega
        exact hn
    | some j =>
      obtain ⟨-, hj⟩ := wr_some e
      rw [Nat.sub_zero] at hj
      obtain ⟨oj, h1, h2⟩ := hmap j d hj
      have h1' := hol j oj h1
      have hdz := hk.lt j oj d h1' h2
      rw [putF_new _ _ _ _ d j hdz hj (fun i hi => by
        obtain ⟨oi, g1, g2⟩ := hmap i d hi
        exact hk.one j i oj oi d h1' (hol i oi g1) h2 g2)]
      have hd2 : d < a.tmps.size := by rw [h.sz]; exact hdz
      simp [h1', h2, Act.eval, Array.getD, hd2]
  · obtain ⟨oi, g1, g2⟩ := hmap i d hi
    simp only [hol i oi g1, Option.bind_some, g2]
    exact h.new i oi d (hol i oi g1) g2 (hl i (List.getElem?_eq_some_iff.1 g1).1)
theorem wpAny_flow_lastG {ops : Array Oper} {l : List Oper} {ol : Oper} (hops : ops = (l ++ [ol]).toArray) {F : Nat → FlwG R} {a0 : Act} {w0 : World} {Q : Exit → Act → World → Prop} (hk : FlowOk ops a0.tmps.size) (hc : coverB ops = true)
    (hs : ∀ (i : Nat) (o : Oper), l[i]? = some o → stepFG P ops (ops.toList.map (·.dst)) F a0 w0 i o)
    (hg : ol.guard = none)
    (hq : ∀ (f : Nat → Value) w, (∀ (i : Nat) (d : Tmp), (l.map (·.dst))[i]? = some (some d) → (F i).p (f i) w) → (∀ (i : Nat) (o : Oper) (s : Tmp), l[i]? = some o → addrOf o = some s → (F i).p ((putF f (l.map (·.dst)) 0 a0).eval (.tmp s)) w) → R.r w0 w →
      opC P ol (putF f (l.map (·.dst)) 0 a0) w (fun v w' => Q .normal ((putF f (l.map (·.dst)) 0 a0).put ol.dst v) w')) :
    ∀ (fuel : Nat) (listed : Array Bool) (a : Act) (w : World), leftF listed ≤ fuel → listed[l.length]? = some false → ClosedF ops listed → AtFG ops F a0 listed a w → R.r w0 w → wpAny P .any ops Q fuel listed a w := by
  have hlast : ops[l.length]? = some ol := by rw [hops]; simp
  have hsz : ops.size = l.length + 1 := by rw [hops]; simp
  have hopl : ∀ (i : Nat) (x : Oper), ops[i]? = some x → i ≠ l.length → l[i]? = some x := fun i x hx hi => by
    have := size_of_some hx
    rw [hops, List.getElem?_toArray, List.getElem?_append_left (by omega)] at hx
    exact hx
  intro fuel
  induction fuel with
  | zero =>
    intro listed a w hl hn _ _ _
    exact absurd hn (left_none (by omega) _)
  | succ fuel ih =>
    intro listed a w hl hn hcl h hb
    refine ⟨fun hr => ?_, fun i hi => ?_⟩
    · have := all_listed hk h.ls hr _ _ hlast
      rw [hn] at this
      cases this
    · obtain ⟨o, ho, h2, h3⟩ := ready_listed h.ls hi
      have hls := left_set h2
      by_cases hil : i = l.length
      · subst hil
        obtain rfl : ol = o := by rw [hlast] at ho; injection ho
        have hall : ∀ i, i < l.length → listed[i]? = some true := fun i hi => last_all hc hcl (by rw [hsz]; exact hlast) h3 _ i rfl (by omega)
        have hn9 := h.non
        obtain ⟨f, rfl, hf⟩ := h.rest hops hk hall h2
        have hns : ∀ (i : Nat) (o : Oper) (s : Tmp), l[i]? = some o → addrOf o = some s → (F i).p ((putF f (l.map (·.dst)) 0 a0).eval (.tmp s)) w := fun i o s h1 h9 => by
          have hil := (List.getElem?_eq_some_iff.1 h1).1
          refine (hn9 i o s ?_ h9 (hall i hil)).1
          rw [hops, List.getElem?_toArray, List.getElem?_append_left hil]
          exact h1
        unfold wpOp
        rw [ho]
        simp only
        have hw : Region.wanted ol (yielded ops (putF f (l.map (·.dst)) 0 a0).tmps) = true := by unfold Region.wanted; rw [hg]
        rw [if_pos hw]
        refine .inl (wp_of_opC (hq f w hf hns hb) fun v w' hv => ?_)
        have hr : Region.ready .any ops (listed.setIfInBounds l.length true) = [] := by
          rw [List.eq_nil_iff_forall_not_mem]
          intro i hi
          obtain ⟨o', ho', g2, _⟩ := ready_listed (by simp [h.ls]) hi
          by_cases hi2 : l.length = i
          · subst hi2
            rw [set_keeps_self (by rw [h.ls, hsz]; omega)] at g2
            cases g2
          · rw [Array.getElem?_setIfInBounds_ne hi2] at g2
            have := size_of_some ho'
            rw [hall i (by omega)] at g2
            cases g2
        cases fuel with
        | zero => exact ⟨hr, hv⟩
        | succ fuel => exact ⟨fun _ => hv, fun i hi => by rw [hr] at hi; cases hi⟩
      · have hst := hs i o (hopl i o ho hil) a w (sees_atG hk h ho h3) hb
        have hn' : (listed.setIfInBounds i true)[l.length]? = some false := by rw [Array.getElem?_setIfInBounds_ne hil]; exact hn
        unfold wpOp
        rw [ho]
        simp only
        split
        · rename_i hw
          rw [if_pos hw] at hst
          refine .inl (wp_of_opC hst fun v w' hv => ?_)
          exact ih _ _ _ (by omega) hn' (hcl.put ho h3) (h.put hk ho h2 h3 hv.1 hv.2) (R.trans hb hv.2)
        · rename_i hw
          rw [if_neg hw] at hst
          exact ih _ _ _ (by omega) hn' (hcl.put ho h3) (h.put hk ho h2 h3 hst (R.refl _)) hb
/-- THE LAW, the last operation (a store, say) apart. -/
theorem wp_region_flow_lastG {id : Nat} {l : List Oper} {ol : Oper} {ops : List Oper} {Q : Exit → Act → World → Prop} {a0 : Act} {w : World} (hops : ops = l ++ [ol]) (ds : List (Option Tmp)) (F : Nat → FlwG R) (hm : P.follows .mixedOrders = true)
    (hB : flowB ops.toArray a0.tmps.size = true) (hc : coverB ops.toArray = true) (hd : ops.map (·.dst) = ds ++ [ol.dst]) (hg : ol.guard = none) (hs : stepsFG P ops.toArray (ds ++ [ol.dst]) F a0 w 0 l)
    (hq : ∀ (f : Nat → Value) w', (∀ (i : Nat) (d : Tmp), ds[i]? = some (some d) → (F i).p (f i) w') → (∀ (i : Nat) (o : Oper) (s : Tmp), l[i]? = some o → addrOf o = some s → (F i).p ((putF f ds 0 a0).eval (.tmp s)) w') → R.r w w' → opC P ol (putF f ds 0 a0) w' (fun v w'' => Q .normal ((putF f ds 0 a0).put ol.dst v) w'')) : (Code.region id ops.toArray true).wp P Q a0 w := by
  subst hops
  have hd' : l.map (·.dst) = ds := by
    rw [List.map_append] at hd
    exact List.append_cancel_right hd
  subst hd'
  refine wp_region_any hm (wpAny_flow_lastG (l := l) (ol := ol) rfl (F := F) (a0 := a0) (w0 := w) (flowOk hB) hc (fun i o ho => ?_) hg hq _ _ _ _ ?_ ?_ ?_ ?_ ?_)
  · have := stepsF_atG hs i o ho
    rw [Nat.zero_add] at this
    rw [List.map_append] at hd
    simpa using this
  · exact left_new _
  · simp
  · intro i o _ h
    rw [Array.getElem?_replicate] at h
    split at h <;> cases h
  · refine ⟨by simp, rfl, rfl, fun _ _ => rfl, fun i o d _ _ h => ?_, fun i o s _ _ h => ?_⟩
    · rw [Array.getElem?_replicate] at h
      split at h <;> cases h
    · rw [Array.getElem?_replicate] at h
      split at h <;> cases h
  · exact R.drew _
theorem seesS_appG {ds : List (Option Tmp)} {F : Nat → FlwG R} {a0 a : Act} {w : World} : ∀ {l m : List Tmp}, seesSG ds F a0 a w (l ++ m) → seesSG ds F a0 a w l ∧ seesSG ds F a0 a w m
  | [], _, h => ⟨trivial, h⟩
  | _ :: _, _, h => ⟨⟨h.1, (seesS_appG h.2).1⟩, (seesS_appG h.2).2⟩
/-- An operation without a guard. -/
theorem step_freeG {ops : Array Oper} {ds : List (Option Tmp)} {F : Nat → FlwG R} {a0 : Act} {w0 : World} {i : Nat} {o : Oper} (hg : o.guard = none)
    (h : ∀ a w, seesSG ds F a0 a w (opndsF o) → R.r w0 w → opC P o a w (fun v w' => (F i).p (resV o a v) w' ∧ R.r w w')) : stepFG P ops ds F a0 w0 i o := fun a w hs hb => by
  have hw : Region.wanted o (yielded ops a.tmps) = true := by unfold Region.wanted; rw [hg]
  rw [if_pos hw]
  exact h a w (seesS_appG hs).1 hb
/-- An operation whose guard says yes. -/
theorem step_yesG {ops : Array Oper} {ds : List (Option Tmp)} {F : Nat → FlwG R} {a0 : Act} {w0 : World} {i : Nat} {o : Oper} (j : Nat) (d : Tmp) {want : Bool} (hg : o.guard = some (j, want)) (hd : (ops[j]?).bind (·.dst) = some d)
    (hF : ∀ a w, seeSG ds F a0 a w d → a.eval (.tmp d) = .bool want)
    (h : ∀ a w, seesSG ds F a0 a w (opndsF o) → R.r w0 w → opC P o a w (fun v w' => (F i).p (resV o a v) w' ∧ R.r w w')) : stepFG P ops ds F a0 w0 i o := fun a w hs hb => by
  obtain ⟨h1, h2⟩ := seesS_appG hs
  simp only [hg, hd, Option.toList] at h2
  have hw : Region.wanted o (yielded ops a.tmps) = true := by
    unfold Region.wanted
    simp only [hg, yield_of hd (hF a w h2.1)]
    cases want <;> rfl
  rw [if_pos hw]
  exact h a w h1 hb
/-- An operation whose guard says no. -/
theorem step_noG {ops : Array Oper} {ds : List (Option Tmp)} {F : Nat → FlwG R} {a0 : Act} {w0 : World} {i : Nat} {o : Oper} (j : Nat) (d : Tmp) {want : Bool} (hg : o.guard = some (j, want)) (hd : (ops[j]?).bind (·.dst) = some d)
    (hF : ∀ a w, seeSG ds F a0 a w d → a.eval (.tmp d) = .bool (!want)) (h : ∀ a w, (F i).p (resV o a undef) w) : stepFG P ops ds F a0 w0 i o := fun a w hs hb => by
  obtain ⟨h1, h2⟩ := seesS_appG hs
  simp only [hg, hd, Option.toList] at h2
  have hw : ¬ Region.wanted o (yielded ops a.tmps) = true := by
    unfold Region.wanted
    simp only [hg, yield_of hd (hF a w h2.1)]
    cases want <;> decide
  rw [if_neg hw]
  exact h a w
end flowG
end Go.Proofs.YtdnnkdldolhbpaaGreatDoor
