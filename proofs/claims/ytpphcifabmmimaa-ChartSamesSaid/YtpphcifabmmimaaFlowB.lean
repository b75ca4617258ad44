/-
  A region that draws its order, with a store in its midst: two flows, one ahead of that store and one behind it, and an invariant beside them. No condition.
-/
import Derived.Test.YtpphcifabmmimaaFlow
namespace Go.Proofs.Ytpphcifabmmimaa
open Go Go.RowKit

section flowB
variable {P : Program}
/-- A step, with an invariant. -/
def stepJ (P : Program) (ops : Array Oper) (ds : List (Option Tmp)) (F : Nat → Flw) (J : Act → World → Prop) (a0 : Act) (w0 : World) (i : Nat) (o : Oper) : Prop :=
  ∀ a w, seesS ds F a0 a w (o.looksAt ops) → Below w0.heap.size w0 w → J a w → opC P o a w (fun v w' => (F i).p v w' ∧ Below w.heap.size w w' ∧ J (a.put o.dst v) w')
/-- Behind the store. -/
theorem wpAny_flow_lastJ {ops : Array Oper} {l : List Oper} {ol : Oper} (hops : ops = (l ++ [ol]).toArray) {F : Nat → Flw} {J : Act → World → Prop} {a0 : Act} {w0 : World} {Q : Exit → Act → World → Prop} (s d : Nat) (hk : FlowOk ops a0.tmps.size) (hc : coverB ops = true)
    (hs : ∀ (i : Nat) (o : Oper), l[i]? = some o → i ≠ s → i ≠ d → stepJ P ops (ops.toList.map (·.dst)) F J a0 w0 i o)
    (hg : ∀ (i : Nat) (o : Oper), ops[i]? = some o → o.guard = none)
    (hq : ∀ (f : Nat → Value) w, (∀ (i : Nat) (d : Tmp), (l.map (·.dst))[i]? = some (some d) → (F i).p (f i) w) → Below w0.heap.size w0 w → J (putF f (l.map (·.dst)) 0 a0) w →
      opC P ol (putF f (l.map (·.dst)) 0 a0) w (fun v w' => Q .normal ((putF f (l.map (·.dst)) 0 a0).put ol.dst v) w')) :
    ∀ (fuel : Nat) (listed : Array Bool) (a : Act) (w : World), leftF listed ≤ fuel → listed[l.length]? = some false → listed[s]? = some true → listed[d]? = some true → ClosedF ops listed → AtF ops F a0 listed a w → Below w0.heap.size w0 w → J a w → wpAny P .any ops Q fuel listed a w := by
  have hlast : ops[l.length]? = some ol := by rw [hops]; simp
  have hsz : ops.size = l.length + 1 := by rw [hops]; simp
  have hopl : ∀ (i : Nat) (x : Oper), ops[i]? = some x → i ≠ l.length → l[i]? = some x := fun i x hx hi => by
    have := size_of_some hx
    rw [hops, List.getElem?_toArray, List.getElem?_append_left (by omega)] at hx
    exact hx
  intro fuel
  induction fuel with
  | zero =>
    intro listed a w hl hn _ _ _
    exact absurd hn (left_none (by omega) _)
  | succ fuel ih =>
    intro listed a w hl hn hsl hdl hcl h hb hJ
    refine ⟨fun hr => ?_, fun i hi => ?_⟩
    · have := all_listed hk h.ls hr _ _ hlast
      rw [hn] at this
      cases this
    · obtain ⟨o, ho, h2, h3⟩ := ready_listed h.ls hi
      have hls := left_set h2
      have hw : Region.wanted o (yielded ops a.tmps) = true := by unfold Region.wanted; rw [hg i o ho]
      by_cases hil : i = l.length
      · subst hil
        obtain rfl : ol = o := by rw [hlast] at ho; injection ho
        have hall : ∀ i, i < l.length → listed[i]? = some true := fun i hi => last_all hc hcl (by rw [hsz]; exact hlast) h3 _ i rfl (by omega)
        obtain ⟨f, rfl, hf⟩ := h.rest hops hk hall h2
        unfold wpOp
        rw [ho]
        simp only
        rw [if_pos hw]
        refine .inl (wp_of_opC (hq f w hf hb hJ) fun v w' hv => ?_)
        have hr : Region.ready .any ops (listed.setIfInBounds l.length true) = [] := by
          rw [List.eq_nil_iff_forall_not_mem]
          intro i hi
          obtain ⟨o', ho', g2, _⟩ := ready_listed (by simp [h.ls]) hi
          by_cases hi2 : l.length = i
          · subst hi2
            rw [set_keeps_self (by rw [h.ls, hsz]; omega)] at g2
            cases g2
          · rw [Array.getElem?_setIfInBounds_ne hi2] at g2
            have := size_of_some ho'
            rw [hall i (by omega)] at g2
            cases g2
        cases fuel with
        | zero => exact ⟨hr, hv⟩
        | succ fuel => exact ⟨fun _ => hv, fun i hi => by rw [hr] at hi; cases hi⟩
      · have his : i ≠ s := fun e => by rw [e, hsl] at h2; cases h2
        have hid : i ≠ d := fun e => by rw [e, hdl] at h2; cases h2
        have hst := hs i o (hopl i o ho hil) his hid a w (sees_at hk h ho h3) hb hJ
        have hn' : (listed.setIfInBounds i true)[l.length]? = some false := by rw [Array.getElem?_setIfInBounds_ne hil]; exact hn
        unfold wpOp
        rw [ho]
        simp only
        rw [if_pos hw]
        refine .inl (wp_of_opC hst fun v w' hv => ?_)
        exact ih _ _ _ (by omega) hn' (set_keeps hsl) (set_keeps hdl) (hcl.put ho h3) (h.put hk ho hv.1 hv.2.1) (hb.trans (hv.2.1.mono hb.size)) hv.2.2
/-- Ahead of it. -/
theorem wpAny_flow_mid {ops : Array Oper} {l : List Oper} {ol os : Oper} (hops : ops = (l ++ [ol]).toArray) {F F' : Nat → Flw} {J : Act → World → Prop} {a0 : Act} {w0 : World} {Q : Exit → Act → World → Prop} (s d : Nat) (hso : l[s]? = some os) (hsd : os.dst = none) (had : ∃ e ∈ os.after, Region.binds .any e = true ∧ e.on = d) (hk : FlowOk ops a0.tmps.size) (hc : coverB ops = true)
    (hs : ∀ (i : Nat) (o : Oper), l[i]? = some o → i ≠ s → stepJ P ops (ops.toList.map (·.dst)) F J a0 w0 i o)
    (hs' : ∀ (i : Nat) (o : Oper), l[i]? = some o → i ≠ s → i ≠ d → stepJ P ops (ops.toList.map (·.dst)) F' J a0 w0 i o)
    (hst : ∀ a w, seesS (ops.toList.map (·.dst)) F a0 a w (os.looksAt ops) → Below w0.heap.size w0 w → J a w → opC P os a w (fun _ w' => Below w0.heap.size w0 w' ∧ J a w' ∧ ∀ (i : Nat) (o : Oper) (d : Tmp), l[i]? = some o → o.dst = some d → (F i).p (a.eval (.tmp d)) w → (F' i).p (a.eval (.tmp d)) w'))
    (hg : ∀ (i : Nat) (o : Oper), ops[i]? = some o → o.guard = none)
    (hq : ∀ (f : Nat → Value) w, (∀ (i : Nat) (d : Tmp), (l.map (·.dst))[i]? = some (some d) → (F' i).p (f i) w) → Below w0.heap.size w0 w → J (putF f (l.map (·.dst)) 0 a0) w →
      opC P ol (putF f (l.map (·.dst)) 0 a0) w (fun v w' => Q .normal ((putF f (l.map (·.dst)) 0 a0).put ol.dst v) w')) :
    ∀ (fuel : Nat) (listed : Array Bool) (a : Act) (w : World), leftF listed ≤ fuel → listed[l.length]? = some false → listed[s]? = some false → ClosedF ops listed → AtF ops F a0 listed a w → Below w0.heap.size w0 w → J a w → wpAny P .any ops Q fuel listed a w := by
  have hlast : ops[l.length]? = some ol := by rw [hops]; simp
  have hsz : ops.size = l.length + 1 := by rw [hops]; simp
  have hsl2 : s < l.length := (List.getElem?_eq_some_iff.1 hso).1
  have hopl : ∀ (i : Nat) (x : Oper), ops[i]? = some x → i ≠ l.length → l[i]? = some x := fun i x hx hi => by
    have := size_of_some hx
    rw [hops, List.getElem?_toArray, List.getElem?_append_left (by omega)] at hx
    exact hx
  intro fuel
  induction fuel with
  | zero =>
    intro listed a w hl hn _ _ _
    exact absurd hn (left_none (by omega) _)
  | succ fuel ih =>
    intro listed a w hl hn hsl hcl h hb hJ
    refine ⟨fun hr => ?_, fun i hi => ?_⟩
    · have := all_listed hk h.ls hr _ _ hlast
      rw [hn] at this
      cases this
    · obtain ⟨o, ho, h2, h3⟩ := ready_listed h.ls hi
      have hls := left_set h2
      have hw : Region.wanted o (yielded ops a.tmps) = true := by unfold Region.wanted; rw [hg i o ho]
      by_cases hil : i = l.length
      · exfalso
        subst hil
        obtain rfl : ol = o := by rw [hlast] at ho; injection ho
        have := last_all hc hcl (by rw [hsz]; exact hlast) h3 _ s rfl (by omega)
        rw [hsl] at this
        cases this
      · have hn' : (listed.setIfInBounds i true)[l.length]? = some false := by rw [Array.getElem?_setIfInBounds_ne hil]; exact hn
        unfold wpOp
        rw [ho]
        simp only
        rw [if_pos hw]
        by_cases his : i = s
        · subst his
          have hoo := hopl i o ho hil
          obtain rfl : os = o := by rw [hso] at hoo; injection hoo
          refine .inl (wp_of_opC (hst a w (sees_at hk h ho h3) hb hJ) fun v w' hv => ?_)
          obtain ⟨v1, v2, v3⟩ := hv
          rw [hsd]
          have hA : AtF ops F' a0 (listed.setIfInBounds i true) a w' := by
            refine ⟨by simp [h.ls], h.sz, h.df, fun d hd => h.old d fun j oj hj hdj => ?_, fun j oj d hj hd hlj => ?_, fun _ _ _ _ => trivial⟩
            · have hji : i ≠ j := fun e => by
                subst e
                rw [ho] at hj
                injection hj with hj
                rw [← hj, hsd] at hdj
                cases hdj
              have := hd j oj hj hdj
              rwa [Array.getElem?_setIfInBounds_ne hji] at this
            · have hji : i ≠ j := fun e => by
                subst e
                rw [ho] at hj
                injection hj with hj
                rw [← hj, hsd] at hd
                cases hd
              rw [Array.getElem?_setIfInBounds_ne hji] at hlj
              have hjl : j ≠ l.length := fun e => by rw [e, hn] at hlj; cases hlj
              exact v3 j oj d (hopl j oj hj hjl) hd (h.new j oj d hj hd hlj)
          exact wpAny_flow_lastJ hops i d hk hc hs' hg hq fuel _ _ _ (by omega) hn' (set_keeps_self (by rw [h.ls]; exact size_of_some ho)) (set_keeps (by obtain ⟨e, he, hbi, rfl⟩ := had; exact h3 e he hbi)) (hcl.put ho h3) hA v1 v2
        · have hst' := hs i o (hopl i o ho hil) his a w (sees_at hk h ho h3) hb hJ
          have hs9 : (listed.setIfInBounds i true)[s]? = some false := by rw [Array.getElem?_setIfInBounds_ne his]; exact hsl
          refine .inl (wp_of_opC hst' fun v w' hv => ?_)
          exact ih _ _ _ (by omega) hn' hs9 (hcl.put ho h3) (h.put hk ho hv.1 hv.2.1) (hb.trans (hv.2.1.mono hb.size)) hv.2.2
/-- THE LAW: a store in the midst, and one at the end. -/
theorem wp_region_flow_mid {id : Nat} {l : List Oper} {ol os : Oper} {ops : List Oper} {Q : Exit → Act → World → Prop} {a0 : Act} {w : World} (hops : ops = l ++ [ol]) (s d : Nat) (hso : l[s]? = some os) (hsd : os.dst = none) (had : (os.after.any fun e => Region.binds .any e && e.on == d) = true) (F F' : Nat → Flw) (J : Act → World → Prop) (hm : P.follows .mixedOrders = true)
    (hB : flowB ops.toArray a0.tmps.size = true) (hc : coverB ops.toArray = true) (hg : (ops.all fun o => o.guard.isNone) = true)
    (hs : ∀ (i : Nat) (o : Oper), l[i]? = some o → i ≠ s → stepJ P ops.toArray (ops.map (·.dst)) F J a0 w i o)
    (hs' : ∀ (i : Nat) (o : Oper), l[i]? = some o → i ≠ s → i ≠ d → stepJ P ops.toArray (ops.map (·.dst)) F' J a0 w i o)
    (hst : ∀ a w', seesS (ops.map (·.dst)) F a0 a w' (os.looksAt ops.toArray) → Below w.heap.size w w' → J a w' → opC P os a w' (fun _ w'' => Below w.heap.size w w'' ∧ J a w'' ∧ ∀ (i : Nat) (o : Oper) (d : Tmp), l[i]? = some o → o.dst = some d → (F i).p (a.eval (.tmp d)) w' → (F' i).p (a.eval (.tmp d)) w''))
    (hJ : J a0 w.drew)
    (hq : ∀ (f : Nat → Value) w', (∀ (i : Nat) (d : Tmp), (l.map (·.dst))[i]? = some (some d) → (F' i).p (f i) w') → Below w.heap.size w w' → J (putF f (l.map (·.dst)) 0 a0) w' →
      opC P ol (putF f (l.map (·.dst)) 0 a0) w' (fun v w'' => Q .normal ((putF f (l.map (·.dst)) 0 a0).put ol.dst v) w'')) : (Code.region id ops.toArray true).wp P Q a0 w := by
  subst hops
  have hgd : ∀ (i : Nat) (o : Oper), (l ++ [ol]).toArray[i]? = some o → o.guard = none := fun i o ho => by
    rw [List.getElem?_toArray] at ho
    have := List.all_eq_true.1 hg o (List.mem_of_getElem? ho)
    simpa using this
  refine wp_region_any hm (wpAny_flow_mid (l := l) (ol := ol) rfl (F := F) (F' := F') (J := J) (a0 := a0) (w0 := w) s d hso hsd (by
    rw [Array.any_eq_true] at had
    obtain ⟨j, hj, he⟩ := had
    simp only [Bool.and_eq_true, beq_iff_eq] at he
    exact ⟨_, Array.getElem_mem hj, he.1, he.2⟩) (flowOk hB) hc (by simpa using hs) (by simpa using hs') (by simpa using hst) hgd hq _ _ _ _ ?_ ?_ ?_ ?_ ?_ ?_ ?_)
  · exact left_new _
  · simp
  · rw [Array.getElem?_replicate, if_pos]
    have := (List.getElem?_eq_some_iff.1 hso).1
    simp
    omega
  · intro i o _ h
    rw [Array.getElem?_replicate] at h
    split at h <;> cases h
  · refine ⟨by simp, rfl, rfl, fun _ _ => rfl, fun i o d _ _ h => ?_, fun _ _ _ _ => trivial⟩
    rw [Array.getElem?_replicate] at h
    split at h <;> cases h
  · exact ⟨rfl, rfl, rfl, Nat.le_refl _, fun _ _ => rfl⟩
  · exact hJ
end flowB
end Go.Proofs.Ytpphcifabmmimaa
