/-
A region that draws its order in a round of a range over a function: op by op, the last two operations apart. No condition.
-/
import Derived.OrdersIn
import Derived.RangeFuncCalls
import Derived.TacticsIn
import Derived.Test.YtbaenpgjggojaaaFlowZ9
namespace Go.Proofs.Ytbaenpgjggojaaa
open Go Go.RowKit

section
variable {P : Program}
def noDefer (o : Oper) : Bool := match o.op with | .defer _ => false | _ => true
theorem wpIn_of_opC {lr n : Nat} {o : Oper} {a : Act} {w : World} {K : Value → World → Prop} {K' : Act → World → Prop} {Q : Exit → Act → World → Prop} (hd : noDefer o = true) (h : opC P o a w K)
    (hk : ∀ v w', K v w' → K' (a.put o.dst v) w') : o.wpIn (Fence.wide.inRound lr) n P a w K' Q := by
  have hnd : ∀ c, o.op ≠ .defer c := by
    intro c e
    unfold noDefer at hd
    rw [e] at hd
    cases hd
  have h := h.out
  refine ⟨fun _ _ => trivial, ?_⟩
  have e : Oper.semAt (Fence.wide.inRound lr).round a.eval o = execOp a.eval o := Oper.semAt_some lr a.eval o hnd
  rw [e]
  generalize (execOp a.eval o).run P w = r at *
  cases r with
  | ok nx w' =>
    cases nx <;> simp only [comesC] at h <;> simp only [Oper.uponIn]
    case value u => exact hk _ _ h
    case skip => exact hk _ _ h
    case enter f args => exact ⟨fun e => by simp [Fence.wide, Fence.inRound] at e, (CallsIn.inRound lr (callsIn_wide.2 h)).mono fun e w'' ⟨v, he, hv⟩ => by subst he; exact hk _ _ hv⟩
  | halt x w' => simp only [comesC] at h
theorem AtF.rest2 {ops : Array Oper} {F : Nat → Flw} {a0 a : Act} {listed : Array Bool} {w : World} {l m : List Oper} (hops : ops = (l ++ m).toArray) (hk : FlowOk ops a0.tmps.size) (h : AtF ops F a0 listed a w) (hl : ∀ i, i < l.length → listed[i]? = some true) (hn : ∀ i, l.length ≤ i → i < ops.size → listed[i]? = some false) :
    ∃ f : Nat → Value, a = putF f (l.map (·.dst)) 0 a0 ∧ ∀ (i : Nat) (d : Tmp), (l.map (·.dst))[i]? = some (some d) → (F i).p (f i) w := by
  have hol : ∀ (i : Nat) (x : Oper), l[i]? = some x → ops[i]? = some x := fun i x hx => by
    rw [hops, List.getElem?_toArray, List.getElem?_append_left (List.getElem?_eq_some_iff.1 hx).1]
    exact hx
  have hmap : ∀ (i : Nat) (d : Tmp), (l.map (·.dst))[i]? = some (some d) → ∃ x, l[i]? = some x ∧ x.dst = some d := fun i d hi => by
    rw [List.getElem?_map] at hi
    exact Option.map_eq_some_iff.1 hi
  refine ⟨fun i => match (ops[i]?).bind (·.dst) with | some d => a.eval (.tmp d) | none => undef, ?_, fun i d hi => ?_⟩
  · obtain ⟨s1, s2⟩ := putF_size (fun i => match (ops[i]?).bind (·.dst) with | some d => a.eval (.tmp d) | none => undef) (l.map (·.dst)) 0 a0
    refine act_ext (by rw [s1, h.sz]) (by rw [s2, h.df]) fun d => ?_
    cases e : wr d (l.map (·.dst)) 0 with
    | none =>
      have hw := wr_none e
      rw [putF_old _ _ _ _ _ hw]
      refine h.old d fun j oj hj hdj => ?_
      have hjs := size_of_some hj
      by_cases hjl : j < l.length
      · exfalso
        refine hw j ?_
        rw [List.getElem?_map]
        have : l[j]? = some oj := by
          rw [hops, List.getElem?_toArray, List.getElem?_append_left hjl] at hj
          exact hj
        rw [this]
        simp [hdj]
      · exact hn j (by omega) hjs
    | some j =>
      obtain ⟨-, hj⟩ := wr_some e
      rw [Nat.sub_zero] at hj
      obtain ⟨oj, h1, h2⟩ := hmap j d hj
      have h1' := hol j oj h1
      have hdz := hk.lt j oj d h1' h2
      rw [putF_new _ _ _ _ d j hdz hj (fun i hi => by
        obtain ⟨oi, g1, g2⟩ := hmap i d hi
        exact hk.one j i oj oi d h1' (hol i oi g1) h2 g2)]
      have hd2 : d < a.tmps.size := by rw [h.sz]; exact hdz
      simp [h1', h2, Act.eval, Array.getD, hd2]
  · obtain ⟨oi, g1, g2⟩ := hmap i d hi
    simp only [hol i oi g1, Option.bind_some, g2]
    exact h.new i oi d (hol i oi g1) g2 (hl i (List.getElem?_eq_some_iff.1 g1).1)
theorem wpAnyIn_flow_two {lr n : Nat} {ops : Array Oper} {l : List Oper} {ol oz : Oper} (hops : ops = (l ++ [ol, oz]).toArray) {F : Nat → Flw} {a0 : Act} {w0 : World} {Q : Exit → Act → World → Prop} (hk : FlowOk ops a0.tmps.size) (hc : coverB (l ++ [ol]).toArray = true)
    (hz : ∃ e ∈ oz.after, Region.binds .any e = true ∧ e.on = l.length) (hnd : ∀ (i : Nat) (o : Oper), ops[i]? = some o → noDefer o = true)
    (hs : ∀ (i : Nat) (o : Oper), l[i]? = some o → stepF P ops (ops.toList.map (·.dst)) F a0 w0 i o)
    (hg : ol.guard = none) (hgz : oz.guard = none)
    (hq : ∀ (f : Nat → Value) w, (∀ (i : Nat) (d : Tmp), (l.map (·.dst))[i]? = some (some d) → (F i).p (f i) w) → Below w0.heap.size w0 w →
      opC P ol (putF f (l.map (·.dst)) 0 a0) w (fun v w' => opC P oz ((putF f (l.map (·.dst)) 0 a0).put ol.dst v) w' (fun v2 w2 => Q .normal (((putF f (l.map (·.dst)) 0 a0).put ol.dst v).put oz.dst v2) w2))) :
    ∀ (fuel : Nat) (listed : Array Bool) (a : Act) (w : World), leftF listed ≤ fuel → listed[l.length]? = some false → listed[l.length + 1]? = some false → ClosedF ops listed → AtF ops F a0 listed a w → Below w0.heap.size w0 w → wpAnyIn (Fence.wide.inRound lr) n P .any ops Q fuel listed a w := by
  have hlast : ops[l.length]? = some ol := by rw [hops]; simp
  have hlast2 : ops[l.length + 1]? = some oz := by rw [hops]; simp
  have hsz : ops.size = l.length + 2 := by rw [hops]; simp
  have hopl : ∀ (i : Nat) (x : Oper), ops[i]? = some x → i < l.length → l[i]? = some x := fun i x hx hi => by
    rw [hops, List.getElem?_toArray, List.getElem?_append_left (by omega)] at hx
    exact hx
  have htr : ∀ (i : Nat) (x : Oper), (l ++ [ol]).toArray[i]? = some x → ops[i]? = some x := fun i x hx => by
    have hi := (Array.getElem?_eq_some_iff.1 hx).1
    rw [List.getElem?_toArray] at hx
    rw [hops, List.getElem?_toArray, show l ++ [ol, oz] = (l ++ [ol]) ++ [oz] from by simp, List.getElem?_append_left (by simpa using hi)]
    exact hx
  intro fuel
  induction fuel with
  | zero =>
    intro listed a w hl hn _ _ _ _
    exact absurd hn (left_none (by omega) _)
  | succ fuel ih =>
    intro listed a w hl hn hn2 hcl h hb
    refine ⟨fun hr => ?_, fun i hi => ?_⟩
    · have := all_listed hk h.ls hr _ _ hlast
      rw [hn] at this
      cases this
    · obtain ⟨o, ho, h2, h3⟩ := ready_listed h.ls hi
      have hls := left_set h2
      have hio := size_of_some ho
      by_cases hil : i = l.length
      · subst hil
        obtain rfl : ol = o := by rw [hlast] at ho; injection ho
        have hcl2 : ClosedF (l ++ [ol]).toArray listed := fun i o hi hli e he hbd => hcl i o (htr i o hi) hli e he hbd
        have hall : ∀ i, i < l.length → listed[i]? = some true := fun i hi => last_all hc hcl2 (o := ol) (by simp) h3 _ i rfl (by simp; omega)
        obtain ⟨f, rfl, hf⟩ := h.rest2 hops hk hall (fun i h1 h2 => by
          by_cases e : i = l.length
          · rw [e]; exact hn
          · rw [show i = l.length + 1 from by omega]; exact hn2)
        unfold wpOpIn
        rw [ho]
        simp only
        have hw : Region.wanted ol (yielded ops (putF f (l.map (·.dst)) 0 a0).tmps) = true := by unfold Region.wanted; rw [hg]
        rw [if_pos hw]
        refine wpIn_of_opC (hnd _ _ ho) (hq f w hf hb) fun v w' hv => ?_
        have hn3 : (listed.setIfInBounds l.length true)[l.length + 1]? = some false := by rw [Array.getElem?_setIfInBounds_ne (by omega)]; exact hn2
        have hls3 := left_set hn3
        cases fuel with
        | zero => exact absurd hn3 (left_none (by omega) _)
        | succ fuel =>
          refine ⟨fun hr => ?_, fun i hi => ?_⟩
          · exfalso
            have hin : l.length + 1 ∈ Region.ready .any ops (listed.setIfInBounds l.length true) := by
              unfold Region.ready
              rw [List.mem_filter, List.mem_range]
              refine ⟨by omega, ?_⟩
              rw [hlast2]
              simp only [Bool.and_eq_true, Option.map_some, Option.getD_some]
              have hlt : l.length + 1 < (listed.setIfInBounds l.length true).size := by simp [h.ls]; omega
              refine ⟨by
                have e := (Array.getElem?_eq_some_iff.1 hn3).2
                have hlt9 : l.length + 1 < listed.size := by rw [h.ls]; omega
                simp only [Array.getD, hlt, dif_pos]
                exact (congrArg Bool.not e).trans rfl, ?_⟩
              rw [Array.all_eq_true]
              intro k hk'
              have hbk := hk.back _ _ hlast2 _ (Array.getElem_mem hk')
              have hz3 : (oz.after[k]).on < (listed.setIfInBounds l.length true).size := by simp [h.ls]; omega
              have ht : (listed.setIfInBounds l.length true)[(oz.after[k]).on]? = some true := by
                by_cases e : (oz.after[k]).on = l.length
                · rw [e]; exact set_keeps_self (by rw [h.ls]; omega)
                · exact set_keeps (hall _ (by omega))
              have e := (Array.getElem?_eq_some_iff.1 ht).2
              have hz9 : (oz.after[k]).on < listed.size := by rw [h.ls]; omega
              simp only [Array.getD, hz3, dif_pos]
              simp
              exact .inr e
            rw [hr] at hin
            cases hin
          · obtain ⟨o', ho', g2, _⟩ := ready_listed (by simp [h.ls]) hi
            have hio' := size_of_some ho'
            have hiz : i = l.length + 1 := by
              rcases Nat.lt_trichotomy i l.length with e | e | e
              · rw [set_keeps (hall i e)] at g2
                cases g2
              · subst e
                rw [set_keeps_self (by rw [h.ls]; omega)] at g2
                cases g2
              · omega
            subst hiz
            obtain rfl : oz = o' := by rw [hlast2] at ho'; injection ho'
            unfold wpOpIn
            rw [ho']
            simp only
            have hw2 : Region.wanted oz (yielded ops (((putF f (l.map (·.dst)) 0 a0).put ol.dst v).tmps)) = true := by unfold Region.wanted; rw [hgz]
            rw [if_pos hw2]
            refine wpIn_of_opC (hnd _ _ ho') hv fun v2 w2 hv2 => ?_
            have hr : Region.ready .any ops ((listed.setIfInBounds l.length true).setIfInBounds (l.length + 1) true) = [] := by
              rw [List.eq_nil_iff_forall_not_mem]
              intro i hi
              obtain ⟨o3, ho3, g3, _⟩ := ready_listed (by simp [h.ls]) hi
              have hi3 := size_of_some ho3
              rcases Nat.lt_trichotomy i l.length with e | e | e
              · rw [set_keeps (set_keeps (hall i e))] at g3
                cases g3
              · subst e
                rw [set_keeps (set_keeps_self (by rw [h.ls]; omega))] at g3
                cases g3
              · obtain rfl : i = l.length + 1 := by omega
                rw [set_keeps_self (by simp [h.ls]; omega)] at g3
                cases g3
            cases fuel with
            | zero => exact ⟨hr, hv2⟩
            | succ fuel => exact ⟨fun _ => hv2, fun i hi => by rw [hr] at hi; cases hi⟩
      · by_cases hil2 : i = l.length + 1
        · exfalso
          subst hil2
          obtain rfl : oz = o := by rw [hlast2] at ho; injection ho
          obtain ⟨e, he, hbd, hon⟩ := hz
          have := h3 e he hbd
          rw [hon, hn] at this
          cases this
        · have hst := hs i o (hopl i o ho (by omega)) a w (sees_at hk h ho h3) hb
          have hn' : (listed.setIfInBounds i true)[l.length]? = some false := by rw [Array.getElem?_setIfInBounds_ne hil]; exact hn
          have hn2' : (listed.setIfInBounds i true)[l.length + 1]? = some false := by rw [Array.getElem?_setIfInBounds_ne hil2]; exact hn2
          unfold wpOpIn
          rw [ho]
          simp only
          split
          · rename_i hw
            rw [if_pos hw] at hst
            refine wpIn_of_opC (hnd _ _ ho) hst fun v w' hv => ?_
            exact ih _ _ _ (by omega) hn' hn2' (hcl.put ho h3) (h.put hk ho hv.1 hv.2) (hb.trans (hv.2.mono hb.size))
          · rename_i hw
            rw [if_neg hw] at hst
            exact ⟨fun _ _ => trivial, ih _ _ _ (by omega) hn' hn2' (hcl.put ho h3) (h.put hk ho hst (Below.refl _ _)) hb⟩
/-- THE LAW in a round, the last two operations apart. -/
theorem wpIn_region_flow_two {lr n id : Nat} {l : List Oper} {ol oz : Oper} {ops : List Oper} {Q : Exit → Act → World → Prop} {a0 : Act} {w : World} (hops : ops = l ++ [ol, oz]) (ds : List (Option Tmp)) (F : Nat → Flw) (hm : P.follows .mixedOrders = true)
    (hB : flowB ops.toArray a0.tmps.size = true) (hc : coverB (l ++ [ol]).toArray = true) (hz : (oz.after.any fun e => Region.binds .any e && e.on == l.length) = true) (hnd : (ops.all noDefer) = true) (hd : ops.map (·.dst) = ds ++ [ol.dst, oz.dst]) (hg : ol.guard = none) (hgz : oz.guard = none)
    (hs : stepsF P ops.toArray (ds ++ [ol.dst, oz.dst]) F a0 w 0 l)
    (hq : ∀ (f : Nat → Value) w', (∀ (i : Nat) (d : Tmp), ds[i]? = some (some d) → (F i).p (f i) w') → Below w.heap.size w w' →
      opC P ol (putF f ds 0 a0) w' (fun v w1 => opC P oz ((putF f ds 0 a0).put ol.dst v) w1 (fun v2 w2 => Q .normal (((putF f ds 0 a0).put ol.dst v).put oz.dst v2) w2))) : (Code.region id ops.toArray true).wpIn (Fence.wide.inRound lr) n P Q a0 w := by
  subst hops
  have hd' : l.map (·.dst) = ds := by
    rw [List.map_append] at hd
    exact List.append_cancel_right hd
  subst hd'
  refine wpIn_region_any hm (wpAnyIn_flow_two (l := l) (ol := ol) (oz := oz) rfl (F := F) (a0 := a0) (w0 := w) (flowOk hB) hc (by
    rw [Array.any_eq_true] at hz
    obtain ⟨j, hj, he⟩ := hz
    simp only [Bool.and_eq_true, beq_iff_eq] at he
    exact ⟨_, Array.getElem_mem hj, he.1, he.2⟩) (fun i o ho => by
    rw [List.getElem?_toArray] at ho
    exact List.all_eq_true.1 hnd o (List.mem_of_getElem? ho)) (fun i o ho => ?_) hg hgz hq _ _ _ _ ?_ ?_ ?_ ?_ ?_ ?_)
  · have := stepsF_at hs i o ho
    rw [Nat.zero_add] at this
    rw [List.map_append] at hd
    simpa using this
  · exact left_new _
  · simp
  · simp
  · intro i o _ h
    rw [Array.getElem?_replicate] at h
    split at h <;> cases h
  · refine ⟨by simp, rfl, rfl, fun _ _ => rfl, fun i o d _ _ h => ?_, fun _ _ _ _ => trivial⟩
    rw [Array.getElem?_replicate] at h
    split at h <;> cases h
  · exact ⟨rfl, rfl, rfl, Nat.le_refl _, fun _ _ => rfl⟩
end
end Go.Proofs.Ytbaenpgjggojaaa
