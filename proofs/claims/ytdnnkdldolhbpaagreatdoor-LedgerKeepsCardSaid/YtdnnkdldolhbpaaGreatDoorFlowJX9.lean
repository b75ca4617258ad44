/-
Regions that draw their order, with calls that change what is there: what is known of the slots and of the world hangs on what has run. No condition.
-/
import Derived.Test.YtdnnkdldolhbpaaGreatDoorFlowIX9
namespace Go.Proofs.YtdnnkdldolhbpaaGreatDoor
open Go Go.RowKit

section
variable {P : Program} {R : Rel}
def stepFJ (P : Program) (ops : Array Oper) (ds : List (Option Tmp)) (F : Nat → FlwG R) (Iv : (Nat → Bool) → Act → World → Prop) (a0 : Act) (w0 : World) (i : Nat) (o : Oper) : Prop :=
  ∀ a w S, seesSG ds F a0 a w (o.looksAt ops) → R.r w0 w → S i = false → Iv S a w →
    if Region.wanted o (yielded ops a.tmps) then opC P o a w (fun v w' => (F i).p (resV o a v) w' ∧ R.r w w' ∧ Iv (putS S i) (a.put o.dst v) w') else (F i).p (resV o a undef) w ∧ Iv (putS S i) (a.put o.dst undef) w
def stepsFJ (P : Program) (ops : Array Oper) (ds : List (Option Tmp)) (F : Nat → FlwG R) (Iv : (Nat → Bool) → Act → World → Prop) (a0 : Act) (w0 : World) : Nat → List Oper → Prop
  | _, [] => True
  | i, o :: r => stepFJ P ops ds F Iv a0 w0 i o ∧ stepsFJ P ops ds F Iv a0 w0 (i + 1) r
theorem stepsF_atJ {ops : Array Oper} {ds : List (Option Tmp)} {F : Nat → FlwG R} {Iv : (Nat → Bool) → Act → World → Prop} {a0 : Act} {w0 : World} : ∀ {l : List Oper} {k : Nat}, stepsFJ P ops ds F Iv a0 w0 k l → ∀ (i : Nat) (o : Oper), l[i]? = some o → stepFJ P ops ds F Iv a0 w0 (k + i) o
  | [], _, _, i, o, h => by simp at h
  | x :: r, k, hs, i, o, h => by
    cases i with
    | zero => obtain rfl : x = o := by simpa using h
              exact hs.1
    | succ i =>
      have := stepsF_atJ hs.2 i o (by simpa using h)
      rwa [show k + (i + 1) = k + 1 + i by omega]
theorem wpAny_flowJ {ops : Array Oper} {F : Nat → FlwG R} {Iv : (Nat → Bool) → Act → World → Prop} {a0 : Act} {w0 : World} {Q : Exit → Act → World → Prop} (hk : FlowOk ops a0.tmps.size)
    (hs : ∀ (i : Nat) (o : Oper), ops[i]? = some o → stepFJ P ops (ops.toList.map (·.dst)) F Iv a0 w0 i o)
    (hq : ∀ (f : Nat → Value) w S, (∀ (i : Nat) (o : Oper) (d : Tmp), ops[i]? = some o → o.dst = some d → (F i).p (f i) w) → R.r w0 w → (∀ i, i < ops.size → S i = true) → Iv S (putF f (ops.toList.map (·.dst)) 0 a0) w → Q .normal (putF f (ops.toList.map (·.dst)) 0 a0) w) :
    ∀ (fuel : Nat) (listed : Array Bool) (a : Act) (w : World), leftF listed ≤ fuel → AtFG ops F a0 listed a w → R.r w0 w → Iv (lstS listed) a w → wpAny P .any ops Q fuel listed a w := by
  have fin : ∀ (listed : Array Bool) (a : Act) (w : World), AtFG ops F a0 listed a w → R.r w0 w → Iv (lstS listed) a w → Region.ready .any ops listed = [] → Q .normal a w := fun listed a w h hb hI hr => by
    obtain ⟨f, rfl, hf⟩ := h.all hk (all_listed hk h.ls hr)
    refine hq f w (lstS listed) hf hb (fun i hi => ?_) hI
    unfold lstS
    rw [all_listed hk h.ls hr i _ (Array.getElem?_eq_getElem hi)]
    rfl
  intro fuel
  induction fuel with
  | zero =>
    intro listed a w hl h hb hI
    have hr : Region.ready .any ops listed = [] := by
      rw [List.eq_nil_iff_forall_not_mem]
      intro i hi
      obtain ⟨o, _, h2, _⟩ := ready_listed h.ls hi
      exact left_none (by omega) i h2
    exact ⟨hr, fin _ _ _ h hb hI hr⟩
  | succ fuel ih =>
    intro listed a w hl h hb hI
    refine ⟨fin _ _ _ h hb hI, fun i hi => ?_⟩
    obtain ⟨o, ho, h2, h3⟩ := ready_listed h.ls hi
    have hst := hs i o ho a w (lstS listed) (sees_atG hk h ho h3) hb (by unfold lstS; rw [h2]; rfl) hI
    rw [← lst_put (by rw [h.ls]; exact size_of_some ho)] at hst
    have hls := left_set h2
    unfold wpOp
    rw [ho]
    simp only
    split
    · rename_i hw
      rw [if_pos hw] at hst
      refine .inl (wp_of_opC hst fun v w' hv => ?_)
      exact ih _ _ _ (by omega) (h.put hk ho h2 h3 hv.1 hv.2.1) (R.trans hb hv.2.1) hv.2.2
    · rename_i hw
      rw [if_neg hw] at hst
      exact ih _ _ _ (by omega) (h.put hk ho h2 h3 hst.1 (R.refl _)) hb hst.2
/-- THE LAW: each operation's share, wherever it comes up, and what it does to what hangs on what has run. -/
theorem wp_region_flowJ {id : Nat} {l : List Oper} {Q : Exit → Act → World → Prop} {a0 : Act} {w : World} (ds : List (Option Tmp)) (F : Nat → FlwG R) (Iv : (Nat → Bool) → Act → World → Prop) (hm : P.follows .mixedOrders = true)
    (hB : flowB l.toArray a0.tmps.size = true) (hd : l.map (·.dst) = ds) (hI : Iv (fun _ => false) a0 w.drew) (hs : stepsFJ P l.toArray ds F Iv a0 w 0 l)
    (hq : ∀ (f : Nat → Value) w' S, (∀ (i : Nat) (d : Tmp), ds[i]? = some (some d) → (F i).p (f i) w') → R.r w w' → (∀ i, i < l.length → S i = true) → Iv S (putF f ds 0 a0) w' → Q .normal (putF f ds 0 a0) w') : (Code.region id l.toArray true).wp P Q a0 w := by
  subst hd
  refine wp_region_any hm (wpAny_flowJ (F := F) (Iv := Iv) (a0 := a0) (w0 := w) (flowOk hB) (fun i o ho => ?_) (fun f w' S hf hb hS hI => ?_) _ _ _ _ ?_ ?_ ?_ ?_)
  · have := stepsF_atJ hs i o (by simpa using ho)
    rwa [Nat.zero_add] at this
  · refine hq f w' S (fun i d hi => ?_) hb (fun i hi => hS i (by simpa using hi)) hI
    rw [List.getElem?_map] at hi
    obtain ⟨o, h1, h2⟩ := Option.map_eq_some_iff.1 hi
    exact hf i o d (by simpa using h1) h2
  · exact left_new _
  · refine ⟨by simp, rfl, rfl, fun _ _ => rfl, fun i o d _ _ h => ?_, fun i o s _ _ h => ?_⟩
    · rw [Array.getElem?_replicate] at h
      split at h <;> cases h
    · rw [Array.getElem?_replicate] at h
      split at h <;> cases h
  · exact R.drew _
  · have e : lstS (Array.replicate l.toArray.size false) = fun _ => false := by
      funext j
      unfold lstS
      rw [Array.getElem?_replicate]
      split <;> rfl
    rw [e]
    exact hI
theorem step_freeJ {ops : Array Oper} {ds : List (Option Tmp)} {F : Nat → FlwG R} {Iv : (Nat → Bool) → Act → World → Prop} {a0 : Act} {w0 : World} {i : Nat} {o : Oper} (hg : o.guard = none)
    (h : ∀ a w S, seesSG ds F a0 a w (opndsF o) → R.r w0 w → S i = false → Iv S a w → opC P o a w (fun v w' => (F i).p (resV o a v) w' ∧ R.r w w' ∧ Iv (putS S i) (a.put o.dst v) w')) : stepFJ P ops ds F Iv a0 w0 i o := fun a w S hs hb hS hI => by
  have hw : Region.wanted o (yielded ops a.tmps) = true := by unfold Region.wanted; rw [hg]
  rw [if_pos hw]
  exact h a w S (seesS_appG hs).1 hb hS hI
end
end Go.Proofs.YtdnnkdldolhbpaaGreatDoor
