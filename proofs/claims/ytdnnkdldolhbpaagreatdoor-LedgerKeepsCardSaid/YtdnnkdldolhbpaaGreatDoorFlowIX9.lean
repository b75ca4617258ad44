/-
Regions that draw their order, with calls that change what is there: what is known of the world hangs on what has run. No condition.
-/
import Derived.Test.YtdnnkdldolhbpaaGreatDoorFlowGX9
namespace Go.Proofs.YtdnnkdldolhbpaaGreatDoor
open Go Go.RowKit

section
variable {P : Program} {R : Rel}
def putS (S : Nat → Bool) (i : Nat) : Nat → Bool := fun j => if j = i then true else S j
def stepFI (P : Program) (ops : Array Oper) (ds : List (Option Tmp)) (F : Nat → FlwG R) (Iv : (Nat → Bool) → World → Prop) (a0 : Act) (w0 : World) (i : Nat) (o : Oper) : Prop :=
  ∀ a w S, seesSG ds F a0 a w (o.looksAt ops) → R.r w0 w → S i = false → Iv S w →
    if Region.wanted o (yielded ops a.tmps) then opC P o a w (fun v w' => (F i).p (resV o a v) w' ∧ R.r w w' ∧ Iv (putS S i) w') else (F i).p (resV o a undef) w ∧ Iv (putS S i) w
def stepsFI (P : Program) (ops : Array Oper) (ds : List (Option Tmp)) (F : Nat → FlwG R) (Iv : (Nat → Bool) → World → Prop) (a0 : Act) (w0 : World) : Nat → List Oper → Prop
  | _, [] => True
  | i, o :: r => stepFI P ops ds F Iv a0 w0 i o ∧ stepsFI P ops ds F Iv a0 w0 (i + 1) r
theorem stepsF_atI {ops : Array Oper} {ds : List (Option Tmp)} {F : Nat → FlwG R} {Iv : (Nat → Bool) → World → Prop} {a0 : Act} {w0 : World} : ∀ {l : List Oper} {k : Nat}, stepsFI P ops ds F Iv a0 w0 k l → ∀ (i : Nat) (o : Oper), l[i]? = some o → stepFI P ops ds F Iv a0 w0 (k + i) o
  | [], _, _, i, o, h => by simp at h
  | x :: r, k, hs, i, o, h => by
    cases i with
    | zero => obtain rfl : x = o := by simpa using h
              exact hs.1
    | succ i =>
      have := stepsF_atI hs.2 i o (by simpa using h)
      rwa [show k + (i + 1) = k + 1 + i by omega]
def lstS (listed : Array Bool) : Nat → Bool := fun i => listed[i]? == some true
theorem lst_put {listed : Array Bool} {i : Nat} (hi : i < listed.size) : lstS (listed.setIfInBounds i true) = putS (lstS listed) i := by
  funext j
  unfold lstS putS
  by_cases e : j = i
  · subst e
    rw [if_pos rfl, Array.getElem?_setIfInBounds_self_of_lt hi]
    rfl
  · rw [if_neg e, Array.getElem?_setIfInBounds_ne (fun hh => e hh.symm)]
theorem wpAny_flowI {ops : Array Oper} {F : Nat → FlwG R} {Iv : (Nat → Bool) → World → Prop} {a0 : Act} {w0 : World} {Q : Exit → Act → World → Prop} (hk : FlowOk ops a0.tmps.size)
    (hs : ∀ (i : Nat) (o : Oper), ops[i]? = some o → stepFI P ops (ops.toList.map (·.dst)) F Iv a0 w0 i o)
    (hq : ∀ (f : Nat → Value) w S, (∀ (i : Nat) (o : Oper) (d : Tmp), ops[i]? = some o → o.dst = some d → (F i).p (f i) w) → R.r w0 w → (∀ i, i < ops.size → S i = true) → Iv S w → Q .normal (putF f (ops.toList.map (·.dst)) 0 a0) w) :
    ∀ (fuel : Nat) (listed : Array Bool) (a : Act) (w : World), leftF listed ≤ fuel → AtFG ops F a0 listed a w → R.r w0 w → Iv (lstS listed) w → wpAny P .any ops Q fuel listed a w := by
  have fin : ∀ (listed : Array Bool) (a : Act) (w : World), AtFG ops F a0 listed a w → R.r w0 w → Iv (lstS listed) w → Region.ready .any ops listed = [] → Q .normal a w := fun listed a w h hb hI hr => by
    obtain ⟨f, rfl, hf⟩ := h.all hk (all_listed hk h.ls hr)
    refine hq f w (lstS listed) hf hb (fun i hi => ?_) hI
    unfold lstS
    rw [all_listed hk h.ls hr i _ (Array.getElem?_eq_getElem hi)]
    rfl
  intro fuel
  induction fuel with
  | zero =>
    intro listed a w hl h hb hI
    have hr : Region.ready .any ops listed = [] := by
      rw [List.eq_nil_iff_forall_not_mem]
      intro i hi
      obtain ⟨o, _, h2, _⟩ := ready_listed h.ls hi
      exact left_none (by omega) i h2
    exact ⟨hr, fin _ _ _ h hb hI hr⟩
  | succ fuel ih =>
    intro listed a w hl h hb hI
    refine ⟨fin _ _ _ h hb hI, fun i hi => ?_⟩
    obtain ⟨o, ho, h2, h3⟩ := ready_listed h.ls hi
    have hst := hs i o ho a w (lstS listed) (sees_atG hk h ho h3) hb (by unfold lstS; rw [h2]; rfl) hI
    rw [← lst_put (by rw [h.ls]; exact size_of_some ho)] at hst
    have hls := left_set h2
    unfold wpOp
    rw [ho]
    simp only
    split
    · rename_i hw
      rw [if_pos hw] at hst
      refine .inl (wp_of_opC hst fun v w' hv => ?_)
      exact ih _ _ _ (by omega) (h.put hk ho h2 h3 hv.1 hv.2.1) (R.trans hb hv.2.1) hv.2.2
    · rename_i hw
      rw [if_neg hw] at hst
      exact ih _ _ _ (by omega) (h.put hk ho h2 h3 hst.1 (R.refl _)) hb hst.2
/-- THE LAW: each operation's share, wherever it comes up, and what it does to what hangs on what has run. -/
theorem wp_region_flowI {id : Nat} {l : List Oper} {Q : Exit → Act → World → Prop} {a0 : Act} {w : World} (ds : List (Option Tmp)) (F : Nat → FlwG R) (Iv : (Nat → Bool) → World → Prop) (hm : P.follows .mixedOrders = true)
    (hB : flowB l.toArray a0.tmps.size = true) (hd : l.map (·.dst) = ds) (hI : Iv (fun _ => false) w.drew) (hs : stepsFI P l.toArray ds F Iv a0 w 0 l)
    (hq : ∀ (f : Nat → Value) w' S, (∀ (i : Nat) (d : Tmp), ds[i]? = some (some d) → (F i).p (f i) w') → R.r w w' → (∀ i, i < l.length → S i = true) → Iv S w' → Q .normal (putF f ds 0 a0) w') : (Code.region id l.toArray true).wp P Q a0 w := by
  subst hd
  refine wp_region_any hm (wpAny_flowI (F := F) (Iv := Iv) (a0 := a0) (w0 := w) (flowOk hB) (fun i o ho => ?_) (fun f w' S hf hb hS hI => ?_) _ _ _ _ ?_ ?_ ?_ ?_)
  · have := stepsF_atI hs i o (by simpa using ho)
    rwa [Nat.zero_add] at this
  · refine hq f w' S (fun i d hi => ?_) hb (fun i hi => hS i (by simpa using hi)) hI
    rw [List.getElem?_map] at hi
    obtain ⟨o, h1, h2⟩ := Option.map_eq_some_iff.1 hi
    exact hf i o d (by simpa using h1) h2
  · exact left_new _
  · refine ⟨by simp, rfl, rfl, fun _ _ => rfl, fun i o d _ _ h => ?_, fun i o s _ _ h => ?_⟩
    · rw [Array.getElem?_replicate] at h
      split at h <;> cases h
    · rw [Array.getElem?_replicate] at h
      split at h <;> cases h
  · exact R.drew _
  · have e : lstS (Array.replicate l.toArray.size false) = fun _ => false := by
      funext j
      unfold lstS
      rw [Array.getElem?_replicate]
      split <;> rfl
    rw [e]
    exact hI
theorem step_freeI {ops : Array Oper} {ds : List (Option Tmp)} {F : Nat → FlwG R} {Iv : (Nat → Bool) → World → Prop} {a0 : Act} {w0 : World} {i : Nat} {o : Oper} (hg : o.guard = none)
    (h : ∀ a w S, seesSG ds F a0 a w (opndsF o) → R.r w0 w → S i = false → Iv S w → opC P o a w (fun v w' => (F i).p (resV o a v) w' ∧ R.r w w' ∧ Iv (putS S i) w')) : stepFI P ops ds F Iv a0 w0 i o := fun a w S hs hb hS hI => by
  have hw : Region.wanted o (yielded ops a.tmps) = true := by unfold Region.wanted; rw [hg]
  rw [if_pos hw]
  exact h a w S (seesS_appG hs).1 hb hS hI
/-- Two things that are there till their operation has run, and two that are there from then on. -/
def two (i1 i2 : Nat) (A1 B1 A2 B2 : World → Prop) (S : Nat → Bool) (w : World) : Prop := (if S i1 = true then B1 w else A1 w) ∧ (if S i2 = true then B2 w else A2 w)
theorem two_other {i1 i2 : Nat} {A1 B1 A2 B2 : World → Prop} {S : Nat → Bool} {w w' : World} {i : Nat} (h : two i1 i2 A1 B1 A2 B2 S w) (h1 : i ≠ i1) (h2 : i ≠ i2) (hm : ∀ C ∈ [A1, B1, A2, B2], C w → C w') : two i1 i2 A1 B1 A2 B2 (putS S i) w' := by
  have e1 : putS S i i1 = S i1 := by unfold putS; rw [if_neg (fun e => h1 e.symm)]
  have e2 : putS S i i2 = S i2 := by unfold putS; rw [if_neg (fun e => h2 e.symm)]
  unfold two at h ⊢
  rw [e1, e2]
  refine ⟨?_, ?_⟩
  · split
    · rename_i e
      rw [if_pos e] at h
      exact hm B1 (by simp) h.1
    · rename_i e
      rw [if_neg e] at h
      exact hm A1 (by simp) h.1
  · split
    · rename_i e
      rw [if_pos e] at h
      exact hm B2 (by simp) h.2
    · rename_i e
      rw [if_neg e] at h
      exact hm A2 (by simp) h.2
theorem two_first {i1 i2 : Nat} {A1 B1 A2 B2 : World → Prop} {S : Nat → Bool} {w w' : World} (h : two i1 i2 A1 B1 A2 B2 S w) (hne : i1 ≠ i2) (hb : B1 w') (hm : ∀ C ∈ [A2, B2], C w → C w') : two i1 i2 A1 B1 A2 B2 (putS S i1) w' := by
  have e1 : putS S i1 i1 = true := by unfold putS; rw [if_pos rfl]
  have e2 : putS S i1 i2 = S i2 := by unfold putS; rw [if_neg (fun e => hne e.symm)]
  unfold two at h ⊢
  rw [e1, e2, if_pos rfl]
  refine ⟨hb, ?_⟩
  split
  · rename_i e
    rw [if_pos e] at h
    exact hm B2 (by simp) h.2
  · rename_i e
    rw [if_neg e] at h
    exact hm A2 (by simp) h.2
theorem two_second {i1 i2 : Nat} {A1 B1 A2 B2 : World → Prop} {S : Nat → Bool} {w w' : World} (h : two i1 i2 A1 B1 A2 B2 S w) (hne : i1 ≠ i2) (hb : B2 w') (hm : ∀ C ∈ [A1, B1], C w → C w') : two i1 i2 A1 B1 A2 B2 (putS S i2) w' := by
  have e1 : putS S i2 i1 = S i1 := by unfold putS; rw [if_neg hne]
  have e2 : putS S i2 i2 = true := by unfold putS; rw [if_pos rfl]
  unfold two at h ⊢
  rw [e1, e2, if_pos rfl]
  refine ⟨?_, hb⟩
  split
  · rename_i e
    rw [if_pos e] at h
    exact hm B1 (by simp) h.1
  · rename_i e
    rw [if_neg e] at h
    exact hm A1 (by simp) h.1
theorem two_before {i1 i2 : Nat} {A1 B1 A2 B2 : World → Prop} {S : Nat → Bool} {w : World} (h : two i1 i2 A1 B1 A2 B2 S w) : (S i1 = false → A1 w) ∧ (S i2 = false → A2 w) ∧ (S i1 = true → B1 w) ∧ (S i2 = true → B2 w) := by
  unfold two at h
  refine ⟨fun e => ?_, fun e => ?_, fun e => ?_, fun e => ?_⟩
  · have := h.1
    rw [e] at this
    simpa using this
  · have := h.2
    rw [e] at this
    simpa using this
  · have := h.1
    rwa [if_pos e] at this
  · have := h.2
    rwa [if_pos e] at this
end
end Go.Proofs.YtdnnkdldolhbpaaGreatDoor
