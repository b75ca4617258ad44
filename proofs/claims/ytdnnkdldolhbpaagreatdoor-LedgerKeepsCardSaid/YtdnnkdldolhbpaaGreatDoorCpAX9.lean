/-
Maps as functions of their keys, gone through by range; a nil map too. Conditions: a bundle on the key's type.
maps.Copy of a map of sums into an empty one. Conditions: both are there, and aren't one.
-/
import Derived.Test.YtdnnkdldolhbpaaGreatDoorLedCX9
import Derived.Test.YtdnnkdldolhbpaaGreatDoorLedEX9
namespace Go.Proofs.YtdnnkdldolhbpaaGreatDoor
open Go.RowKit Go.Maps Go.MapKept Go.ChangeMaps
variable {κ : Type}
/-- A map's value, nil or not, is the map f. -/
def MapO (w : World) (In : κ → Prop) (enc : κ → Value) (m : Option Nat) (f : κ → Option Value) : Prop :=
  match m with
  | none => ∀ x, f x = none
  | some b => MapF w In enc b f
/-- Block r is an iterator over the map m; left: whose entries are still to come; cnt: how many. -/
def MapR (w : World) (In : κ → Prop) (enc : κ → Value) (m : Option Nat) (r : Nat) (f : κ → Option Value) (left : κ → Prop) (cnt : Nat) : Prop :=
  match m with
  | none => w.heap[r]? = some (.mapIter none 0 #[] 0) ∧ cnt = 0 ∧ ∀ x, ¬ left x
  | some b => ∃ es clock since seen c0, w.heap[b]? = some (.map es clock) ∧ FitF In enc f es clock ∧ w.heap[r]? = some (.mapIter (some b) since seen c0) ∧ (∀ e ∈ es.toList, e.born < since) ∧ (leftOf es seen).size = cnt ∧
      (∀ x, left x ↔ ∃ e ∈ es.toList, e.key = enc x ∧ seen.contains e.born = false) ∧ since ≤ c0 ∧ since ≤ clock
/-- How many are still to come, read off the world. -/
def mapLeft (w : World) (m : Option Nat) (r : Nat) : Nat :=
  match m with
  | none => 0
  | some b => w.rangeLeft b r
variable {P : Program} {k t e : TypeId} {In : κ → Prop} {enc : κ → Value} {w w' : World} {m : Option Nat} {r : Nat} {f : κ → Option Value} {left : κ → Prop} {cnt : Nat}
theorem MapO.lt (h : MapO w In enc m f) {b : Nat} (hb : m = some b) : b < w.heap.size := by
  subst hb
  exact MapF.lt h
theorem MapO.keep (h : MapO w In enc m f) (hk : ∀ b, m = some b → w'.heap[b]? = w.heap[b]?) : MapO w' In enc m f := by
  cases m with
  | none => exact h
  | some b => exact MapF.keep h (hk b rfl)
theorem MapR.left_eq (h : MapR w In enc m r f left cnt) : mapLeft w m r = cnt := by
  cases m with
  | none => exact h.2.1.symm
  | some b =>
    obtain ⟨es, clock, since, seen, c0, hb, _, hr, _, hc, _⟩ := h
    simp only [mapLeft, World.rangeLeft, hb, hr]
    exact hc
theorem MapR.lt (h : MapR w In enc m r f left cnt) : r < w.heap.size := by
  cases m with
  | none => exact (Array.getElem?_eq_some_iff.1 h.1).1
  | some b =>
    obtain ⟨es, clock, since, seen, c0, hb, _, hr, _⟩ := h
    exact (Array.getElem?_eq_some_iff.1 hr).1
theorem MapR.keep (h : MapR w In enc m r f left cnt) (hk : ∀ b, m = some b → w'.heap[b]? = w.heap[b]?) (hr : w'.heap[r]? = w.heap[r]?) : MapR w' In enc m r f left cnt := by
  cases m with
  | none => exact ⟨hr.trans h.1, h.2⟩
  | some b =>
    obtain ⟨es, clock, since, seen, c0, hb, F, hr', rest⟩ := h
    exact ⟨es, clock, since, seen, c0, (hk b rfl).trans hb, F, hr.trans hr', rest⟩
theorem MapR.sub (h : MapR w In enc m r f left cnt) (K : KeyE P k In enc) : ∀ x, left x → ∃ v, f x = some v := fun x hx => by
  cases m with
  | none => exact absurd hx (h.2.2 x)
  | some b =>
    obtain ⟨es, clock, since, seen, c0, hb, F, hr', _, _, hl, _⟩ := h
    obtain ⟨e, he, hk, _⟩ := (hl x).1 hx
    obtain ⟨y, _, hy, hv⟩ := F.1 e he
    obtain rfl := K.inj _ _ (hk.symm.trans hy)
    exact ⟨_, hv⟩
variable {ops : Array Oper} {rest : List Oper} {o : Oper} {a : Act} {Q : Exit → Act → World → Prop}
theorem wpList_rangeF (hg : o.guard = none) (mo : Operand) (hop : o.op = Op.range t mo) (K : KeyE P k In enc) (ht : P.underlying t = some (.map k e)) (hm : a.eval mo = .map m) (h : MapO w In enc m f)
    (hK : ∀ w' cnt, MapR w' In enc m w.heap.size f (fun x => ∃ v, f x = some v) cnt → w.grownBy w' none → w'.heap.size = w.heap.size + 1 → wpList P ops Q rest (a.put o.dst (.pointer (some ⟨w.heap.size, 0, none⟩))) w') :
    wpList P ops Q (o :: rest) a w := by
  refine wpList_plain hg fun K' hK' => ?_
  unfold Oper.wp
  cases m with
  | none =>
    simp [execOp, hop, hm, run_range_nilMap w t k e ht, Result.andThen]
    refine hK' _ _ (hK _ 0 ⟨(MapKept.heap_alloc w _).1, rfl, fun x ⟨v, hv⟩ => ?_⟩ (World.grownBy_alloc w _ none) (by simp))
    rw [h x] at hv
    cases hv
  | some b =>
    have hlt := MapF.lt h
    obtain ⟨es, clock, hb, F⟩ := h
    simp [execOp, hop, hm, run_range_map w t k e b es clock ht hb, Result.andThen]
    refine hK' _ _ (hK _ es.size ⟨es, clock, clock, #[], clock, ((MapKept.heap_alloc w _).2 b hlt).trans hb, F, (MapKept.heap_alloc w _).1, F.2.2.1, by simp [leftOf], fun x => ⟨fun ⟨v, hv⟩ => ?_, fun ⟨e, he, hk, _⟩ => ?_⟩, Nat.le_refl _, Nat.le_refl _⟩ (World.grownBy_alloc w _ none) (by simp))
    · obtain ⟨e, he, hk, _⟩ := F.2.1 x v hv
      exact ⟨e, he, hk, by simp⟩
    · obtain ⟨y, _, hy, hv⟩ := F.1 e he
      obtain rfl := K.inj _ _ (hk.symm.trans hy)
      exact ⟨_, hv⟩
theorem wpList_nextF (hg : o.guard = none) (it : Operand) (hop : o.op = Op.next it false) (K : KeyE P k In enc) (hit : a.eval it = .pointer (some ⟨r, 0, none⟩)) (h : MapR w In enc m r f left cnt)
    (hDone : cnt = 0 → (∀ x, ¬ left x) → wpList P ops Q rest (a.put o.dst (.tuple #[.bool false])) w)
    (hMore : ∀ (x : κ) (v : Value) (w' : World) (cnt' : Nat), In x → left x → f x = some v → MapR w' In enc m r f (fun y => left y ∧ y ≠ x) cnt' → cnt' < cnt → w.grownBy w' (some r) → w'.heap.size = w.heap.size →
      (Instr.entry (.pointer (some ⟨r, 0, none⟩))).run P w' = .ok (.tuple #[enc x, v]) w' → wpList P ops Q rest (a.put o.dst (.tuple #[.bool true, enc x, v])) w') :
    wpList P ops Q (o :: rest) a w := by
  refine wpList_plain hg fun K' hK' => ?_
  unfold Oper.wp
  cases m with
  | none =>
    have hrun : (Instr.next (.pointer (some ⟨r, 0, none⟩)) false o.type).run P w = .ok (.tuple #[.bool false]) w := by
      simp only [Instr.next, getObj, Sem.run_bind, Sem.run, h.1, Result.andThen]
      rfl
    simp [execOp, hop, hit, hrun, Result.andThen]
    exact hK' _ _ (hDone h.2.1 h.2.2)
  | some b =>
    obtain ⟨es, clock, since, seen, c0, hb, F, hr, hold, hc, hl, hsc, hsk⟩ := h
    have hne : r ≠ b := fun e => by
      rw [e, hb] at hr
      cases hr
    have hst := (stamped_iff es clock).1 F.2.2
    rcases run_next_at (P := P) w o.type r b since c0 seen es clock hr hb hold hsc with ⟨h0, hrun⟩ | ⟨e, he, w1, hal, hrun⟩
    · simp [execOp, hop, hit, hrun, Result.andThen]
      refine hK' _ _ (hDone (hc.symm.trans h0) fun x hx => ?_)
      obtain ⟨e, he, _, hs⟩ := (hl x).1 hx
      rw [all_seen es seen h0 e he] at hs
      cases hs
    · simp [execOp, hop, hit, hrun, Result.andThen]
      obtain ⟨hem, hes⟩ := mem_left he
      obtain ⟨x, hx, hk, hv⟩ := F.1 e hem
      have hr1 : w1.heap[r]? = some (.mapIter (some b) since seen c0) := by rcases hal with rfl | rfl <;> exact hr
      have hb1 : w1.heap[b]? = some (.map es clock) := by rcases hal with rfl | rfl <;> exact hb
      have hset := heap_set (o' := .mapIter (some b) since (seen.push e.born) clock) hr1
      have hb' : (setBlock w1 r (.mapIter (some b) since (seen.push e.born) clock)).heap[b]? = some (.map es clock) := (hset.2 b (fun e1 => hne e1.symm)).trans hb1
      rw [hk]
      refine hK' _ _ (hMore x e.val _ (leftOf es (seen.push e.born)).size hx ((hl x).2 ⟨e, hem, hk, hes⟩) hv ⟨es, clock, since, seen.push e.born, clock, hb', F, hset.1, hold, rfl, fun y => ?_, hsk, hsk⟩ (by rw [← hc]; exact left_shrinks es seen e he) ?_ ?_ ?_)
      · constructor
        · rintro ⟨h1, h2⟩
          obtain ⟨e2, he2, hk2, hs2⟩ := (hl y).1 h1
          refine ⟨e2, he2, hk2, ?_⟩
          rw [contains_push, hs2, Bool.false_or]
          simp only [beq_eq_false_iff_ne, ne_eq]
          intro hbn
          have := born_inj hst.2.1 he2 hem hbn
          subst this
          exact h2 (K.inj _ _ (hk2.symm.trans hk))
        · rintro ⟨e2, he2, hk2, hs2⟩
          rw [contains_push, Bool.or_eq_false_iff] at hs2
          refine ⟨(hl y).2 ⟨e2, he2, hk2, hs2.1⟩, ?_⟩
          rintro rfl
          have := entry_eq_of_key hst.2.2 he2 hem (hk2.trans hk.symm)
          subst this
          simp at hs2
      · rcases hal with rfl | rfl <;> exact ⟨rfl, rfl, rfl, by simp [setBlock], fun i _ hi => hset.2 i (fun e1 => hi (by rw [e1]))⟩
      · rcases hal with rfl | rfl <;> simp [setBlock]
      · rw [← hk]
        exact run_entry_at _ r b since seen es clock e hset.1 hb' hem hst.2.1
end Go.Proofs.YtdnnkdldolhbpaaGreatDoor
namespace Go.Proofs.YtdnnkdldolhbpaaGreatDoor
open Go.ChangeShapes Go.WideShapes Go.ChangeAt Go.RowKit Go.Maps Go.MapKept

def CopyPost (bd : Nat) (f : Nat → Option Value) (w : World) (e : Ending) (w' : World) : Prop := e = .returned (.tuple #[]) ∧ MapF w' u32In u32E bd f ∧ w.grownBy w' (some bd)
/-- What has come so far. -/
noncomputable def come (f : Nat → Option Value) (left : Nat → Prop) : Nat → Option Value := fun a => by
  classical exact if left a then none else f a
theorem come_all (f : Nat → Option Value) (left : Nat → Prop) (h : ∀ x, ¬ left x) : come f left = f := by
  classical
  funext a
  simp [come, h a]
theorem come_none (f : Nat → Option Value) : come f (fun x => ∃ v, f x = some v) = fun _ => none := by
  classical
  funext a
  simp only [come]
  split
  · rfl
  · rename_i h
    cases e : f a with
    | none => rfl
    | some v => exact absurd ⟨v, e⟩ h
theorem come_step (f : Nat → Option Value) (left : Nat → Prop) {x : Nat} {v : Value} (h : f x = some v) : upd (come f left) x (some v) = come f (fun y => left y ∧ y ≠ x) := by
  classical
  funext a
  by_cases e : a = x
  · subst e
    rw [upd_same]
    simp [come, h]
  · rw [upd_other _ e]
    simp [come, e]
set_option maxRecDepth 100000 in
set_option maxHeartbeats 4000000 in
theorem CopyM_any (bd : Nat) (m : Option Nat) (f : Nat → Option Value) (w : World) (hd : MapF w u32In u32E bd (fun _ => none)) (hm : MapO w u32In u32E m f) (hne : m ≠ some bd) (hv : ∀ a v, f a = some v → ∃ g, v = .agg (vec g)) :
    Calls Tryz.prog 32 #[.map (some bd), .map m] w (CopyPost bd f w) := by
  have HD := Lib.hid hd
  have HM := Lib.hid hm
  have hbd := hd.lt
  clear hd hm
  go_enter Tryz.func32, Tryz.ntmps32
  go_wp2_with (at_range; refine wpList_rangeF (f := f) rfl _ rfl keyU32 Tryz.underlying83 rfl HM.out ?_; intro w0 cnt0 hr0 hg0 hs0)
  go_frame
  have hg0b := World.grownBy.but hg0 (some bd)
  have HD0 := Lib.hid (HD.out.keep (w' := w0) (hg0.block bd hbd (by simp)))
  have HR0 := Lib.hid hr0
  have HG0 := Lib.hid hg0b
  have hbi : bd ≠ w.heap.size := by omega
  have HNE := Lib.hid hne
  have hmlt := Lib.hid (fun b hb => HM.out.lt (b := b) hb)
  clear hg0 hg0b hr0
  go_loopw [4, 5] (fun _ _ wr => ∃ (left : Nat → Prop) (cnt : Nat), Hid (MapR wr u32In u32E m w.heap.size f left cnt) ∧ Hid (MapF wr u32In u32E bd (come f left)) ∧ Hid (w.grownBy wr (some bd)) ∧ w.heap.size < wr.heap.size) (fun _ _ wr => mapLeft wr m w.heap.size)
  case atStart => exact ⟨_, cnt0, HR0, Lib.hid (by rw [come_none]; exact HD0.out), HG0, by omega⟩
  case round =>
    obtain ⟨left, cnt, HR, HC, HG, hsz⟩ := hrel
    go_wp2_with (at_next; refine wpList_nextF (m := m) (f := f) rfl _ rfl keyU32 rfl HR.out ?_ ?_)
    · intro _ hl0
      go_wp2_with fail
      refine bodyPost_end (results_none rfl _ _ _) rfl ?_
      exact ⟨rfl, by have h := HC.out; rw [come_all f left hl0] at h; exact h, HG.out⟩
    · intro x v w1 cnt1 hx hlx hfx hr1 hlt1 hg1 hs1 hen
      obtain ⟨g, rfl⟩ := hv x v hfx
      unfold u32E at hen
      unfold vec at hen
      have hD1 := HC.out.keep (w' := w1) (hg1.block bd HC.out.lt (fun h => hbi (by injection h)))
      have HQ := Lib.hid (Blk.new w1 85 (vec g))
      have HG1 := Lib.hid ((HG.out.andThen hg1 (fun j hj => .inl (by injection hj with hj; omega))).andThen (World.grownBy_alloc w1 (.cells (vec g) 85) none) (fun j hj => by cases hj))
      have HR1 := Lib.hid (hr1.keep (w' := w1.alloc (.cells (vec g) 85)) (fun b hb => Below.heap_alloc _ _ _ (by
        have h1 := hmlt.out b hb
        omega)) (Below.heap_alloc _ _ _ (by omega)))
      have hD2 := hD1.keep (w' := w1.alloc (.cells (vec g) 85)) (Below.heap_alloc _ _ _ hD1.lt)
      obtain ⟨W2, hW2⟩ : ∃ W, w1.alloc (.cells (vec g) 85) = W := ⟨_, rfl⟩
      rw [hW2] at HQ HG1 HR1 hD2
      obtain ⟨w3, hst, hD3, hturn⟩ := hD2.store keyU32 Tryz.underlying83 hx (.agg (vec g))
      unfold u32E vec at hst
      have HW2 := Lib.hid hW2
      have hszw : W2.heap.size = w1.heap.size + 1 := by rw [← hW2]; simp
      rw [hs1] at HQ hszw
      have m0 := HQ.out.cell 0
      have m1 := HQ.out.cell 1
      have m2 := HQ.out.cell 2
      have m3 := HQ.out.cell 3
      have m4 := HQ.out.cell 4
      have m5 := HQ.out.cell 5
      have m6 := HQ.out.cell 6
      have m7 := HQ.out.cell 7
      have m8 := HQ.out.cell 8
      have m9 := HQ.out.cell 9
      simp [vec] at m0 m1 m2 m3 m4 m5 m6 m7 m8 m9
      have HD3 := Lib.hid hD3
      have HT := Lib.hid hturn
      have HGS := Lib.hid hg1.size
      have HFX := Lib.hid hfx
      have HLX := Lib.hid hlx
      have hlt9 := HR.out.left_eq
      have HR9 := Lib.hid hlt9
      clear hr1 hg1 hD1 hD2 hD3 hturn hW2 hfx hlx HR hlt9 hx
      unfold u32E
      go_upto_region 3 with (fail)
      unfold vec at HW2
      rw [HW2.out]
      go_wp2_with fail
      have hgt := HT.out.grown
      go_roundw
      case rel =>
        refine ⟨fun y => left y ∧ y ≠ x, cnt1, Lib.hid (HR1.out.keep (w' := w3) (fun b hb => hgt.block b ?_ (fun h => ?_)) (hgt.block _ (by omega) (fun h => hbi (by injection h with h; exact h.symm)))), Lib.hid (by have h := HD3.out; rw [come_step f left HFX.out] at h; exact h), Lib.hid (HG1.out.andThen hgt (fun j hj => .inr hj)), Nat.lt_of_lt_of_le (by omega) hgt.size⟩
        · have := hmlt.out b hb
          omega
        · injection h with h
          exact HNE.out (by rw [hb, h])
      case measure =>
        rw [HR9.out]
        have h := (HR1.out.keep (w' := w3) (fun b hb => hgt.block b (by have := hmlt.out b hb; omega) (fun h => by
          injection h with h
          exact HNE.out (by rw [hb, h]))) (hgt.block _ (by omega) (fun h => hbi (by injection h with h; exact h.symm)))).left_eq
        rw [h]
        exact hlt1
end Go.Proofs.YtdnnkdldolhbpaaGreatDoor
