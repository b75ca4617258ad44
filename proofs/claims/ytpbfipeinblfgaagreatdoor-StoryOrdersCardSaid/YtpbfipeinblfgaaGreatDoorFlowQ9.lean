/-
A region that draws its order, op by op: what each operation leaves, wherever it comes up. No condition.
-/
import Derived.Orders
import Derived.Below
import Derived.Deep.Quiet
import Derived.Deep.QuietTactic
namespace Go.Proofs.YtpbfipeinblfgaaGreatDoor
open Go Go.RowKit

section flow
variable {P : Program}

/-- What an operation comes to: a value, and a world. -/
def comesC (P : Program) (K : Value → World → Prop) : Result Next → Prop
  | .ok (.value v) w' => K v w'
  | .ok .skip w' => K undef w'
  | .ok (.enter f args) w' => Calls P f args w' (fun e w'' => ∃ v, e = .returned v ∧ K v w'')
  | _ => False
structure opC (P : Program) (o : Oper) (a : Act) (w : World) (K : Value → World → Prop) : Prop where
  out : comesC P K ((execOp a.eval o).run P w)

theorem wp_of_opC {o : Oper} {a : Act} {w : World} {K : Value → World → Prop} {K' : Act → World → Prop} {Q : Exit → Act → World → Prop} (h : opC P o a w K)
    (hk : ∀ v w', K v w' → K' (a.put o.dst v) w') : o.wp P a w K' Q := by
  have h := h.out
  unfold Oper.wp
  generalize (execOp a.eval o).run P w = r at *
  cases r with
  | ok n w' =>
    cases n <;> simp only [comesC] at h <;> simp only [Oper.upon]
    case value u => exact hk _ _ h
    case skip => exact hk _ _ h
    case enter f args => exact h.mono fun e w'' ⟨v, he, hv⟩ => by subst he; exact hk _ _ hv
  | halt x w' => simp only [comesC] at h

/-- What is known of a slot, in every later world too. -/
structure Flw where
  p : Value → World → Prop
  mono : ∀ {v : Value} {w w' : World}, p v w → Below w.heap.size w w' → p v w'
def Flw.is (v : Value) : Flw := ⟨fun u _ => u = v, fun h _ => h⟩
def Flw.any : Flw := ⟨fun _ _ => True, fun _ _ => trivial⟩

/-- Which operation writes a slot. -/
def wr (d : Tmp) : List (Option Tmp) → Nat → Option Nat
  | [], _ => none
  | x :: r, i => if x = some d then some i else wr d r (i + 1)
theorem wr_some {d : Tmp} : ∀ {ds : List (Option Tmp)} {k j : Nat}, wr d ds k = some j → k ≤ j ∧ ds[j - k]? = some (some d)
  | [], _, _, h => by cases h
  | x :: r, k, j, h => by
    unfold wr at h
    split at h
    · rename_i hx
      injection h with h
      subst h
      exact ⟨Nat.le_refl _, by simp [hx]⟩
    · obtain ⟨h1, h2⟩ := wr_some h
      refine ⟨by omega, ?_⟩
      rw [show j - k = (j - (k + 1)) + 1 by omega]
      simpa using h2
theorem wr_none {d : Tmp} : ∀ {ds : List (Option Tmp)} {k : Nat}, wr d ds k = none → ∀ i : Nat, ds[i]? ≠ some (some d)
  | [], _, _, i => by simp
  | x :: r, k, h, i => by
    unfold wr at h
    split at h
    · cases h
    · rename_i hx
      cases i with
      | zero => simpa using hx
      | succ i => simpa using wr_none h i
theorem wr_of {d : Tmp} {ds : List (Option Tmp)} {k i : Nat} (h : ds[i]? = some (some d)) : ∃ j, wr d ds k = some j := by
  cases e : wr d ds k with
  | some j => exact ⟨j, rfl⟩
  | none => exact absurd h (wr_none e i)

/-- What an operation sees of a slot. -/
def seeS (ds : List (Option Tmp)) (F : Nat → Flw) (a0 a : Act) (w : World) (d : Tmp) : Prop :=
  match wr d ds 0 with
  | some j => (F j).p (a.eval (.tmp d)) w
  | none => a.eval (.tmp d) = a0.eval (.tmp d)
def seesS (ds : List (Option Tmp)) (F : Nat → Flw) (a0 a : Act) (w : World) : List Tmp → Prop
  | [] => True
  | d :: r => seeS ds F a0 a w d ∧ seesS ds F a0 a w r
theorem seesS_of {ds : List (Option Tmp)} {F : Nat → Flw} {a0 a : Act} {w : World} : ∀ {l : List Tmp}, (∀ d ∈ l, seeS ds F a0 a w d) → seesS ds F a0 a w l
  | [], _ => trivial
  | d :: r, h => ⟨h d (by simp), seesS_of fun e he => h e (by simp [he])⟩

/-- What is asked of operation i. -/
def stepF (P : Program) (ops : Array Oper) (ds : List (Option Tmp)) (F : Nat → Flw) (a0 : Act) (w0 : World) (i : Nat) (o : Oper) : Prop :=
  ∀ a w, seesS ds F a0 a w (o.looksAt ops) → Below w0.heap.size w0 w →
    if Region.wanted o (yielded ops a.tmps) then opC P o a w (fun v w' => (F i).p v w' ∧ Below w.heap.size w w') else (F i).p undef w
def stepsF (P : Program) (ops : Array Oper) (ds : List (Option Tmp)) (F : Nat → Flw) (a0 : Act) (w0 : World) : Nat → List Oper → Prop
  | _, [] => True
  | i, o :: r => stepF P ops ds F a0 w0 i o ∧ stepsF P ops ds F a0 w0 (i + 1) r
theorem stepsF_at {ops : Array Oper} {ds : List (Option Tmp)} {F : Nat → Flw} {a0 : Act} {w0 : World} : ∀ {l : List Oper} {k : Nat}, stepsF P ops ds F a0 w0 k l → ∀ (i : Nat) (o : Oper), l[i]? = some o → stepF P ops ds F a0 w0 (k + i) o
  | [], _, _, i, o, h => by simp at h
  | x :: r, k, hs, i, o, h => by
    cases i with
    | zero => obtain rfl : x = o := by simpa using h
              exact hs.1
    | succ i => have := stepsF_at hs.2 i o (by simpa using h)
                rwa [show k + 1 + i = k + (i + 1) by omega] at this

/-- The shape of a region: each writes a slot of its own; what is looked at is an edge; edges go back. -/
def flowB (ops : Array Oper) (sz : Nat) : Bool :=
  (List.range ops.size).all fun i => match ops[i]? with
    | none => true
    | some o => (match o.dst with
        | some d => decide (d < sz) && (List.range ops.size).all fun j => j == i || ((ops[j]?).bind (·.dst)) != some d
        | none => true)
      && ((o.looksAt ops).all fun d => (List.range ops.size).all fun j => ((ops[j]?).bind (·.dst)) != some d || o.after.any fun e => Region.binds .any e && e.on == j)
      && o.after.all fun e => !Region.binds .any e || decide (e.on < i)
structure FlowOk (ops : Array Oper) (sz : Nat) : Prop where
  lt : ∀ (i : Nat) (o : Oper) (d : Tmp), ops[i]? = some o → o.dst = some d → d < sz
  one : ∀ (i j : Nat) (o o' : Oper) (d : Tmp), ops[i]? = some o → ops[j]? = some o' → o.dst = some d → o'.dst = some d → j = i
  edge : ∀ (i : Nat) (o : Oper) (d : Tmp) (j : Nat) (o' : Oper), ops[i]? = some o → d ∈ o.looksAt ops → ops[j]? = some o' → o'.dst = some d → ∃ e ∈ o.after, Region.binds .any e = true ∧ e.on = j
  back : ∀ (i : Nat) (o : Oper), ops[i]? = some o → ∀ e ∈ o.after, Region.binds .any e = true → e.on < i
theorem size_of_some {ops : Array Oper} {i : Nat} {o : Oper} (h : ops[i]? = some o) : i < ops.size := (Array.getElem?_eq_some_iff.1 h).1
theorem flowOk {ops : Array Oper} {sz : Nat} (h : flowB ops sz = true) : FlowOk ops sz := by
  unfold flowB at h
  rw [List.all_eq_true] at h
  have hh : ∀ (i : Nat) (o : Oper), ops[i]? = some o → _ := fun i o ho => by
    have := h i (List.mem_range.2 (size_of_some ho))
    rw [ho] at this
    simp only [Bool.and_eq_true] at this
    exact this
  refine ⟨fun i o d ho hd => ?_, fun i j o o' d ho ho' hd hd' => ?_, fun i o d j o' ho hd ho' hd' => ?_, fun i o ho e he hbd => ?_⟩
  · obtain ⟨⟨h1, -⟩, -⟩ := hh i o ho
    rw [hd] at h1
    simp only [Bool.and_eq_true, decide_eq_true_eq] at h1
    exact h1.1
  · obtain ⟨⟨h1, -⟩, -⟩ := hh i o ho
    rw [hd] at h1
    simp only [Bool.and_eq_true, List.all_eq_true] at h1
    have := h1.2 j (List.mem_range.2 (size_of_some ho'))
    rw [ho'] at this
    simpa [hd'] using this
  · obtain ⟨⟨-, h2⟩, -⟩ := hh i o ho
    rw [List.all_eq_true] at h2
    have := h2 d hd
    rw [List.all_eq_true] at this
    have := this j (List.mem_range.2 (size_of_some ho'))
    rw [ho'] at this
    simp only [Option.bind_some, hd', bne_self_eq_false, Bool.false_or, Array.any_eq_true] at this
    obtain ⟨k, hk, he⟩ := this
    simp only [Bool.and_eq_true, beq_iff_eq] at he
    exact ⟨_, Array.getElem_mem hk, he.1, he.2⟩
  · obtain ⟨-, h3⟩ := hh i o ho
    rw [Array.all_eq_true] at h3
    obtain ⟨k, hk, rfl⟩ := Array.mem_iff_getElem.1 he
    have h4 := h3 k hk
    rw [hbd] at h4
    simpa using h4

/-- Where the walk of a region stands. -/
structure AtF (ops : Array Oper) (F : Nat → Flw) (a0 : Act) (listed : Array Bool) (a : Act) (w : World) : Prop where
  ls : listed.size = ops.size
  sz : a.tmps.size = a0.tmps.size
  df : a.defers = a0.defers
  old : ∀ d, (∀ (i : Nat) (o : Oper), ops[i]? = some o → o.dst = some d → listed[i]? = some false) → a.tmps[d]? = a0.tmps[d]?
  new : ∀ (i : Nat) (o : Oper) (d : Tmp), ops[i]? = some o → o.dst = some d → listed[i]? = some true → (F i).p (a.eval (.tmp d)) w
  out : ∀ (i : Nat) (o : Oper), ops[i]? = some o → o.dst = none → True

theorem AtF.put {ops : Array Oper} {F : Nat → Flw} {a0 a : Act} {listed : Array Bool} {w w' : World} (hk : FlowOk ops a0.tmps.size) (h : AtF ops F a0 listed a w) {i : Nat} {o : Oper} (ho : ops[i]? = some o)
    {v : Value} (hv : (F i).p v w') (hb : Below w.heap.size w w') : AtF ops F a0 (listed.setIfInBounds i true) (a.put o.dst v) w' := by
  have hi := size_of_some ho
  have hli : i < listed.size := by rw [h.ls]; exact hi
  refine ⟨by simp [h.ls], ?_, ?_, fun d hd => ?_, fun j oj d hj hd hl => ?_, fun _ _ _ _ => trivial⟩
  · cases e : o.dst <;> simp [Act.put, h.sz]
  · cases e : o.dst <;> simp [Act.put, h.df]
  · have hne : o.dst ≠ some d := fun e => by
      have := hd i o ho e
      rw [Array.getElem?_setIfInBounds_self_of_lt hli] at this
      cases this
    have : (a.put o.dst v).tmps[d]? = a.tmps[d]? := by
      cases e : o.dst with
      | none => rfl
      | some d' =>
        have : d' ≠ d := fun e' => hne (by rw [e, e'])
        simp [Act.put, Array.getElem?_setIfInBounds_ne this]
    rw [this]
    refine h.old d fun j oj hj hdj => ?_
    have hji : i ≠ j := fun e => hne (by subst e; rw [ho] at hj; injection hj with hj; rw [hj]; exact hdj)
    have := hd j oj hj hdj
    rwa [Array.getElem?_setIfInBounds_ne hji] at this
  · by_cases hji : i = j
    · subst hji
      obtain rfl : o = oj := by rw [ho] at hj; injection hj
      have hdz := hk.lt i o d ho hd
      have : (a.put o.dst v).eval (.tmp d) = v := by
        rw [hd]
        have hd2 : d < a.tmps.size := by rw [h.sz]; exact hdz
        simp [Act.put, Act.eval, Array.getD, hd2]
      rw [this]
      exact hv
    · have hl2 : listed[j]? = some true := by rwa [Array.getElem?_setIfInBounds_ne hji] at hl
      have h2 := h.new j oj d hj hd hl2
      have : (a.put o.dst v).eval (.tmp d) = a.eval (.tmp d) := by
        refine Act.eval_put fun d' hd' e => ?_
        injection e with e
        subst e
        exact hji (hk.one j i oj o d hj ho hd hd')
      rw [this]
      exact (F j).mono h2 hb

def putF (f : Nat → Value) : List (Option Tmp) → Nat → Act → Act
  | [], _, a => a
  | d :: r, i, a => putF f r (i + 1) (a.put d (f i))

theorem ready_listed {ops : Array Oper} {listed : Array Bool} (hl : listed.size = ops.size) {i : Nat} (h : i ∈ Region.ready .any ops listed) :
    ∃ o, ops[i]? = some o ∧ listed[i]? = some false ∧ ∀ e ∈ o.after, Region.binds .any e = true → listed[e.on]? = some true := by
  unfold Region.ready at h
  rw [List.mem_filter, List.mem_range] at h
  obtain ⟨h1, h2⟩ := h
  have ho : ops[i]? = some ops[i] := by simp [h1]
  rw [ho] at h2
  simp only [Bool.and_eq_true, Option.map_some, Option.getD_some] at h2
  obtain ⟨h3, h4⟩ := h2
  refine ⟨_, ho, ?_, fun e he hb => ?_⟩
  · have hi : i < listed.size := by omega
    simp [Array.getD, hi] at h3
    simp [hi, h3]
  · rw [Array.all_eq_true] at h4
    obtain ⟨k, hk, rfl⟩ := Array.mem_iff_getElem.1 he
    have := h4 k hk
    rw [hb] at this
    simp only [Bool.not_true, Bool.false_or] at this
    by_cases hz : (ops[i].after[k]).on < listed.size
    · simp [Array.getD, hz] at this
      simp [hz, this]
    · simp [Array.getD, hz] at this
theorem all_listed {ops : Array Oper} {sz : Nat} (hk : FlowOk ops sz) {listed : Array Bool} (hl : listed.size = ops.size) (h : Region.ready .any ops listed = []) : ∀ (i : Nat) (o : Oper), ops[i]? = some o → listed[i]? = some true := by
  intro i
  induction i using Nat.strongRecOn with
  | _ i ih =>
    intro o ho
    have hi := size_of_some ho
    have hi2 : i < listed.size := by omega
    cases e : listed[i] with
    | true => simp [hi2, e]
    | false =>
      exfalso
      have : i ∈ Region.ready .any ops listed := by
        unfold Region.ready
        rw [List.mem_filter, List.mem_range]
        refine ⟨hi, ?_⟩
        rw [ho]
        simp only [Bool.and_eq_true, Option.map_some, Option.getD_some]
        refine ⟨by simp [Array.getD, hi2, e], ?_⟩
        rw [Array.all_eq_true]
        intro k hk'
        cases hbd : Region.binds .any o.after[k] with
        | false => rfl
        | true =>
        have hb := hk.back i o ho _ (Array.getElem_mem hk') hbd
        have hz : (o.after[k]).on < ops.size := by omega
        have := ih _ hb ops[(o.after[k]).on] (by simp [hz])
        have h3 : (o.after[k]).on < listed.size := by omega
        simp only [Array.getD, h3]
        simp [h3] at this
        simp [this]
      rw [h] at this
      cases this
/-- How many are left. -/
def leftF (listed : Array Bool) : Nat := listed.toList.countP (fun b => !b)
theorem left_set {listed : Array Bool} {i : Nat} (h : listed[i]? = some false) : leftF (listed.setIfInBounds i true) + 1 = leftF listed := by
  obtain ⟨hi, he⟩ := Array.getElem?_eq_some_iff.1 h
  unfold leftF
  rw [Array.toList_setIfInBounds, List.countP_set (by simpa using hi)]
  have hp : 1 ≤ listed.toList.countP (fun b => !b) := List.countP_pos_iff.2 ⟨false, by rw [← he]; simp, rfl⟩
  have e1 : (listed.toList[i]'(by simpa using hi)) = false := by simpa using he
  rw [e1]
  simp only [Bool.not_false, Bool.not_true, if_true, Bool.false_eq_true, if_false, Nat.add_zero]
  exact Nat.sub_add_cancel hp
theorem left_none {listed : Array Bool} (h : leftF listed = 0) : ∀ i : Nat, listed[i]? ≠ some false := by
  intro i hi
  obtain ⟨h1, h2⟩ := Array.getElem?_eq_some_iff.1 hi
  have : 0 < listed.toList.countP (fun b => !b) := List.countP_pos_iff.2 ⟨false, by rw [← h2]; simp, rfl⟩
  unfold leftF at h
  omega
theorem sees_at {ops : Array Oper} {F : Nat → Flw} {a0 a : Act} {listed : Array Bool} {w : World} (hk : FlowOk ops a0.tmps.size) (h : AtF ops F a0 listed a w) {i : Nat} {o : Oper} (ho : ops[i]? = some o)
    (hr : ∀ e ∈ o.after, Region.binds .any e = true → listed[e.on]? = some true) : seesS (ops.toList.map (·.dst)) F a0 a w (o.looksAt ops) := by
  refine seesS_of fun d hd => ?_
  unfold seeS
  split
  · rename_i j hj
    obtain ⟨-, hj⟩ := wr_some hj
    rw [Nat.sub_zero, List.getElem?_map, Array.getElem?_toList] at hj
    obtain ⟨oj, h1, h2⟩ := Option.map_eq_some_iff.1 hj
    obtain ⟨e, he, hb, rfl⟩ := hk.edge i o d j oj ho hd h1 h2
    exact h.new _ oj d h1 h2 (hr e he hb)
  · rename_i hn
    have := h.old d fun j oj hj hdj => by
      exfalso
      refine wr_none hn j ?_
      rw [List.getElem?_map, Array.getElem?_toList, hj]
      simp [hdj]
    simp only [Act.eval, Array.getD_eq_getD_getElem?, this]

theorem putF_size (f : Nat → Value) : ∀ (ds : List (Option Tmp)) (k : Nat) (a : Act), (putF f ds k a).tmps.size = a.tmps.size ∧ (putF f ds k a).defers = a.defers
  | [], _, _ => ⟨rfl, rfl⟩
  | d :: r, k, a => by
    obtain ⟨h1, h2⟩ := putF_size f r (k + 1) (a.put d (f k))
    refine ⟨h1.trans ?_, h2.trans ?_⟩ <;> cases d <;> simp [Act.put]
theorem putF_old (f : Nat → Value) : ∀ (ds : List (Option Tmp)) (k : Nat) (a : Act) (d : Tmp), (∀ i : Nat, ds[i]? ≠ some (some d)) → (putF f ds k a).tmps[d]? = a.tmps[d]?
  | [], _, _, _, _ => rfl
  | x :: r, k, a, d, h => by
    have h2 := putF_old f r (k + 1) (a.put x (f k)) d (fun i => by simpa using h (i + 1))
    refine h2.trans ?_
    cases x with
    | none => rfl
    | some d' =>
      have : d' ≠ d := fun e => h 0 (by simp [e])
      simp [Act.put, Array.getElem?_setIfInBounds_ne this]
theorem putF_new (f : Nat → Value) : ∀ (ds : List (Option Tmp)) (k : Nat) (a : Act) (d : Tmp) (i : Nat), d < a.tmps.size → ds[i]? = some (some d) → (∀ j : Nat, ds[j]? = some (some d) → j = i) → (putF f ds k a).tmps[d]? = some (f (k + i))
  | [], _, _, _, i, _, h, _ => by simp at h
  | x :: r, k, a, d, i, hz, h, h1 => by
    cases i with
    | zero =>
      obtain rfl : x = some d := by simpa using h
      have h2 := putF_old f r (k + 1) (a.put (some d) (f k)) d (fun j hj => by have := h1 (j + 1) (by simpa using hj); omega)
      refine h2.trans ?_
      simp [Act.put, Array.getElem?_setIfInBounds_self_of_lt hz]
    | succ i =>
      have h2 := putF_new f r (k + 1) (a.put x (f k)) d i (by cases x <;> simpa [Act.put] using hz) (by simpa using h) (fun j hj => by have := h1 (j + 1) (by simpa using hj); omega)
      rw [show k + (i + 1) = k + 1 + i by omega]
      exact h2
theorem act_ext {a b : Act} (h1 : a.tmps.size = b.tmps.size) (h2 : a.defers = b.defers) (h : ∀ d : Nat, a.tmps[d]? = b.tmps[d]?) : a = b := by
  obtain ⟨t, e⟩ := a
  obtain ⟨t', e'⟩ := b
  simp only at h1 h2 h
  rw [Array.ext_getElem? h, h2]
theorem AtF.all {ops : Array Oper} {F : Nat → Flw} {a0 a : Act} {listed : Array Bool} {w : World} (hk : FlowOk ops a0.tmps.size) (h : AtF ops F a0 listed a w) (hl : ∀ (i : Nat) (o : Oper), ops[i]? = some o → listed[i]? = some true) :
    ∃ f : Nat → Value, a = putF f (ops.toList.map (·.dst)) 0 a0 ∧ ∀ (i : Nat) (o : Oper) (d : Tmp), ops[i]? = some o → o.dst = some d → (F i).p (f i) w := by
  refine ⟨fun i => match (ops[i]?).bind (·.dst) with | some d => a.eval (.tmp d) | none => undef, ?_, fun i o d ho hd => ?_⟩
  · obtain ⟨s1, s2⟩ := putF_size (fun i => match (ops[i]?).bind (·.dst) with | some d => a.eval (.tmp d) | none => undef) (ops.toList.map (·.dst)) 0 a0
    refine act_ext (by rw [s1, h.sz]) (by rw [s2, h.df]) fun d => ?_
    cases e : wr d (ops.toList.map (·.dst)) 0 with
    | none =>
      have hn := wr_none e
      rw [putF_old _ _ _ _ _ hn]
      refine h.old d fun j oj hj hdj => ?_
      exfalso
      refine hn j ?_
      rw [List.getElem?_map, Array.getElem?_toList, hj]
      simp [hdj]
    | some j =>
      obtain ⟨-, hj⟩ := wr_some e
      rw [Nat.sub_zero] at hj
      have hj' := hj
      rw [List.getElem?_map, Array.getElem?_toList] at hj
      obtain ⟨oj, h1, h2⟩ := Option.map_eq_some_iff.1 hj
      have hdz := hk.lt j oj d h1 h2
      rw [putF_new _ _ _ _ d j hdz hj' (fun i hi => by
        rw [List.getElem?_map, Array.getElem?_toList] at hi
        obtain ⟨oi, g1, g2⟩ := Option.map_eq_some_iff.1 hi
        exact hk.one j i oj oi d h1 g1 h2 g2)]
      have hd2 : d < a.tmps.size := by rw [h.sz]; exact hdz
      simp [h1, h2, Act.eval, Array.getD, hd2]
  · simp only [ho, Option.bind_some, hd]
    exact h.new i o d ho hd (hl i o ho)

theorem wpAny_flow {ops : Array Oper} {F : Nat → Flw} {a0 : Act} {w0 : World} {Q : Exit → Act → World → Prop} (hk : FlowOk ops a0.tmps.size)
    (hs : ∀ (i : Nat) (o : Oper), ops[i]? = some o → stepF P ops (ops.toList.map (·.dst)) F a0 w0 i o)
    (hq : ∀ (f : Nat → Value) w, (∀ (i : Nat) (o : Oper) (d : Tmp), ops[i]? = some o → o.dst = some d → (F i).p (f i) w) → Below w0.heap.size w0 w → Q .normal (putF f (ops.toList.map (·.dst)) 0 a0) w) :
    ∀ (fuel : Nat) (listed : Array Bool) (a : Act) (w : World), leftF listed ≤ fuel → AtF ops F a0 listed a w → Below w0.heap.size w0 w → wpAny P .any ops Q fuel listed a w := by
  have fin : ∀ (listed : Array Bool) (a : Act) (w : World), AtF ops F a0 listed a w → Below w0.heap.size w0 w → Region.ready .any ops listed = [] → Q .normal a w := fun listed a w h hb hr => by
    obtain ⟨f, rfl, hf⟩ := h.all hk (all_listed hk h.ls hr)
    exact hq f w hf hb
  intro fuel
  induction fuel with
  | zero =>
    intro listed a w hl h hb
    have hr : Region.ready .any ops listed = [] := by
      rw [List.eq_nil_iff_forall_not_mem]
      intro i hi
      obtain ⟨o, _, h2, _⟩ := ready_listed h.ls hi
      exact left_none (by omega) i h2
    exact ⟨hr, fin _ _ _ h hb hr⟩
  | succ fuel ih =>
    intro listed a w hl h hb
    refine ⟨fin _ _ _ h hb, fun i hi => ?_⟩
    obtain ⟨o, ho, h2, h3⟩ := ready_listed h.ls hi
    have hst := hs i o ho a w (sees_at hk h ho h3) hb
    have hls := left_set h2
    unfold wpOp
    rw [ho]
    simp only
    split
    · rename_i hw
      rw [if_pos hw] at hst
      refine .inl (wp_of_opC hst fun v w' hv => ?_)
      exact ih _ _ _ (by omega) (h.put hk ho hv.1 hv.2) (hb.trans (hv.2.mono hb.size))
    · rename_i hw
      rw [if_neg hw] at hst
      exact ih _ _ _ (by omega) (h.put hk ho hst (Below.refl _ _)) hb

theorem left_new (n : Nat) : leftF (Array.replicate n false) ≤ n := by
  unfold leftF
  have := List.countP_le_length (p := fun b : Bool => !b) (l := (Array.replicate n false).toList)
  simpa using this
/-- THE LAW: each operation's share, wherever it comes up. -/
theorem wp_region_flow {id : Nat} {l : List Oper} {Q : Exit → Act → World → Prop} {a0 : Act} {w : World} (ds : List (Option Tmp)) (F : Nat → Flw) (hm : P.follows .mixedOrders = true)
    (hB : flowB l.toArray a0.tmps.size = true) (hd : l.map (·.dst) = ds) (hs : stepsF P l.toArray ds F a0 w 0 l)
    (hq : ∀ (f : Nat → Value) w', (∀ (i : Nat) (d : Tmp), ds[i]? = some (some d) → (F i).p (f i) w') → Below w.heap.size w w' → Q .normal (putF f ds 0 a0) w') : (Code.region id l.toArray true).wp P Q a0 w := by
  subst hd
  refine wp_region_any hm (wpAny_flow (F := F) (a0 := a0) (w0 := w) (flowOk hB) (fun i o ho => ?_) (fun f w' hf hb => ?_) _ _ _ _ ?_ ?_ ?_)
  · have := stepsF_at hs i o (by simpa using ho)
    rwa [Nat.zero_add] at this
  · refine hq f w' (fun i d hi => ?_) hb
    rw [List.getElem?_map] at hi
    obtain ⟨o, h1, h2⟩ := Option.map_eq_some_iff.1 hi
    exact hf i o d (by simpa using h1) h2
  · exact left_new _
  · refine ⟨by simp, rfl, rfl, fun _ _ => rfl, fun i o d _ _ h => ?_, fun _ _ _ _ => trivial⟩
    rw [Array.getElem?_replicate] at h
    split at h <;> cases h
  · exact ⟨rfl, rfl, rfl, Nat.le_refl _, fun _ _ => rfl⟩

/-- Each operation but the last one is waited for by a later one. -/
def coverB (ops : Array Oper) : Bool :=
  (List.range (ops.size - 1)).all fun i => (List.range ops.size).any fun k => decide (i < k) && match ops[k]? with
    | none => false
    | some o => o.after.any fun e => Region.binds .any e && e.on == i
theorem cover_of {ops : Array Oper} (h : coverB ops = true) : ∀ i, i + 1 < ops.size → ∃ k o, i < k ∧ ops[k]? = some o ∧ ∃ e ∈ o.after, Region.binds .any e = true ∧ e.on = i := fun i hi => by
  unfold coverB at h
  rw [List.all_eq_true] at h
  have := h i (List.mem_range.2 (by omega))
  rw [List.any_eq_true] at this
  obtain ⟨k, -, hk⟩ := this
  rw [Bool.and_eq_true, decide_eq_true_eq] at hk
  obtain ⟨h1, h2⟩ := hk
  cases e : ops[k]? with
  | none => rw [e] at h2; cases h2
  | some o =>
    rw [e] at h2
    simp only [Array.any_eq_true] at h2
    obtain ⟨j, hj, he⟩ := h2
    simp only [Bool.and_eq_true, beq_iff_eq] at he
    exact ⟨k, o, h1, e, _, Array.getElem_mem hj, he.1, he.2⟩
def ClosedF (ops : Array Oper) (listed : Array Bool) : Prop := ∀ (i : Nat) (o : Oper), ops[i]? = some o → listed[i]? = some true → ∀ e ∈ o.after, Region.binds .any e = true → listed[e.on]? = some true
theorem set_keeps_self {listed : Array Bool} {i : Nat} (h : i < listed.size) : (listed.setIfInBounds i true)[i]? = some true := Array.getElem?_setIfInBounds_self_of_lt h
theorem set_keeps {listed : Array Bool} {i j : Nat} (h : listed[j]? = some true) : (listed.setIfInBounds i true)[j]? = some true := by
  by_cases e : i = j
  · subst e
    exact Array.getElem?_setIfInBounds_self_of_lt (Array.getElem?_eq_some_iff.1 h).1
  · rw [Array.getElem?_setIfInBounds_ne e]; exact h
theorem ClosedF.put {ops : Array Oper} {listed : Array Bool} (h : ClosedF ops listed) {i : Nat} {o : Oper} (ho : ops[i]? = some o) (hr : ∀ e ∈ o.after, Region.binds .any e = true → listed[e.on]? = some true) : ClosedF ops (listed.setIfInBounds i true) := fun j oj hj hl e he hb => by
  by_cases e' : i = j
  · subst e'
    obtain rfl : o = oj := by rw [ho] at hj; injection hj
    exact set_keeps (hr e he hb)
  · rw [Array.getElem?_setIfInBounds_ne e'] at hl
    exact set_keeps (h j oj hj hl e he hb)
theorem last_all {ops : Array Oper} {listed : Array Bool} (hc : coverB ops = true) (hl : ClosedF ops listed) {o : Oper} (ho : ops[ops.size - 1]? = some o) (hr : ∀ e ∈ o.after, Region.binds .any e = true → listed[e.on]? = some true) :
    ∀ m i, ops.size - 1 - i = m → i + 1 < ops.size → listed[i]? = some true := by
  intro m
  induction m using Nat.strongRecOn with
  | _ m ih =>
    intro i hm hi
    obtain ⟨k, ok, h1, h2, e, he, hb, rfl⟩ := cover_of hc i hi
    have hks := size_of_some h2
    by_cases hk : k = ops.size - 1
    · subst hk
      obtain rfl : o = ok := by rw [ho] at h2; injection h2
      exact hr e he hb
    · exact hl k ok h2 (ih (ops.size - 1 - k) (by omega) k rfl (by omega)) e he hb
theorem AtF.rest {ops : Array Oper} {F : Nat → Flw} {a0 a : Act} {listed : Array Bool} {w : World} {o : Oper} {l : List Oper} (hops : ops = (l ++ [o]).toArray) (hk : FlowOk ops a0.tmps.size) (h : AtF ops F a0 listed a w) (hl : ∀ i, i < l.length → listed[i]? = some true) (hn : listed[l.length]? = some false) :
    ∃ f : Nat → Value, a = putF f (l.map (·.dst)) 0 a0 ∧ ∀ (i : Nat) (d : Tmp), (l.map (·.dst))[i]? = some (some d) → (F i).p (f i) w := by
  have hol : ∀ (i : Nat) (x : Oper), l[i]? = some x → ops[i]? = some x := fun i x hx => by
    rw [hops, List.getElem?_toArray, List.getElem?_append_left (List.getElem?_eq_some_iff.1 hx).1]
    exact hx
  have hlast : ops[l.length]? = some o := by rw [hops]; simp
  have hmap : ∀ (i : Nat) (d : Tmp), (l.map (·.dst))[i]? = some (some d) → ∃ x, l[i]? = some x ∧ x.dst = some d := fun i d hi => by
    rw [List.getElem?_map] at hi
    exact Option.map_eq_some_iff.1 hi
  refine ⟨fun i => match (ops[i]?).bind (·.dst) with | some d => a.eval (.tmp d) | none => undef, ?_, fun i d hi => ?_⟩
  · obtain ⟨s1, s2⟩ := putF_size (fun i => match (ops[i]?).bind (·.dst) with | some d => a.eval (.tmp d) | none => undef) (l.map (·.dst)) 0 a0
    refine act_ext (by rw [s1, h.sz]) (by rw [s2, h.df]) fun d => ?_
    cases e : wr d (l.map (·.dst)) 0 with
    | none =>
      have hw := wr_none e
      rw [putF_old _ _ _ _ _ hw]
      refine h.old d fun j oj hj hdj => ?_
      have hjs := size_of_some hj
      rw [hops] at hjs
      simp at hjs
      by_cases hjl : j < l.length
      · exfalso
        refine hw j ?_
        rw [List.getElem?_map]
        have : l[j]? = some oj := by
          rw [hops, List.getElem?_toArray, List.getElem?_append_left hjl] at hj
          exact hj
        rw [this]
        simp [hdj]
      · obtain rfl : j = l.length := by omega
        exact hn
    | some j =>
      obtain ⟨-, hj⟩ := wr_some e
      rw [Nat.sub_zero] at hj
      obtain ⟨oj, h1, h2⟩ := hmap j d hj
      have h1' := hol j oj h1
      have hdz := hk.lt j oj d h1' h2
      rw [putF_new _ _ _ _ d j hdz hj (fun i hi => by
        obtain ⟨oi, g1, g2⟩ := hmap i d hi
        exact hk.one j i oj oi d h1' (hol i oi g1) h2 g2)]
      have hd2 : d < a.tmps.size := by rw [h.sz]; exact hdz
      simp [h1', h2, Act.eval, Array.getD, hd2]
  · obtain ⟨oi, g1, g2⟩ := hmap i d hi
    simp only [hol i oi g1, Option.bind_some, g2]
    exact h.new i oi d (hol i oi g1) g2 (hl i (List.getElem?_eq_some_iff.1 g1).1)
theorem wpAny_flow_last {ops : Array Oper} {l : List Oper} {ol : Oper} (hops : ops = (l ++ [ol]).toArray) {F : Nat → Flw} {a0 : Act} {w0 : World} {Q : Exit → Act → World → Prop} (hk : FlowOk ops a0.tmps.size) (hc : coverB ops = true)
    (hs : ∀ (i : Nat) (o : Oper), l[i]? = some o → stepF P ops (ops.toList.map (·.dst)) F a0 w0 i o)
    (hg : ol.guard = none)
    (hq : ∀ (f : Nat → Value) w, (∀ (i : Nat) (d : Tmp), (l.map (·.dst))[i]? = some (some d) → (F i).p (f i) w) → Below w0.heap.size w0 w →
      opC P ol (putF f (l.map (·.dst)) 0 a0) w (fun v w' => Q .normal ((putF f (l.map (·.dst)) 0 a0).put ol.dst v) w')) :
    ∀ (fuel : Nat) (listed : Array Bool) (a : Act) (w : World), leftF listed ≤ fuel → listed[l.length]? = some false → ClosedF ops listed → AtF ops F a0 listed a w → Below w0.heap.size w0 w → wpAny P .any ops Q fuel listed a w := by
  have hlast : ops[l.length]? = some ol := by rw [hops]; simp
  have hsz : ops.size = l.length + 1 := by rw [hops]; simp
  have hopl : ∀ (i : Nat) (x : Oper), ops[i]? = some x → i ≠ l.length → l[i]? = some x := fun i x hx hi => by
    have := size_of_some hx
    rw [hops, List.getElem?_toArray, List.getElem?_append_left (by omega)] at hx
    exact hx
  intro fuel
  induction fuel with
  | zero =>
    intro listed a w hl hn _ _ _
    exact absurd hn (left_none (by omega) _)
  | succ fuel ih =>
    intro listed a w hl hn hcl h hb
    refine ⟨fun hr => ?_, fun i hi => ?_⟩
    · have := all_listed hk h.ls hr _ _ hlast
      rw [hn] at this
      cases this
    · obtain ⟨o, ho, h2, h3⟩ := ready_listed h.ls hi
      have hls := left_set h2
      by_cases hil : i = l.length
      · subst hil
        obtain rfl : ol = o := by rw [hlast] at ho; injection ho
        have hall : ∀ i, i < l.length → listed[i]? = some true := fun i hi => last_all hc hcl (by rw [hsz]; exact hlast) h3 _ i rfl (by omega)
        obtain ⟨f, rfl, hf⟩ := h.rest hops hk hall h2
        unfold wpOp
        rw [ho]
        simp only
        have hw : Region.wanted ol (yielded ops (putF f (l.map (·.dst)) 0 a0).tmps) = true := by unfold Region.wanted; rw [hg]
        rw [if_pos hw]
        refine .inl (wp_of_opC (hq f w hf hb) fun v w' hv => ?_)
        have hr : Region.ready .any ops (listed.setIfInBounds l.length true) = [] := by
          rw [List.eq_nil_iff_forall_not_mem]
          intro i hi
          obtain ⟨o', ho', g2, _⟩ := ready_listed (by simp [h.ls]) hi
          by_cases hi2 : l.length = i
          · subst hi2
            rw [set_keeps_self (by rw [h.ls, hsz]; omega)] at g2
            cases g2
          · rw [Array.getElem?_setIfInBounds_ne hi2] at g2
            have := size_of_some ho'
            rw [hall i (by omega)] at g2
            cases g2
        cases fuel with
        | zero => exact ⟨hr, hv⟩
        | succ fuel => exact ⟨fun _ => hv, fun i hi => by rw [hr] at hi; cases hi⟩
      · have hst := hs i o (hopl i o ho hil) a w (sees_at hk h ho h3) hb
        have hn' : (listed.setIfInBounds i true)[l.length]? = some false := by rw [Array.getElem?_setIfInBounds_ne hil]; exact hn
        unfold wpOp
        rw [ho]
        simp only
        split
        · rename_i hw
          rw [if_pos hw] at hst
          refine .inl (wp_of_opC hst fun v w' hv => ?_)
          exact ih _ _ _ (by omega) hn' (hcl.put ho h3) (h.put hk ho hv.1 hv.2) (hb.trans (hv.2.mono hb.size))
        · rename_i hw
          rw [if_neg hw] at hst
          exact ih _ _ _ (by omega) hn' (hcl.put ho h3) (h.put hk ho hst (Below.refl _ _)) hb
/-- THE LAW, the last operation (a store, say) apart. -/
theorem wp_region_flow_last {id : Nat} {l : List Oper} {ol : Oper} {ops : List Oper} {Q : Exit → Act → World → Prop} {a0 : Act} {w : World} (hops : ops = l ++ [ol]) (ds : List (Option Tmp)) (F : Nat → Flw) (hm : P.follows .mixedOrders = true)
    (hB : flowB ops.toArray a0.tmps.size = true) (hc : coverB ops.toArray = true) (hd : ops.map (·.dst) = ds ++ [ol.dst]) (hg : ol.guard = none) (hs : stepsF P ops.toArray (ds ++ [ol.dst]) F a0 w 0 l)
    (hq : ∀ (f : Nat → Value) w', (∀ (i : Nat) (d : Tmp), ds[i]? = some (some d) → (F i).p (f i) w') → Below w.heap.size w w' → opC P ol (putF f ds 0 a0) w' (fun v w'' => Q .normal ((putF f ds 0 a0).put ol.dst v) w'')) : (Code.region id ops.toArray true).wp P Q a0 w := by
  subst hops
  have hd' : l.map (·.dst) = ds := by
    rw [List.map_append] at hd
    exact List.append_cancel_right hd
  subst hd'
  refine wp_region_any hm (wpAny_flow_last (l := l) (ol := ol) rfl (F := F) (a0 := a0) (w0 := w) (flowOk hB) hc (fun i o ho => ?_) hg hq _ _ _ _ ?_ ?_ ?_ ?_ ?_)
  · have := stepsF_at hs i o ho
    rw [Nat.zero_add] at this
    rw [List.map_append] at hd
    simpa using this
  · exact left_new _
  · simp
  · intro i o _ h
    rw [Array.getElem?_replicate] at h
    split at h <;> cases h
  · refine ⟨by simp, rfl, rfl, fun _ _ => rfl, fun i o d _ _ h => ?_, fun _ _ _ _ => trivial⟩
    rw [Array.getElem?_replicate] at h
    split at h <;> cases h
  · exact ⟨rfl, rfl, rfl, Nat.le_refl _, fun _ _ => rfl⟩

def opndsF (o : Oper) : List Tmp := o.op.operands.toList.filterMap fun | .tmp t => some t | _ => none
theorem seesS_app {ds : List (Option Tmp)} {F : Nat → Flw} {a0 a : Act} {w : World} : ∀ {l m : List Tmp}, seesS ds F a0 a w (l ++ m) → seesS ds F a0 a w l ∧ seesS ds F a0 a w m
  | [], _, h => ⟨trivial, h⟩
  | _ :: _, _, h => ⟨⟨h.1, (seesS_app h.2).1⟩, (seesS_app h.2).2⟩
/-- An operation without a guard. -/
theorem step_free {ops : Array Oper} {ds : List (Option Tmp)} {F : Nat → Flw} {a0 : Act} {w0 : World} {i : Nat} {o : Oper} (hg : o.guard = none)
    (h : ∀ a w, seesS ds F a0 a w (opndsF o) → Below w0.heap.size w0 w → opC P o a w (fun v w' => (F i).p v w' ∧ Below w.heap.size w w')) : stepF P ops ds F a0 w0 i o := fun a w hs hb => by
  have hw : Region.wanted o (yielded ops a.tmps) = true := by unfold Region.wanted; rw [hg]
  rw [if_pos hw]
  exact h a w (seesS_app hs).1 hb
theorem yield_of {ops : Array Oper} {a : Act} {j : Nat} {d : Tmp} {b : Bool} (hd : (ops[j]?).bind (·.dst) = some d) (he : a.eval (.tmp d) = .bool b) : yielded ops a.tmps j = some b := by
  unfold yielded
  rw [hd]
  simp only [Act.eval, Array.getD_eq_getD_getElem?] at he
  simp only [Option.bind_some]
  cases e : a.tmps[d]? with
  | none => rw [e] at he; cases he
  | some v => rw [e] at he; simp only [Option.getD_some] at he; subst he; rfl
/-- An operation whose guard says yes. -/
theorem step_yes {ops : Array Oper} {ds : List (Option Tmp)} {F : Nat → Flw} {a0 : Act} {w0 : World} {i : Nat} {o : Oper} (j : Nat) (d : Tmp) {want : Bool} (hg : o.guard = some (j, want)) (hd : (ops[j]?).bind (·.dst) = some d)
    (hF : ∀ a w, seeS ds F a0 a w d → a.eval (.tmp d) = .bool want)
    (h : ∀ a w, seesS ds F a0 a w (opndsF o) → Below w0.heap.size w0 w → opC P o a w (fun v w' => (F i).p v w' ∧ Below w.heap.size w w')) : stepF P ops ds F a0 w0 i o := fun a w hs hb => by
  obtain ⟨h1, h2⟩ := seesS_app hs
  simp only [hg, hd, Option.toList] at h2
  have hw : Region.wanted o (yielded ops a.tmps) = true := by
    unfold Region.wanted
    simp only [hg, yield_of hd (hF a w h2.1)]
    cases want <;> rfl
  rw [if_pos hw]
  exact h a w h1 hb
/-- An operation whose guard says no. -/
theorem step_no {ops : Array Oper} {ds : List (Option Tmp)} {F : Nat → Flw} {a0 : Act} {w0 : World} {i : Nat} {o : Oper} (j : Nat) (d : Tmp) {want : Bool} (hg : o.guard = some (j, want)) (hd : (ops[j]?).bind (·.dst) = some d)
    (hF : ∀ a w, seeS ds F a0 a w d → a.eval (.tmp d) = .bool (!want)) (h : ∀ w, (F i).p undef w) : stepF P ops ds F a0 w0 i o := fun a w hs hb => by
  obtain ⟨h1, h2⟩ := seesS_app hs
  simp only [hg, hd, Option.toList] at h2
  have hw : ¬ Region.wanted o (yielded ops a.tmps) = true := by
    unfold Region.wanted
    simp only [hg, yield_of hd (hF a w h2.1)]
    cases want <;> decide
  rw [if_neg hw]
  exact h w
theorem below_same (w : World) : Below w.heap.size w w := ⟨rfl, rfl, rfl, Nat.le_refl _, fun _ _ => rfl⟩
/-- A value, in the world that it got. -/
theorem opC_value {o : Oper} {a : Act} {w : World} {K : Value → World → Prop} {v : Value} (h : (execOp a.eval o).run P w = .ok (.value v) w) (hk : K v w) : opC P o a w K := by
  constructor; rw [h]; exact hk
theorem opC_enter {o : Oper} {a : Act} {w : World} {K : Value → World → Prop} {f : FuncId} {args : Array Value} (h : (execOp a.eval o).run P w = .ok (.enter f args) w)
    (hk : Calls P f args w (fun e w'' => ∃ v, e = .returned v ∧ K v w'')) : opC P o a w K := by
  constructor; rw [h]; exact hk
theorem opC_load {dst : Option Tmp} {t : TypeId} {x : Operand} {ty : TypeId} {pos : String} {af : Array Edge} {g : Option (Nat × Bool)} {a : Act} {w : World} {K : Value → World → Prop} {p v : Value} (he : a.eval x = p) (h : (Instr.loadAt t p).run P w = .ok v w) (hk : K v w) :
    opC P ⟨dst, .load t x, ty, pos, af, g⟩ a w K := by
  refine opC_value (v := v) ?_ hk
  simp [execOp, he, h, Result.andThen]
theorem opC_move {dst : Option Tmp} {x : Operand} {ty : TypeId} {pos : String} {af : Array Edge} {g : Option (Nat × Bool)} {a : Act} {w : World} {K : Value → World → Prop} {v : Value} (he : a.eval x = v) (hk : K v w) :
    opC P ⟨dst, .move x, ty, pos, af, g⟩ a w K := by
  refine opC_value (v := v) ?_ hk
  simp only [execOp, he]
  rfl
theorem opC_assign {dst : Option Tmp} {x : Operand} {ty : TypeId} {pos : String} {af : Array Edge} {g : Option (Nat × Bool)} {a : Act} {w : World} {K : Value → World → Prop} {v : Value} (he : a.eval x = v) (hk : K v w) :
    opC P ⟨dst, .assign x, ty, pos, af, g⟩ a w K := by
  refine opC_value (v := v) ?_ hk
  simp only [execOp, he]
  rfl
theorem ev_of {a : Act} {d : Tmp} {v : Value} (h : a.eval (.tmp d) = v) : a.tmps[d]?.getD undef = v := by
  rw [← h, Act.eval, Array.getD_eq_getD_getElem?]
/-- A call of a function by its name. -/
theorem opC_call {dst : Option Tmp} {f : FuncId} {xs : Array Operand} {ts : Array TypeId} {ty : TypeId} {pos : String} {af : Array Edge} {g : Option (Nat × Bool)} {a : Act} {w : World} {K : Value → World → Prop} {args : Array Value} {v : Value}
    (he : ∀ args w, (callFunc f args).run P w = .ok (.enter f args) w) (ha : xs.map a.eval = args) (hk : Calls P f args w (fun e w'' => e = .returned v ∧ Below w.heap.size w w'')) (hv : ∀ w'', Below w.heap.size w w'' → K v w'') :
    opC P ⟨dst, .call { callee := .value (.func f), args := xs, argTypes := ts }, ty, pos, af, g⟩ a w K := by
  refine opC_enter (f := f) (args := args) ?_ (hk.mono fun e w2 h => ⟨_, h.1, hv _ h.2⟩)
  subst ha
  simp [execOp, go_sem, he]
/-- What a call leaves, as a slot keeps it. -/
def ToF (F : Flw) (w : World) (e : Ending) (w' : World) : Prop := ∃ v, e = .returned v ∧ F.p v w' ∧ Below w.heap.size w w'
theorem opC_callF {dst : Option Tmp} {f : FuncId} {xs : Array Operand} {ts : Array TypeId} {ty : TypeId} {pos : String} {af : Array Edge} {g : Option (Nat × Bool)} {a : Act} {w : World} {K : Value → World → Prop} {args : Array Value} {F : Flw}
    (he : ∀ args w, (callFunc f args).run P w = .ok (.enter f args) w) (ha : xs.map a.eval = args) (hk : Calls P f args w (ToF F w)) (hv : ∀ v w'', F.p v w'' → Below w.heap.size w w'' → K v w'') :
    opC P ⟨dst, .call { callee := .value (.func f), args := xs, argTypes := ts }, ty, pos, af, g⟩ a w K := by
  refine opC_enter (f := f) (args := args) ?_ (hk.mono fun e w2 ⟨v, h1, h2, h3⟩ => ⟨v, h1, hv v _ h2 h3⟩)
  subst ha
  simp [execOp, go_sem, he]
theorem opC_alloc {dst : Option Tmp} {t : TypeId} {ty : TypeId} {pos : String} {af : Array Edge} {g : Option (Nat × Bool)} {a : Act} {w : World} {K : Value → World → Prop} {cs : Array Value}
    (h : (Instr.alloc t true (.tuple #[])).run P w = .ok (.pointer (some ⟨w.heap.size, 0, none⟩)) (w.alloc (.cells cs t))) (hk : K (.pointer (some ⟨w.heap.size, 0, none⟩)) (w.alloc (.cells cs t))) : opC P ⟨dst, .alloc t, ty, pos, af, g⟩ a w K := by
  constructor
  rw [show (execOp a.eval ⟨dst, .alloc t, ty, pos, af, g⟩).run P w = .ok (.value (.pointer (some ⟨w.heap.size, 0, none⟩))) (w.alloc (.cells cs t)) by simp [execOp, h, Result.andThen]]
  exact hk
theorem opC_skip {o : Oper} {a : Act} {w w' : World} {K : Value → World → Prop} (h : (execOp a.eval o).run P w = .ok .skip w') (hk : K undef w') : opC P o a w K := by
  constructor; rw [h]; exact hk
/-- A block that was made, from base on. -/
def boxF (base : Nat) (ty : TypeId) (cs : Array Value) : Flw := ⟨fun v w => ∃ g, v = .pointer (some ⟨g, 0, none⟩) ∧ base ≤ g ∧ w.heap[g]? = some (.cells cs ty (0, 0)), fun ⟨g, h1, h2, h3⟩ hb => ⟨g, h1, h2, (hb.block g (Array.getElem?_eq_some_iff.1 h3).1).trans h3⟩⟩
end flow
end Go.Proofs.YtpbfipeinblfgaaGreatDoor
