/-
Regions that draw their order, whose last operations stand in a row. No condition.
The reference's ledger: rows of lines; where a key's live line is. Conditions: it is there.
Rows made in a region that draws its order: an empty one, one of one, appends. No condition.
The reference's Sum: of which amounts it goes, walked. Conditions: the ledger is there.
The reference's Sum, walked. Conditions: the ledger is there.
The reference's add, walked. Conditions: the ledger is there; the legs are there.
-/
import Derived.Test.YtdnnkdldolhbpaaGreatDoorFlowX9
import Derived.Test.YtdnnkdldolhbpaaGreatDoorLedLX9
import Derived.Test.YtdnnkdldolhbpaaGreatDoorChIX9
import Derived.Great.BuildSlice
namespace Go.Proofs.YtdnnkdldolhbpaaGreatDoor
open Go Go.RowKit

section
variable {P : Program}
/-- What a row of operations comes to, one behind the other. -/
def tailQ (P : Program) : List Oper → (Act → World → Prop) → Act → World → Prop
  | [], Q, a, w => Q a w
  | o :: r, Q, a, w => opC P o a w (fun v w' => tailQ P r Q (a.put o.dst v) w')
/-- The operation at i waits for the one ahead of it. -/
def waitsB (ops : Array Oper) (i : Nat) : Bool := match ops[i + 1]? with
  | none => false
  | some o => o.after.any fun e => Region.binds .any e && e.on == i
def chainB (ops : Array Oper) (m : Nat) : Bool := (List.range (ops.size - 1)).all fun i => decide (i < m) || waitsB ops i
def coverT (ops : Array Oper) (m : Nat) : Bool :=
  (List.range m).all fun i => (List.range (m + 1)).any fun k => decide (i < k) && match ops[k]? with
    | none => false
    | some o => o.after.any fun e => Region.binds .any e && e.on == i
theorem chain_of {ops : Array Oper} {m : Nat} (h : chainB ops m = true) {i : Nat} (hm : m ≤ i) {o : Oper} (ho : ops[i + 1]? = some o) : ∃ e ∈ o.after, Region.binds .any e = true ∧ e.on = i := by
  have hs := size_of_some ho
  have := List.all_eq_true.1 h i (List.mem_range.2 (by omega))
  rw [Bool.or_eq_true, decide_eq_true_eq] at this
  rcases this with h1 | h1
  · omega
  · unfold waitsB at h1
    rw [ho] at h1
    simp only [Array.any_eq_true] at h1
    obtain ⟨j, hj, he⟩ := h1
    simp only [Bool.and_eq_true, beq_iff_eq] at he
    exact ⟨_, Array.getElem_mem hj, he.1, he.2⟩
theorem coverT_of {ops : Array Oper} {m : Nat} (h : coverT ops m = true) {i : Nat} (hi : i < m) : ∃ k o, i < k ∧ k ≤ m ∧ ops[k]? = some o ∧ ∃ e ∈ o.after, Region.binds .any e = true ∧ e.on = i := by
  have h1 := List.all_eq_true.1 h i (List.mem_range.2 hi)
  obtain ⟨k, hk, h2⟩ := List.any_eq_true.1 h1
  rw [Bool.and_eq_true, decide_eq_true_eq] at h2
  obtain ⟨h3, h4⟩ := h2
  cases e : ops[k]? with
  | none => rw [e] at h4; cases h4
  | some o =>
    rw [e] at h4
    simp only [Array.any_eq_true] at h4
    obtain ⟨j, hj, he⟩ := h4
    simp only [Bool.and_eq_true, beq_iff_eq] at he
    exact ⟨k, o, h3, by have := List.mem_range.1 hk; omega, e, _, Array.getElem_mem hj, he.1, he.2⟩
theorem cover_all {ops : Array Oper} {listed : Array Bool} {m : Nat} (hc : coverT ops m = true) (hl : ClosedF ops listed) {o : Oper} (ho : ops[m]? = some o) (hr : ∀ e ∈ o.after, Region.binds .any e = true → listed[e.on]? = some true) :
    ∀ n i, m - i = n → i < m → listed[i]? = some true := by
  intro n
  induction n using Nat.strongRecOn with
  | _ n ih =>
    intro i hn hi
    obtain ⟨k, ok, h1, h2, h3, e, he, hb, rfl⟩ := coverT_of hc hi
    by_cases hk : k = m
    · subst hk
      obtain rfl : o = ok := by rw [ho] at h3; injection h3
      exact hr e he hb
    · exact hl k ok h3 (ih (m - k) (by omega) k rfl (by omega)) e he hb
theorem wpAny_tail {ops : Array Oper} {sz : Nat} {Q : Exit → Act → World → Prop} {m : Nat} (hk : FlowOk ops sz) (hch : chainB ops m = true) : ∀ (r pre : List Oper) (fuel : Nat) (listed : Array Bool) (a : Act) (w : World), ops = (pre ++ r).toArray → m ≤ pre.length →
    (∀ i, i < pre.length → listed[i]? = some true) → (∀ i, pre.length ≤ i → i < ops.size → listed[i]? = some false) → listed.size = ops.size → (∀ o ∈ r, o.guard = none) → leftF listed ≤ fuel → tailQ P r (Q .normal) a w → wpAny P .any ops Q fuel listed a w
  | [], pre, fuel, listed, a, w, hops, hm, h1, h2, hs, hg, hf, hq => by
    have hr : Region.ready .any ops listed = [] := by
      rw [List.eq_nil_iff_forall_not_mem]
      intro i hi
      obtain ⟨o', ho', g2, _⟩ := ready_listed hs hi
      have := size_of_some ho'
      rw [hops] at this
      simp at this
      rw [h1 i this] at g2
      cases g2
    cases fuel with
    | zero => exact ⟨hr, hq⟩
    | succ fuel => exact ⟨fun _ => hq, fun i hi => by rw [hr] at hi; cases hi⟩
  | o :: r, pre, fuel, listed, a, w, hops, hm, h1, h2, hs, hg, hf, hq => by
    have hsz : ops.size = pre.length + (r.length + 1) := by rw [hops]; simp
    have hoo : ops[pre.length]? = some o := by rw [hops]; simp
    have hno := h2 pre.length (Nat.le_refl _) (by omega)
    cases fuel with
    | zero => exact absurd hno (left_none (by omega) _)
    | succ fuel =>
      refine ⟨fun hr => ?_, fun i hi => ?_⟩
      · have := all_listed hk hs hr _ _ hoo
        rw [hno] at this
        cases this
      · obtain ⟨o', ho', g2, g3⟩ := ready_listed hs hi
        have his := size_of_some ho'
        have hge : pre.length ≤ i := by
          apply Nat.le_of_not_lt
          intro hlt
          rw [h1 i hlt] at g2
          cases g2
        by_cases hil : i = pre.length
        · subst hil
          obtain rfl : o = o' := by rw [hoo] at ho'; injection ho'
          have hls := left_set g2
          unfold wpOp
          rw [hoo]
          simp only
          have hw : Region.wanted o (yielded ops a.tmps) = true := by unfold Region.wanted; rw [hg o (by simp)]
          rw [if_pos hw]
          refine .inl (wp_of_opC hq fun v w' hv => ?_)
          refine wpAny_tail hk hch r (pre ++ [o]) fuel _ _ _ (by rw [hops]; simp) (by simp; omega) (fun i hi => ?_) (fun i hi his => ?_) (by simp [hs]) (fun o' ho' => hg o' (by simp [ho'])) (by omega) hv
          · simp at hi
            by_cases e : i = pre.length
            · subst e
              exact set_keeps_self (by omega)
            · exact set_keeps (h1 i (by omega))
          · simp at hi
            rw [Array.getElem?_setIfInBounds_ne (by omega)]
            exact h2 i (by omega) his
        · exfalso
          obtain ⟨k, rfl⟩ : ∃ k, i = k + 1 := ⟨i - 1, by omega⟩
          obtain ⟨e, he, hb, rfl⟩ := chain_of hch (i := k) (by omega) ho'
          have := g3 e he hb
          rw [h2 e.on (by omega) (by omega)] at this
          cases this
theorem AtF.restT {ops : Array Oper} {F : Nat → Flw} {a0 a : Act} {listed : Array Bool} {w : World} {t l : List Oper} (hops : ops = (l ++ t).toArray) (hk : FlowOk ops a0.tmps.size) (h : AtF ops F a0 listed a w) (hl : ∀ i, i < l.length → listed[i]? = some true) (hn : ∀ i, l.length ≤ i → i < ops.size → listed[i]? = some false) :
    ∃ f : Nat → Value, a = putF f (l.map (·.dst)) 0 a0 ∧ ∀ (i : Nat) (d : Tmp), (l.map (·.dst))[i]? = some (some d) → (F i).p (f i) w := by
  have hol : ∀ (i : Nat) (x : Oper), l[i]? = some x → ops[i]? = some x := fun i x hx => by
    rw [hops, List.getElem?_toArray, List.getElem?_append_left (List.getElem?_eq_some_iff.1 hx).1]
    exact hx
  have hmap : ∀ (i : Nat) (d : Tmp), (l.map (·.dst))[i]? = some (some d) → ∃ x, l[i]? = some x ∧ x.dst = some d := fun i d hi => by
    rw [List.getElem?_map] at hi
    exact Option.map_eq_some_iff.1 hi
  refine ⟨fun i => match (ops[i]?).bind (·.dst) with | some d => a.eval (.tmp d) | none => undef, ?_, fun i d hi => ?_⟩
  · obtain ⟨s1, s2⟩ := putF_size (fun i => match (ops[i]?).bind (·.dst) with | some d => a.eval (.tmp d) | none => undef) (l.map (·.dst)) 0 a0
    refine act_ext (by rw [s1, h.sz]) (by rw [s2, h.df]) fun d => ?_
    cases e : wr d (l.map (·.dst)) 0 with
    | none =>
      have hw := wr_none e
      rw [putF_old _ _ _ _ _ hw]
      refine h.old d fun j oj hj hdj => ?_
      have hjs := size_of_some hj
      by_cases hjl : j < l.length
      · exfalso
        refine hw j ?_
        rw [List.getElem?_map]
        have : l[j]? = some oj := by
          rw [hops, List.getElem?_toArray, List.getElem?_append_left hjl] at hj
          exact hj
        rw [this]
        simp [hdj]
      · exact hn j (by omega) hjs
    | some j =>
      obtain ⟨-, hj⟩ := wr_some e
      rw [Nat.sub_zero] at hj
      obtain ⟨oj, h1, h2⟩ := hmap j d hj
      have h1' := hol j oj h1
      have hdz := hk.lt j oj d h1' h2
      rw [putF_new _ _ _ _ d j hdz hj (fun i hi => by
        obtain ⟨oi, g1, g2⟩ := hmap i d hi
        exact hk.one j i oj oi d h1' (hol i oi g1) h2 g2)]
      have hd2 : d < a.tmps.size := by rw [h.sz]; exact hdz
      simp [h1', h2, Act.eval, Array.getD, hd2]
  · obtain ⟨oi, g1, g2⟩ := hmap i d hi
    simp only [hol i oi g1, Option.bind_some, g2]
    exact h.new i oi d (hol i oi g1) g2 (hl i (List.getElem?_eq_some_iff.1 g1).1)
theorem wpAny_flow_tail {ops : Array Oper} {l t : List Oper} {ol : Oper} (hops : ops = (l ++ ol :: t).toArray) {F : Nat → Flw} {a0 : Act} {w0 : World} {Q : Exit → Act → World → Prop} (hk : FlowOk ops a0.tmps.size) (hc : coverT ops l.length = true) (hch : chainB ops l.length = true)
    (hs : ∀ (i : Nat) (o : Oper), l[i]? = some o → stepF P ops (ops.toList.map (·.dst)) F a0 w0 i o)
    (hg : ∀ o ∈ ol :: t, o.guard = none)
    (hq : ∀ (f : Nat → Value) w, (∀ (i : Nat) (d : Tmp), (l.map (·.dst))[i]? = some (some d) → (F i).p (f i) w) → Below w0.heap.size w0 w → tailQ P (ol :: t) (Q .normal) (putF f (l.map (·.dst)) 0 a0) w) :
    ∀ (fuel : Nat) (listed : Array Bool) (a : Act) (w : World), leftF listed ≤ fuel → (∀ i, l.length ≤ i → i < ops.size → listed[i]? = some false) → ClosedF ops listed → AtF ops F a0 listed a w → Below w0.heap.size w0 w → wpAny P .any ops Q fuel listed a w := by
  have hlast : ops[l.length]? = some ol := by rw [hops]; simp
  have hsz : ops.size = l.length + (t.length + 1) := by rw [hops]; simp
  have hopl : ∀ (i : Nat) (x : Oper), ops[i]? = some x → i < l.length → l[i]? = some x := fun i x hx hi => by
    rw [hops, List.getElem?_toArray, List.getElem?_append_left (by omega)] at hx
    exact hx
  intro fuel
  induction fuel with
  | zero =>
    intro listed a w hl hn _ _ _
    exact absurd (hn l.length (Nat.le_refl _) (by omega)) (left_none (by omega) _)
  | succ fuel ih =>
    intro listed a w hl hn hcl h hb
    by_cases hall : ∀ i, i < l.length → listed[i]? = some true
    · obtain ⟨f, rfl, hf⟩ := h.restT hops hk hall hn
      exact wpAny_tail hk hch (ol :: t) l (fuel + 1) listed _ w hops (Nat.le_refl _) hall hn h.ls hg hl (hq f w hf hb)
    · refine ⟨fun hr => ?_, fun i hi => ?_⟩
      · have := all_listed hk h.ls hr _ _ hlast
        rw [hn l.length (Nat.le_refl _) (by omega)] at this
        cases this
      · obtain ⟨o, ho, h2, h3⟩ := ready_listed h.ls hi
        have hls := left_set h2
        have his := size_of_some ho
        have hil : i < l.length := by
          apply Nat.lt_of_not_le
          intro hge
          by_cases e : i = l.length
          · subst e
            exact hall fun j hj => cover_all hc hcl ho h3 _ j rfl hj
          · obtain ⟨k, rfl⟩ : ∃ k, i = k + 1 := ⟨i - 1, by omega⟩
            obtain ⟨ed, he, hbd, rfl⟩ := chain_of hch (i := k) (by omega) ho
            have := h3 ed he hbd
            rw [hn ed.on (by omega) (by omega)] at this
            cases this
        have hst := hs i o (hopl i o ho hil) a w (sees_at hk h ho h3) hb
        have hn' : ∀ j, l.length ≤ j → j < ops.size → (listed.setIfInBounds i true)[j]? = some false := fun j hj hjs => by rw [Array.getElem?_setIfInBounds_ne (by omega)]; exact hn j hj hjs
        unfold wpOp
        rw [ho]
        simp only
        split
        · rename_i hw
          rw [if_pos hw] at hst
          refine .inl (wp_of_opC hst fun v w' hv => ?_)
          exact ih _ _ _ (by omega) hn' (hcl.put ho h3) (h.put hk ho hv.1 hv.2) (hb.trans (hv.2.mono hb.size))
        · rename_i hw
          rw [if_neg hw] at hst
          exact ih _ _ _ (by omega) hn' (hcl.put ho h3) (h.put hk ho hst (Below.refl _ _)) hb
/-- THE LAW, the last operations apart: the row of them waits for all the others. -/
theorem wp_region_flow_tail {id : Nat} {l t : List Oper} {ol : Oper} {ops : List Oper} {Q : Exit → Act → World → Prop} {a0 : Act} {w : World} (hops : ops = l ++ ol :: t) (ds ts : List (Option Tmp)) (F : Nat → Flw) (hm : P.follows .mixedOrders = true)
    (hB : flowB ops.toArray a0.tmps.size = true) (hc : coverT ops.toArray l.length = true) (hch : chainB ops.toArray l.length = true) (hd : l.map (·.dst) = ds) (ht : (ol :: t).map (·.dst) = ts) (hg : (ol :: t).all (fun o => o.guard.isNone) = true) (hs : stepsF P ops.toArray (ds ++ ts) F a0 w 0 l)
    (hq : ∀ (f : Nat → Value) w', (∀ (i : Nat) (d : Tmp), ds[i]? = some (some d) → (F i).p (f i) w') → Below w.heap.size w w' → tailQ P (ol :: t) (Q .normal) (putF f ds 0 a0) w') : (Code.region id ops.toArray true).wp P Q a0 w := by
  subst hops hd ht
  refine wp_region_any hm (wpAny_flow_tail (l := l) (ol := ol) (t := t) rfl (F := F) (a0 := a0) (w0 := w) (flowOk hB) hc hch (fun i o ho => ?_) (fun o ho => ?_) hq _ _ _ _ ?_ ?_ ?_ ?_ ?_)
  · have := stepsF_at hs i o ho
    rw [Nat.zero_add] at this
    simpa using this
  · have := List.all_eq_true.1 hg o ho
    simpa using this
  · exact left_new _
  · intro i _ his
    rw [Array.getElem?_replicate, if_pos (by simpa using his)]
  · intro i o _ h
    rw [Array.getElem?_replicate] at h
    split at h <;> cases h
  · refine ⟨by simp, rfl, rfl, fun _ _ => rfl, fun i o d _ _ h => ?_, fun _ _ _ _ => trivial⟩
    rw [Array.getElem?_replicate] at h
    split at h <;> cases h
  · exact ⟨rfl, rfl, rfl, Nat.le_refl _, fun _ _ => rfl⟩
end
end Go.Proofs.YtdnnkdldolhbpaaGreatDoor
namespace Go.Proofs.YtdnnkdldolhbpaaGreatDoor
open Go.ChangeShapes Go.WideShapes Go.ChangeAt Go.RowKit Go.Maps

/-- The reference's lines, as a slice has them. -/
structure RefV (w : World) (E : Nat → Prop) (M : List Li) (A : Option Addr) (V : List LinV) : Prop where
  len : V.length = M.length
  row : Rs linT w w.heap.size A V
  own : ∀ p, A = some p → E p.block
  y : ∀ (i : Nat) v x, V[i]? = some v → M[i]? = some x → v.y = x.y ∧ v.o = x.o ∧ v.n = x.l.length
  r : ∀ (i : Nat) v x, V[i]? = some v → M[i]? = some x → Rs legT w w.heap.size v.A x.l ∧ ∀ p, v.A = some p → E p.block
/-- Block X is the reference's ledger of these lines; its blocks are in E. -/
def RefL (w : World) (X : Nat) (E : Nat → Prop) (M : List Li) : Prop :=
  ∃ (A : Option Addr) (c : Nat) (V : List LinV), Blk w X 29 #[.slice A M.length c] ∧ M.length ≤ c ∧ c ≤ maxLen ∧ RefV w (fun i => E i ∧ i ≠ X) M A V ∧ E X ∧ ∀ i, E i → i < w.heap.size
/-- Numbers that fit, and rows that aren't long. -/
structure Tame (M : List Li) : Prop where
  inn : ∀ x ∈ M, x.y.In ∧ (∀ g ∈ x.l, LegIn g) ∧ x.l.length ≤ 100000 ∧ x.o ≤ 1000000
  len : M.length ≤ 1000000
theorem RefV.same {w w' : World} {E : Nat → Prop} {M : List Li} {A : Option Addr} {V : List LinV} (h : RefV w E M A V) (hk : ∀ i, E i → w'.heap[i]? = w.heap[i]?) (hs : w.heap.size ≤ w'.heap.size) : RefV w' E M A V :=
  ⟨h.len, h.row.same hs (fun p hp => hk _ (h.own p hp)), h.own, h.y, fun i v x hv hx => ⟨(h.r i v x hv hx).1.same hs (fun p hp => hk _ ((h.r i v x hv hx).2 p hp)), (h.r i v x hv hx).2⟩⟩
theorem RefL.same {w w' : World} {X : Nat} {E : Nat → Prop} {M : List Li} (h : RefL w X E M) (hk : ∀ i, E i → w'.heap[i]? = w.heap[i]?) (hs : w.heap.size ≤ w'.heap.size) : RefL w' X E M := by
  obtain ⟨A, c, V, h1, h2, h3, h4, h5, h6⟩ := h
  exact ⟨A, c, V, (hk X h5).trans h1, h2, h3, h4.same (fun i hi => hk i hi.1) hs, h5, fun i hi => Nat.lt_of_lt_of_le (h6 i hi) hs⟩
theorem RefL.lt {w : World} {X : Nat} {E : Nat → Prop} {M : List Li} (h : RefL w X E M) : ∀ i, E i → i < w.heap.size := by
  obtain ⟨A, c, V, h1, h2, h3, h4, h5, h6⟩ := h
  exact h6
theorem RefL.self {w : World} {X : Nat} {E : Nat → Prop} {M : List Li} (h : RefL w X E M) : E X := by
  obtain ⟨A, c, V, h1, h2, h3, h4, h5, h6⟩ := h
  exact h5
theorem RefL.below {w w' : World} {X : Nat} {E : Nat → Prop} {M : List Li} (h : RefL w X E M) (hb : Below w.heap.size w w') : RefL w' X E M :=
  h.same (fun i hi => hb.block i (h.lt i hi)) hb.size
/-- A line, cell by cell. -/
theorem RefV.line {w : World} {E : Nat → Prop} {M : List Li} {A : Option Addr} {V : List LinV} (h : RefV w E M A V) {k : Nat} (hk : k < M.length) : ∃ (b o : Nat) (P : Option Addr) (c : Nat), A = some ⟨b, o, none⟩ ∧ b < w.heap.size ∧
    Rs legT w w.heap.size P (M[k]'hk).l ∧ w.cell? ⟨b, o + k * 6, none⟩ = some (.int .u32 ((M[k]'hk).y.a : Int)) ∧ w.cell? ⟨b, o + k * 6 + 1, none⟩ = some (.int .i32 (M[k]'hk).y.d) ∧ w.cell? ⟨b, o + k * 6 + 2, none⟩ = some (.int .u8 ((M[k]'hk).y.k : Int)) ∧
    w.cell? ⟨b, o + k * 6 + 3, none⟩ = some (.int .u32 ((M[k]'hk).y.s : Int)) ∧ w.cell? ⟨b, o + k * 6 + 4, none⟩ = some (.slice P (M[k]'hk).l.length c) ∧ w.cell? ⟨b, o + k * 6 + 5, none⟩ = some (.int .i64 ((M[k]'hk).o : Int)) := by
  have hkV : k < V.length := by rw [h.len]; exact hk
  obtain ⟨b, o, e, hb, hc⟩ := h.row.at_ hkV
  obtain ⟨hy, ho, hn⟩ := h.y k _ _ (List.getElem?_eq_getElem hkV) (List.getElem?_eq_getElem hk)
  have hr := (h.r k _ _ (List.getElem?_eq_getElem hkV) (List.getElem?_eq_getElem hk)).1
  generalize V[k] = v at *
  obtain ⟨vy, vA, vn, vc, vo⟩ := v
  simp only at hy ho hn hr
  subst hy ho hn
  exact ⟨b, o, vA, vc, e, hb, hr, hc 0 _ rfl, hc 1 _ rfl, hc 2 _ rfl, hc 3 _ rfl, hc 4 _ rfl, hc 5 _ rfl⟩
theorem RefV.snoc {w w' : World} {E E' : Nat → Prop} {M : List Li} {A A' : Option Addr} {V : List LinV} (h : RefV w E M A V) (hE : ∀ i, E i → w'.heap[i]? = w.heap[i]?) (hs : w.heap.size ≤ w'.heap.size) (hEE : ∀ i, E i → E' i) (u : LinV) (x : Li)
    (hu : u.y = x.y ∧ u.o = x.o ∧ u.n = x.l.length) (hR : Rs legT w' w'.heap.size u.A x.l) (hP : ∀ p, u.A = some p → E' p.block) (hrow : Rs linT w' w'.heap.size A' (V ++ [u])) (hown : ∀ p, A' = some p → E' p.block) : RefV w' E' (M ++ [x]) A' (V ++ [u]) := by
  have key : ∀ (i : Nat) v z, (V ++ [u])[i]? = some v → (M ++ [x])[i]? = some z → (V[i]? = some v ∧ M[i]? = some z) ∨ (v = u ∧ z = x) := fun i v z hv hz => by
    by_cases hi : i < M.length
    · rw [List.getElem?_append_left hi] at hz
      rw [List.getElem?_append_left (by rw [h.len]; exact hi)] at hv
      exact .inl ⟨hv, hz⟩
    · rw [List.getElem?_append_right (by omega)] at hz
      rw [List.getElem?_append_right (by rw [h.len]; omega), h.len] at hv
      rcases Nat.eq_zero_or_pos (i - M.length) with e | e
      · rw [e] at hv hz
        simp at hv hz
        exact .inr ⟨hv.symm, hz.symm⟩
      · rw [List.getElem?_eq_none (by simp; omega)] at hz
        cases hz
  refine ⟨by simp [h.len], hrow, hown, fun i v z hv hz => ?_, fun i v z hv hz => ?_⟩
  · rcases key i v z hv hz with ⟨h1, h2⟩ | ⟨rfl, rfl⟩
    · exact h.y i v z h1 h2
    · exact hu
  · rcases key i v z hv hz with ⟨h1, h2⟩ | ⟨rfl, rfl⟩
    · obtain ⟨h3, h4⟩ := h.r i v z h1 h2
      exact ⟨h3.same hs (fun p hp => hE _ (h4 p hp)), fun p hp => hEE _ (h4 p hp)⟩
    · exact ⟨hR, hP⟩
theorem RefL.wider {w : World} {X : Nat} {E E' : Nat → Prop} {M : List Li} (h : RefL w X E M) (hE : ∀ i, E i → E' i) (hlt : ∀ i, E' i → i < w.heap.size) : RefL w X E' M := by
  obtain ⟨A, c, V, h1, h2, h3, h4, h5, h6⟩ := h
  exact ⟨A, c, V, h1, h2, h3, ⟨h4.len, h4.row, fun p hp => ⟨hE _ (h4.own p hp).1, (h4.own p hp).2⟩, h4.y, fun i v x hv hx => ⟨(h4.r i v x hv hx).1, fun p hp => ⟨hE _ ((h4.r i v x hv hx).2 p hp).1, ((h4.r i v x hv hx).2 p hp).2⟩⟩⟩, hE X h5, hlt⟩
def outZ : Option Nat → Int
  | none => -1
  | some i => (i : Int)
theorem liveF_take {κ : Type} [DecidableEq κ] (k : κ) (M : List (Lin κ)) {i : Nat} (hi : i < M.length) : liveL (M.take (i + 1)) k = stepL k i (liveL (M.take i) k) M[i] := by
  rw [List.take_add_one, List.getElem?_eq_getElem hi, Option.toList_some, liveL_snoc, List.length_take_of_le (Nat.le_of_lt hi)]
theorem liveL_lt {κ : Type} [DecidableEq κ] {M : List (Lin κ)} {k : κ} {i : Nat} (h : liveL M k = some i) : i < M.length := by
  obtain ⟨x, hx, _⟩ := liveL_some h
  exact (List.getElem?_eq_some_iff.1 hx).1
end Go.Proofs.YtdnnkdldolhbpaaGreatDoor
namespace Go.Proofs.YtdnnkdldolhbpaaGreatDoor
open Go.ChangeShapes Go.WideShapes Go.ChangeAt Go.RowKit Go.Maps

section
variable {α : Type} {T : Lies α} {P : Program} {t e : TypeId} {bytes : Nat}
/-- A row of nothing, made from base on. -/
def emptyF (base : Nat) (e : TypeId) : Flw := ⟨fun v w => ∃ g, v = .slice (some ⟨g, 0, none⟩) 0 0 ∧ base ≤ g ∧ w.heap[g]? = some (.cells #[] e (0, 0)), fun ⟨g, h1, h2, h3⟩ hb => ⟨g, h1, h2, (hb.block g (Array.getElem?_eq_some_iff.1 h3).1).trans h3⟩⟩
def ownF (T : Lies α) (base : Nat) (e : TypeId) (n : Nat) (l : List α) : Flw := ⟨fun v w => OwnS T e w base v n l, fun h hb => h.below hb⟩
/-- A row of one, made from base on. -/
def oneF (base : Nat) (e : TypeId) (cs : Array Value) : Flw := ⟨fun v w => ∃ g, v = .slice (some ⟨g, 0, none⟩) 1 1 ∧ base ≤ g ∧ Blk w g e cs, fun ⟨g, h1, h2, h3⟩ hb => ⟨g, h1, h2, h3.below hb h3.lt⟩⟩
theorem run_appendE (hT : RowOf T P t e bytes) (w : World) (base : Nat) (ty : TypeId) (g : Nat) (hg : w.heap[g]? = some (.cells #[] e (0, 0))) (hbg : base ≤ g) (B : Nat) (A : Option Addr) (m c : Nat) (news : List α)
    (hR : Rs T w B A news) (hm : news.length = m) (h63 : m ≤ maxLen) (hby : m * bytes ≤ 140737488355328) (hbase : base ≤ w.heap.size) :
    ∃ v' w', (Builtin.append_ #[t, t] ty #[.slice (some ⟨g, 0, none⟩) 0 0, .slice A m c]).run P w = .ok v' w' ∧ OwnS T e w' base v' m news ∧ Below w.heap.size w w' := by
  have hown : OwnS T e w base (.slice (some ⟨g, 0, none⟩) 0 0) 0 [] := ⟨by simp [flatS], .inr ⟨g, 0, #[], rfl, hbg, hg, Nat.le_refl _, Nat.zero_le _, by simp, by simp [flatS]⟩⟩
  rcases Nat.eq_zero_or_pos m with h0 | h0
  · subst h0
    obtain rfl : news = [] := List.eq_nil_of_length_eq_zero hm
    exact ⟨_, w, append_voidS hT w base ty _ 0 _ hown A c, hown, Below.refl _ _⟩
  · obtain ⟨v', w', hr, h2, -, -, -⟩ := run_appendS hT w base ty _ 0 [] hown B A m c news hR hm (by omega) (by simpa using hby) hbase
    refine ⟨v', w', hr, by simpa using h2, ?_⟩
    obtain ⟨b, o, rfl, _, hc⟩ := hR (by omega)
    obtain ⟨i0, z, hi, hz0, hz1, hz2, hz3⟩ := hT.info
    have hgr := run_append_grow (P := P) w t ty e i0 z hT.und hi hz0 ⟨g, 0, none⟩ 0 0 [] (by simp) (fun j v hj => by simp at hj) ⟨b, o, none⟩ m c (flatS T news) (by rw [flatS_len, hm, hz1]) (fun j u hu => by
        obtain ⟨x, hx, hx2⟩ := flatS_cut hT.pos news j u hu
        have := hc _ _ hx _ _ hx2
        rw [show j / T.k * T.k + j % T.k = j by rw [Nat.mul_comm]; exact Nat.div_add_mod j T.k] at this
        rwa [add_plain]) (by omega) (by simp only [maxLen] at h63; omega) (growslice_fits (by omega) (by rw [hz2]; simpa using hby))
    rw [hr] at hgr
    injection hgr with h4 h5
    subst h5
    exact ⟨rfl, rfl, rfl, by simp, fun k hk => heap_alloc_old w.drew _ hk⟩
theorem opC_appendE {dst : Option Tmp} {s x : Operand} {ty : TypeId} {pos : String} {af : Array Edge} {gd : Option (Nat × Bool)} {a : Act} {w : World} {base : Nat} {A : Option Addr} {m c : Nat} {news : List α} (hT : RowOf T P t e bytes)
    (hs : (emptyF base e).p (a.eval s) w) (hx : a.eval x = .slice A m c) (hR : Rs T w w.heap.size A news) (hm : news.length = m) (h63 : m ≤ maxLen ∧ m * bytes ≤ 140737488355328) (hbase : base ≤ w.heap.size) :
    opC P ⟨dst, .call { callee := .builtin .append, args := #[s, x], argTypes := #[t, t] }, ty, pos, af, gd⟩ a w (fun v w' => (ownF T base e m news).p v w' ∧ Below w.heap.size w w') := by
  obtain ⟨g, hv, hbg, hg⟩ := hs
  obtain ⟨v', w', hr, h2, h3⟩ := run_appendE hT w base ty g hg hbg _ A m c news hR hm h63.1 h63.2 hbase
  refine ⟨?_⟩
  unfold execOp
  simp only [resolve, invoke, builtin, Sem.run_bind, Sem.run_pure, Result.andThen_ok, List.map_toArray, List.map_cons, List.map_nil, hv, hx, hr]
  exact ⟨h2, h3⟩
theorem opC_appendS {dst : Option Tmp} {s x : Operand} {ty : TypeId} {pos : String} {af : Array Edge} {gd : Option (Nat × Bool)} {a : Act} {w : World} {K : Value → World → Prop} {base n : Nat} {v : Value} {l : List α} {A : Option Addr} {m c : Nat} {news : List α} (hT : RowOf T P t e bytes)
    (hs : a.eval s = v) (hown : OwnS T e w base v n l) (hx : a.eval x = .slice A m c) (hR : Rs T w w.heap.size A news) (hm : news.length = m) (h63 : n + m ≤ maxLen ∧ (n + m) * bytes ≤ 140737488355328) (hbase : base ≤ w.heap.size)
    (hk : ∀ v' w', OwnS T e w' base v' (n + m) (l ++ news) → w.grownBy w' v.ownBlock → K v' w') :
    opC P ⟨dst, .call { callee := .builtin .append, args := #[s, x], argTypes := #[t, t] }, ty, pos, af, gd⟩ a w K := by
  obtain ⟨v', w', hr, h2, h3, -, -⟩ := run_appendS hT w base ty v n l hown _ A m c news hR hm h63.1 h63.2 hbase
  refine ⟨?_⟩
  unfold execOp
  simp only [resolve, invoke, builtin, Sem.run_bind, Sem.run_pure, Result.andThen_ok, List.map_toArray, List.map_cons, List.map_nil, hs, hx, hr]
  exact hk v' w' h2 h3
end
theorem infoRL14 : (Tryz.prog.info? 79).map (fun i => (i.zero, i.size, i.bytes)) = some (some (.agg #[.int .u32 0, .int .i32 0, .int .u8 0, .int .u32 0, .slice none 0 0, .int .i64 0]), 6, 48) := by kernel_rfl
theorem rowRL14 : RowOf linT Tryz.prog 27 79 48 := RowOf.of (z := .agg #[.int .u32 0, .int .i32 0, .int .u8 0, .int .u32 0, .slice none 0 0, .int .i64 0]) Tryz.underlying27 (by kernel_rfl) rfl (by decide)
theorem opC_empty14 {dst : Option Tmp} {ty : TypeId} {pos : String} {af : Array Edge} {a : Act} {w : World} {base : Nat} (hb : base ≤ w.heap.size) :
    opC Tryz.prog ⟨dst, .buildSlice 27 0 #[], ty, pos, af, none⟩ a w (fun v w' => (emptyF base 79).p v w' ∧ Below w.heap.size w w') := by
  obtain ⟨i0, hi, hz0, hz1, hz2⟩ := info_parts infoRL14
  have hrun : (Instr.buildSlice 27 0 #[]).run Tryz.prog w = .ok (.slice (some ⟨w.heap.size, 0, none⟩) 0 0) (w.alloc (.cells #[] 79)) := by
    simp [Instr.buildSlice, run_underlying Tryz.underlying27, sizeOf, typeInfo, hi, Instr.fill, newRow]
    rw [show Array.map (fun _ => default) (Array.range 0) = (#[] : Array Value) from Array.eq_empty_of_size_eq_zero (by simp)]
  constructor
  rw [show (execOp a.eval ⟨dst, .buildSlice 27 0 #[], ty, pos, af, none⟩).run Tryz.prog w = .ok (.value (.slice (some ⟨w.heap.size, 0, none⟩) 0 0)) (w.alloc (.cells #[] 79)) by
    simp [execOp, hrun, Result.andThen]]
  exact ⟨⟨_, rfl, hb, heap_alloc_new w _⟩, b_alloc w _⟩
theorem opC_one14 {dst : Option Tmp} {x : Operand} {ty : TypeId} {pos : String} {af : Array Edge} {a : Act} {w : World} {base : Nat} {c0 c1 c2 c3 c4 c5 : Value} (hx : a.eval x = .agg #[c0, c1, c2, c3, c4, c5]) (hb : base ≤ w.heap.size) :
    opC Tryz.prog ⟨dst, .buildSlice 27 1 #[(0, x)], ty, pos, af, none⟩ a w (fun v w' => (oneF base 79 #[c0, c1, c2, c3, c4, c5]).p v w' ∧ Below w.heap.size w w') := by
  obtain ⟨i0, hi, hz0, hz1, hz2⟩ := info_parts infoRL14
  have hrun : (Instr.buildSlice 27 1 #[(0, .agg #[c0, c1, c2, c3, c4, c5])]).run Tryz.prog w = .ok (.slice (some ⟨w.heap.size, 0, none⟩) 1 1) (w.alloc (.cells #[c0, c1, c2, c3, c4, c5] 79)) := by
    refine run_buildSlice w 27 79 1 _ #[c0, c1, c2, c3, c4, c5] i0 _ Tryz.underlying27 hi hz0 (by rw [hz1]; decide) (by rw [hz1]; decide) ?_
    rw [hz1]
    simp [Instr.fill, Value.cells]
    apply Array.toList_inj.1
    simp [List.range_succ]
  constructor
  rw [show (execOp a.eval ⟨dst, .buildSlice 27 1 #[(0, x)], ty, pos, af, none⟩).run Tryz.prog w = .ok (.value (.slice (some ⟨w.heap.size, 0, none⟩) 1 1)) (w.alloc (.cells #[c0, c1, c2, c3, c4, c5] 79)) by
    simp [execOp, hx, hrun, Result.andThen]]
  exact ⟨⟨_, rfl, hb, Blk.new w _ _⟩, b_alloc w _⟩
/-- A ledger of the lines of a slice, made. -/
theorem opC_box14 {dst : Option Tmp} {x : Operand} {ty : TypeId} {pos : String} {af : Array Edge} {a : Act} {w : World} {K : Value → World → Prop} {v : Value} (hx : a.eval x = .agg #[v])
    (hk : K (.pointer (some ⟨w.heap.size, 0, none⟩)) (w.alloc (.cells #[v] 29))) : opC Tryz.prog ⟨dst, .box 29 x, ty, pos, af, none⟩ a w K := by
  constructor
  rw [show (execOp a.eval ⟨dst, .box 29 x, ty, pos, af, none⟩).run Tryz.prog w = .ok (.value (.pointer (some ⟨w.heap.size, 0, none⟩))) (w.alloc (.cells #[v] 29)) by
    simp [execOp, hx]
    rfl]
  exact hk
theorem ledger_load14 {w : World} {g : Nat} {v : Value} (h : Blk w g 29 #[v]) : (Instr.loadAt 27 (.pointer (some ⟨g, 0, none⟩))).run Tryz.prog w = .ok v w := by
  have x0 := h.cell 0
  simp at x0
  go_simp
theorem refent_load14 {w : World} {g : Nat} {a b c d e : Value} (h : Blk w g 77 #[a, b, c, d, e]) : (Instr.loadAt 77 (.pointer (some ⟨g, 0, none⟩))).run Tryz.prog w = .ok (.agg #[a, b, c, d, e]) w := by
  have x0 := h.cell 0
  have x1 := h.cell 1
  have x2 := h.cell 2
  have x3 := h.cell 3
  have x4 := h.cell 4
  simp at x0 x1 x2 x3 x4
  go_simp
end Go.Proofs.YtdnnkdldolhbpaaGreatDoor
namespace Go.Proofs.YtdnnkdldolhbpaaGreatDoor
open Go.ChangeShapes Go.WideShapes Go.ChangeAt Go.RowKit Go.Maps

def amtG (c : Nat) : List (Nat × Int) → List Int
  | [] => []
  | g :: r => if g.1 = c then g.2 :: amtG c r else amtG c r
def amtL (p : Ky → Bool) (c : Nat) : List Li → List Int
  | [] => []
  | x :: r => (if p x.y then amtG c x.l else []) ++ amtL p c r
theorem amtG_append (c : Nat) : ∀ l m, amtG c (l ++ m) = amtG c l ++ amtG c m
  | [], m => rfl
  | g :: r, m => by
    simp only [List.cons_append, amtG]
    split
    · rw [amtG_append c r m]; rfl
    · exact amtG_append c r m
theorem amtL_append (p : Ky → Bool) (c : Nat) : ∀ l m, amtL p c (l ++ m) = amtL p c l ++ amtL p c m
  | [], m => rfl
  | g :: r, m => by simp only [List.cons_append, amtL, amtL_append p c r m, List.append_assoc]
theorem amtG_take (c : Nat) {l : List (Nat × Int)} {j : Nat} (hj : j < l.length) : amtG c (l.take (j + 1)) = amtG c (l.take j) ++ (if (l[j]).1 = c then [(l[j]).2] else []) := by
  rw [List.take_add_one, List.getElem?_eq_getElem hj, Option.toList_some, amtG_append]
  congr 1
theorem amtL_take (p : Ky → Bool) (c : Nat) {M : List Li} {k : Nat} (hk : k < M.length) : amtL p c (M.take (k + 1)) = amtL p c (M.take k) ++ (if p (M[k]).y then amtG c (M[k]).l else []) := by
  rw [List.take_add_one, List.getElem?_eq_getElem hk, Option.toList_some, amtL_append]
  congr 1
  simp [amtL]
theorem sumO_more {L : List Int} (R : List Int) (h : sumO L = none) : sumO (L ++ R) = none := sumO_stop _ L.length (by rw [List.take_left]; exact h)
theorem sumO_snoc (L : List Int) (z : Int) : sumO (L ++ [z]) = sumF (sumO L) z := by unfold sumO; rw [List.foldl_append]; rfl
theorem sum_none (p : Ky → Bool) (c : Nat) {M : List Li} {k j : Nat} (hk : k < M.length) (hp : p (M[k]).y = true) (h : sumO (amtL p c (M.take k) ++ amtG c ((M[k]).l.take j)) = none) : sumO (amtL p c M) = none := by
  have h1 := amtL_take p c hk
  rw [if_pos hp] at h1
  have h2 : amtG c (M[k]).l = amtG c ((M[k]).l.take j) ++ amtG c ((M[k]).l.drop j) := by rw [← amtG_append, List.take_append_drop]
  have h3 : amtL p c M = amtL p c (M.take (k + 1)) ++ amtL p c (M.drop (k + 1)) := by rw [← amtL_append, List.take_append_drop]
  rw [h3, h1, h2, ← List.append_assoc, List.append_assoc]
  exact sumO_more _ h
def sumW (o : Option Int) : Value := .tuple #[.int .i64 (o.getD 0), .bool o.isSome]
def pSum (b : Bool) (a : Nat) (y : Ky) : Bool := b || y.a == a
end Go.Proofs.YtdnnkdldolhbpaaGreatDoor
namespace Go.Proofs.YtdnnkdldolhbpaaGreatDoor
open Go.ChangeShapes Go.WideShapes Go.ChangeAt Go.RowKit Go.Maps

set_option maxRecDepth 100000 in
set_option maxHeartbeats 8000000 in
theorem RSum_any (X : Nat) (E : Nat → Prop) (M : List Li) (a : Nat) (ha : a < 4294967296) (b : Bool) (ac : Nat) (hac : ac < 256) (w : World) (h : RefL w X E M) (hT : Tame M) :
    Calls Tryz.prog 85 #[.pointer (some ⟨X, 0, none⟩), .int .u32 (a : Int), .bool b, .int .u8 (ac : Int)] w (Ret (sumW (sumO (amtL (pSum b a) ac M))) w) := by
  have hEl := h.lt
  obtain ⟨A, c, V, hX, hc, hm, hV, hE, _⟩ := h
  have x0 := hX.cell 0
  simp at x0
  have HV := Lib.hid hV
  have HT := Lib.hid hT
  have hlen := hT.len
  clear hV hT hX hE hEl
  go_enter Tryz.func85, Tryz.ntmps85
  go_wp2_with fail
  go_loopw [10, 12, 14, 15, 16, 22] (fun v _ _ _ _ i wr => ∃ (k : Nat) (s : Int), k ≤ M.length ∧ i = .int .i64 k ∧ v = .int .i64 s ∧ Hid (sumO (amtL (pSum b a) ac (M.take k)) = some s) ∧ Hid (Below w.heap.size w wr)) (fun _ _ _ _ _ i _ => M.length - (intOf i).toNat)
  case atStart => exact ⟨0, 0, Nat.zero_le _, rfl, rfl, Lib.hid rfl, Lib.hid (Below.refl _ _)⟩
  case round =>
    obtain ⟨k, s, hk, rfl, rfl, HS, HBL⟩ := hrel
    by_cases hlt : k < M.length
    · obtain ⟨g, o, P, cp, rfl, hb1, hRs, d0, d1, d2, d3, d4, d5⟩ := HV.out.line hlt
      have hcell : ∀ {p : Addr} {v : Value}, p.block = g → w.cell? p = some v → wr.cell? p = some v := fun hp hv => (HBL.out.cell (by rw [hp]; exact hb1)).trans hv
      have d0 := hcell rfl d0
      have d1 := hcell rfl d1
      have d2 := hcell rfl d2
      have d3 := hcell rfl d3
      have d4 := hcell rfl d4
      have d5 := hcell rfl d5
      clear hcell
      have hst := amtL_take (pSum b a) ac hlt
      have hsn := fun j => sum_none (pSum b a) ac (j := j) hlt
      obtain ⟨x, hx⟩ : ∃ x, M[k] = x := ⟨_, rfl⟩
      have hin := HT.out.inn x (by rw [← hx]; exact List.getElem_mem hlt)
      rw [hx] at d0 d1 d2 d3 d4 d5 hst hRs
      simp only [hx] at hsn
      have HST := Lib.hid hst
      have HSN := Lib.hid hsn
      have hI := hin.2.1
      have hl5 := hin.2.2.1
      have hxa := hin.1.1
      obtain ⟨⟨xa, xd, xk, xs⟩, xl, xo⟩ := x
      simp only at d0 d1 d2 d3 d4 d5 hI hl5 hRs hxa
      have HI := Lib.hid hI
      have HR := Lib.hid hRs
      have HB1 := Lib.hid (HBL.out.alloc HBL.out.size (.cells #[.int .u32 (xa : Int), .int .i32 xd, .int .u8 (xk : Int), .int .u32 (xs : Int), .slice P xl.length cp, .int .i64 (xo : Int)] 79))
      have HN1 := Lib.hid (Blk.new wr 79 #[.int .u32 (xa : Int), .int .i32 xd, .int .u8 (xk : Int), .int .u32 (xs : Int), .slice P xl.length cp, .int .i64 (xo : Int)])
      clear hx hst hsn hin hI hRs
      go_upto_region 5 with (fail)
      obtain ⟨W, hW⟩ : ∃ W, wr.alloc (.cells #[.int .u32 (xa : Int), .int .i32 xd, .int .u8 (xk : Int), .int .u32 (xs : Int), .slice P xl.length cp, .int .i64 (xo : Int)] 79) = W := ⟨_, rfl⟩
      rw [hW] at HB1 HN1 ⊢
      clear hW d0 d1 d2 d3 d4 d5 HBL
      have e0 := HN1.out.cell 0
      have e1 := HN1.out.cell 1
      have e2 := HN1.out.cell 2
      have e3 := HN1.out.cell 3
      have e4 := HN1.out.cell 4
      have e5 := HN1.out.cell 5
      simp at e0 e1 e2 e3 e4 e5
      cases hp : pSum b a ⟨xa, xd, xk, xs⟩
      · have hp' := hp
        unfold pSum at hp'
        simp at hp'
        obtain ⟨rfl, hxne⟩ := hp'
        have hs2 := HST.out
        simp only at hs2
        rw [hp] at hs2
        have HS2 : Hid (sumO (amtL (pSum false a) ac (M.take (k + 1))) = some s) := Lib.hid (by rw [hs2]; simpa using HS.out)
        have hxne' : ¬ (xa : Int) = (a : Int) := by omega
        clear hs2 hp
        go_wp2_with fail
        go_roundw
        case rel => exact ⟨k + 1, s, by omega, by go_num, rfl, HS2, HB1⟩
        case measure => simp [intOf]; omega
      · have hp2 : b = true ∨ (b = false ∧ xa = a) := by
          unfold pSum at hp
          cases b <;> simp at hp ⊢
          exact hp
        rcases hp2 with rfl | ⟨rfl, rfl⟩
        · have hpp := hp
          clear hp
          go_wp2_with fail
          go_loopw [10, 14, 15, 16, 40] (fun v _ _ _ i wr => ∃ (j : Nat) (s2 : Int), j ≤ xl.length ∧ i = .int .i64 j ∧ v = .int .i64 s2 ∧ Hid (sumO (amtL (pSum true a) ac (M.take k) ++ amtG ac (xl.take j)) = some s2) ∧ Hid (Below w.heap.size w wr)) (fun _ _ _ _ i _ => xl.length - (intOf i).toNat)
          case atStart => exact ⟨0, s, Nat.zero_le _, rfl, rfl, Lib.hid (by rw [List.take_zero]; unfold amtG; rw [List.append_nil]; exact HS.out), HB1⟩
          case round =>
            obtain ⟨j, s2, hj, rfl, rfl, HS2, HBJ⟩ := hrel
            by_cases hjl : j < xl.length
            · obtain ⟨b1, o1, rfl, hb2, d0, d1⟩ := HR.out.leg hjl
              have d0 := (HBJ.out.cell (p := ⟨b1, o1 + j * 2, none⟩) hb2).trans d0
              have d1 := (HBJ.out.cell (p := ⟨b1, o1 + j * 2 + 1, none⟩) hb2).trans d1
              have hgt := amtG_take ac hjl
              have hno := HSN.out (j + 1)
              obtain ⟨_, z0, z1⟩ := HI.out _ (List.getElem_mem hjl)
              obtain ⟨x, hx⟩ : ∃ x, (xl[j]).1 = x := ⟨_, rfl⟩
              obtain ⟨z, hz⟩ : ∃ z, (xl[j]).2 = z := ⟨_, rfl⟩
              rw [hx] at d0 hgt
              rw [hz] at d1 z0 z1 hgt
              have hfi := sumO_fits _ _ HS2.out
              have HB2 := Lib.hid (HBJ.out.alloc HBJ.out.size (.cells #[.int .u8 (x : Int), .int .i64 z] 130))
              have HN2 := Lib.hid (Blk.new wr 130 #[.int .u8 (x : Int), .int .i64 z])
              have HGT := Lib.hid hgt
              have HNO := Lib.hid hno
              clear hx hz hgt hno
              go_upto_region 9 with (fail)
              obtain ⟨W3, hW⟩ : ∃ W, wr.alloc (.cells #[.int .u8 (x : Int), .int .i64 z] 130) = W := ⟨_, rfl⟩
              rw [hW] at HB2 HN2 ⊢
              clear hW d0 d1
              have d0 := HN2.out.cell 0
              have d1 := HN2.out.cell 1
              simp at d0 d1
              by_cases hxc : x = ac
              · subst hxc
                have hg2 := HGT.out
                rw [if_pos rfl] at hg2
                have hs3 : sumO (amtL (pSum true a) x (M.take k) ++ amtG x (xl.take (j + 1))) = if Fits (s2 + z) then some (s2 + z) else none := by
                  rw [hg2, ← List.append_assoc, sumO_snoc, HS2.out]
                  rfl
                have hC := fun W => RefCAdd_any s2 z hfi ⟨z0, z1⟩ W
                by_cases hf : Fits (s2 + z)
                · rw [if_pos hf] at hs3
                  simp only [if_pos hf] at hC
                  have HS3 := Lib.hid hs3
                  clear hs3 hg2 hf
                  go_wp2_with fail
                  refine (hC _).mono ?_
                  rintro e w4 ⟨rfl, rfl⟩
                  clear hC
                  go_wp2_with fail
                  go_roundw
                  case rel => exact ⟨j + 1, s2 + z, by omega, by go_num, rfl, HS3, HB2⟩
                  case measure => simp [intOf]; omega
                · rw [if_neg hf] at hs3
                  simp only [if_neg hf] at hC
                  have hz2 : sumO (amtL (pSum true a) x M) = none := HNO.out hpp hs3
                  have HZ2 := Lib.hid hz2
                  clear hs3 hg2 hf hz2
                  go_wp2_with fail
                  refine (hC _).mono ?_
                  rintro e w4 ⟨rfl, rfl⟩
                  clear hC
                  go_wp2_with fail
                  go_ret2
                  exact ⟨by rw [HZ2.out]; rfl, HB2.out⟩
              · have hg2 := HGT.out
                rw [if_neg hxc, List.append_nil] at hg2
                have HS3 : Hid (sumO (amtL (pSum true a) ac (M.take k) ++ amtG ac (xl.take (j + 1))) = some s2) := Lib.hid (by rw [hg2]; exact HS2.out)
                have hxc' : ¬ (x : Int) = (ac : Int) := by omega
                clear hg2
                go_wp2_with fail
                go_roundw
                case rel => exact ⟨j + 1, s2, by omega, by go_num, rfl, HS3, HB2⟩
                case measure => simp [intOf]; omega
            · have hjk : j = xl.length := by omega
              subst hjk
              have hs3 := HST.out
              rw [if_pos hpp] at hs3
              have HS3 : Hid (sumO (amtL (pSum true a) ac (M.take (k + 1))) = some s2) := Lib.hid (by
                rw [hs3]
                have := HS2.out
                rw [List.take_length] at this
                exact this)
              clear hs3
              go_wp2_with fail
              go_roundw
              case rel => exact ⟨k + 1, s2, by omega, by go_num, rfl, HS3, HBJ⟩
              case measure => simp [intOf]; omega
        · have hpp := hp
          clear hp
          go_wp2_with fail
          go_loopw [10, 14, 15, 16, 40] (fun v _ _ _ i wr => ∃ (j : Nat) (s2 : Int), j ≤ xl.length ∧ i = .int .i64 j ∧ v = .int .i64 s2 ∧ Hid (sumO (amtL (pSum false xa) ac (M.take k) ++ amtG ac (xl.take j)) = some s2) ∧ Hid (Below w.heap.size w wr)) (fun _ _ _ _ i _ => xl.length - (intOf i).toNat)
          case atStart => exact ⟨0, s, Nat.zero_le _, rfl, rfl, Lib.hid (by rw [List.take_zero]; unfold amtG; rw [List.append_nil]; exact HS.out), HB1⟩
          case round =>
            obtain ⟨j, s2, hj, rfl, rfl, HS2, HBJ⟩ := hrel
            by_cases hjl : j < xl.length
            · obtain ⟨b1, o1, rfl, hb2, d0, d1⟩ := HR.out.leg hjl
              have d0 := (HBJ.out.cell (p := ⟨b1, o1 + j * 2, none⟩) hb2).trans d0
              have d1 := (HBJ.out.cell (p := ⟨b1, o1 + j * 2 + 1, none⟩) hb2).trans d1
              have hgt := amtG_take ac hjl
              have hno := HSN.out (j + 1)
              obtain ⟨_, z0, z1⟩ := HI.out _ (List.getElem_mem hjl)
              obtain ⟨x, hx⟩ : ∃ x, (xl[j]).1 = x := ⟨_, rfl⟩
              obtain ⟨z, hz⟩ : ∃ z, (xl[j]).2 = z := ⟨_, rfl⟩
              rw [hx] at d0 hgt
              rw [hz] at d1 z0 z1 hgt
              have hfi := sumO_fits _ _ HS2.out
              have HB2 := Lib.hid (HBJ.out.alloc HBJ.out.size (.cells #[.int .u8 (x : Int), .int .i64 z] 130))
              have HN2 := Lib.hid (Blk.new wr 130 #[.int .u8 (x : Int), .int .i64 z])
              have HGT := Lib.hid hgt
              have HNO := Lib.hid hno
              clear hx hz hgt hno
              go_upto_region 9 with (fail)
              obtain ⟨W3, hW⟩ : ∃ W, wr.alloc (.cells #[.int .u8 (x : Int), .int .i64 z] 130) = W := ⟨_, rfl⟩
              rw [hW] at HB2 HN2 ⊢
              clear hW d0 d1
              have d0 := HN2.out.cell 0
              have d1 := HN2.out.cell 1
              simp at d0 d1
              by_cases hxc : x = ac
              · subst hxc
                have hg2 := HGT.out
                rw [if_pos rfl] at hg2
                have hs3 : sumO (amtL (pSum false xa) x (M.take k) ++ amtG x (xl.take (j + 1))) = if Fits (s2 + z) then some (s2 + z) else none := by
                  rw [hg2, ← List.append_assoc, sumO_snoc, HS2.out]
                  rfl
                have hC := fun W => RefCAdd_any s2 z hfi ⟨z0, z1⟩ W
                by_cases hf : Fits (s2 + z)
                · rw [if_pos hf] at hs3
                  simp only [if_pos hf] at hC
                  have HS3 := Lib.hid hs3
                  clear hs3 hg2 hf
                  go_wp2_with fail
                  refine (hC _).mono ?_
                  rintro e w4 ⟨rfl, rfl⟩
                  clear hC
                  go_wp2_with fail
                  go_roundw
                  case rel => exact ⟨j + 1, s2 + z, by omega, by go_num, rfl, HS3, HB2⟩
                  case measure => simp [intOf]; omega
                · rw [if_neg hf] at hs3
                  simp only [if_neg hf] at hC
                  have hz2 : sumO (amtL (pSum false xa) x M) = none := HNO.out hpp hs3
                  have HZ2 := Lib.hid hz2
                  clear hs3 hg2 hf hz2
                  go_wp2_with fail
                  refine (hC _).mono ?_
                  rintro e w4 ⟨rfl, rfl⟩
                  clear hC
                  go_wp2_with fail
                  go_ret2
                  exact ⟨by rw [HZ2.out]; rfl, HB2.out⟩
              · have hg2 := HGT.out
                rw [if_neg hxc, List.append_nil] at hg2
                have HS3 : Hid (sumO (amtL (pSum false xa) ac (M.take k) ++ amtG ac (xl.take (j + 1))) = some s2) := Lib.hid (by rw [hg2]; exact HS2.out)
                have hxc' : ¬ (x : Int) = (ac : Int) := by omega
                clear hg2
                go_wp2_with fail
                go_roundw
                case rel => exact ⟨j + 1, s2, by omega, by go_num, rfl, HS3, HB2⟩
                case measure => simp [intOf]; omega
            · have hjk : j = xl.length := by omega
              subst hjk
              have hs3 := HST.out
              rw [if_pos hpp] at hs3
              have HS3 : Hid (sumO (amtL (pSum false xa) ac (M.take (k + 1))) = some s2) := Lib.hid (by
                rw [hs3]
                have := HS2.out
                rw [List.take_length] at this
                exact this)
              clear hs3
              go_wp2_with fail
              go_roundw
              case rel => exact ⟨k + 1, s2, by omega, by go_num, rfl, HS3, HBJ⟩
              case measure => simp [intOf]; omega
    · have hkl : k = M.length := by omega
      subst hkl
      have HF := HS.out
      rw [List.take_length] at HF
      have HF := Lib.hid HF
      go_wp2_with fail
      go_ret2
      exact ⟨by rw [HF.out]; rfl, HBL.out⟩
end Go.Proofs.YtdnnkdldolhbpaaGreatDoor
namespace Go.Proofs.YtdnnkdldolhbpaaGreatDoor
open Go.ChangeShapes Go.WideShapes Go.ChangeAt Go.RowKit Go.Maps

def addOk (M : List Li) (x : Li) (l : List (Nat × Int)) : Prop := ∀ g ∈ l, (sumO (amtL (pSum false x.y.a) g.1 (M ++ [x]))).isSome = true ∧ (sumO (amtL (pSum true 0) g.1 (M ++ [x]))).isSome = true
def RAddPost (w : World) (X : Nat) (E : Nat → Prop) (M : List Li) (x : Li) (e : Ending) (w' : World) : Prop :=
  (addOk M x x.l → e = .returned (.int .i64 0) ∧ Chg (fun i => i = X) w w' ∧ ∃ E', RefL w' X E' (M ++ [x]) ∧ ∀ i, E' i → E i ∨ w.heap.size ≤ i) ∧ (¬ addOk M x x.l → e = .returned (.int .i64 12) ∧ Below w.heap.size w w')
set_option maxRecDepth 100000 in
set_option maxHeartbeats 8000000 in
theorem RAdd_any (X : Nat) (E : Nat → Prop) (M : List Li) (y : Ky) (P : Option Addr) (n c : Nat) (l : List (Nat × Int)) (o : Nat) (w : World) (h : RefL w X E M) (hT : Tame (M ++ [⟨y, l, o⟩])) (hR : Rs legT w w.heap.size P l) (hn : l.length = n) (hP : ∀ p, P = some p → E p.block ∧ p.block ≠ X) :
    Calls Tryz.prog 57 #[.pointer (some ⟨X, 0, none⟩), entV y (.slice P n c), .int .i64 (o : Int)] w (RAddPost w X E M ⟨y, l, o⟩) := by
  unfold entV entC
  subst hn
  obtain ⟨KV, hKV⟩ : ∃ KV : Array Value, KV = #[.int .u32 (y.a : Int), .int .i32 y.d, .int .u8 (y.k : Int), .int .u32 (y.s : Int), .slice P l.length c] := ⟨_, rfl⟩
  have hQ0 := Blk.new w 77 KV
  have hB0 := b_alloc w (.cells KV 77)
  have hElt := h.lt
  have hEX := h.self
  have hL0 := h.below hB0
  obtain ⟨A, cM, V, hX, hc, hm, hV, hE, hEl⟩ := hL0
  subst hKV
  obtain ⟨W0, hW⟩ : ∃ W, w.alloc (.cells #[.int .u32 (y.a : Int), .int .i32 y.d, .int .u8 (y.k : Int), .int .u32 (y.s : Int), .slice P l.length c] 77) = W := ⟨_, rfl⟩
  have HW := Lib.hid hW
  rw [hW] at hQ0 hB0 hV hX hEl
  have HQ0 := Lib.hid hQ0
  have HB0 := Lib.hid hB0
  have HV := Lib.hid hV
  have HX := Lib.hid hX
  have HT := Lib.hid hT
  have HRP := Lib.hid ((hR.below hB0).more hB0.size)
  have HP := Lib.hid hP
  have HEl := Lib.hid hElt
  have HEX := Lib.hid hEX
  have hlen : M.length + 1 ≤ 1000000 := by have := hT.len; simpa using this
  have hll : l.length ≤ 100000 := (hT.inn ⟨y, l, o⟩ (by simp)).2.2.1
  clear hW hV hX hEl hT hE h hR hP hElt hEX hQ0 hB0
  have HR : Hid (Rs linT W0 W0.heap.size A V) := Lib.hid HV.out.row
  have HLEN : V.length = M.length := HV.out.len
  have HML : Hid (M.length ≤ maxLen ∧ M.length * 48 ≤ 140737488355328) := Lib.hid (by unfold maxLen; omega)
  have LX : ∀ W', Below W0.heap.size W0 W' → (Instr.loadAt 27 (.pointer (some ⟨X, 0, none⟩))).run Tryz.prog W' = .ok (.slice A M.length cM) W' := fun W' hb => ledger_load14 (HX.out.below hb HX.out.lt)
  have LE : ∀ W', Below W0.heap.size W0 W' → (Instr.loadAt 77 (.pointer (some ⟨w.heap.size, 0, none⟩))).run Tryz.prog W' = .ok (.agg #[.int .u32 (y.a : Int), .int .i32 y.d, .int .u8 (y.k : Int), .int .u32 (y.s : Int), .slice P l.length c]) W' := fun W' hb => refent_load14 (HQ0.out.below hb HQ0.out.lt)
  go_enter Tryz.func57, Tryz.ntmps57
  go_upto_region 1 with (fail)
  rw [HW.out]
  clear HW
  refine wp_region_flow_tail (l := [{ dst := some 14, op := Go.Op.buildSlice 27 0 #[], type := 27, pos := "ref.go:56", after := #[], guard := none }, { dst := some 15, op := Go.Op.move (Go.Operand.tmp 0), type := 26, pos := "ref.go:56", after := #[], guard := none }, { dst := some 16, op := Go.Op.nilCheck (Go.Operand.tmp 15), type := 0, pos := "ref.go:56", after := #[{ on := 1, ground := Go.Ground.data }], guard := none }, { dst := some 17, op := Go.Op.fieldAddr 29 (Go.Operand.tmp 16) 0, type := 0, pos := "ref.go:56", after := #[{ on := 2, ground := Go.Ground.data }], guard := none }, { dst := some 18, op := Go.Op.load 27 (Go.Operand.tmp 17), type := 27, pos := "ref.go:56", after := #[{ on := 3, ground := Go.Ground.data }], guard := none }, { dst := some 19, op := Go.Op.call { callee := Go.Callee.builtin Go.Builtin.append, args := #[Go.Operand.tmp 14, Go.Operand.tmp 18], argTypes := #[27, 27] }, type := 27, pos := "ref.go:56", after := #[{ on := 0, ground := Go.Ground.data }, { on := 4, ground := Go.Ground.data }], guard := none }, { dst := some 20, op := Go.Op.load 77 (Go.Operand.tmp 4), type := 77, pos := "ref.go:56", after := #[], guard := none }, { dst := some 21, op := Go.Op.move (Go.Operand.tmp 2), type := 3, pos := "ref.go:56", after := #[], guard := none }, { dst := some 22, op := Go.Op.build 79 #[(0, Go.Operand.tmp 20), (1, Go.Operand.tmp 21)], type := 79, pos := "ref.go:56", after := #[{ on := 6, ground := Go.Ground.data }, { on := 7, ground := Go.Ground.data }], guard := none }, { dst := some 23, op := Go.Op.buildSlice 27 1 #[(0, Go.Operand.tmp 22)], type := 27, pos := "ref.go:56", after := #[{ on := 8, ground := Go.Ground.data }], guard := none }]) rfl [some 14, some 15, some 16, some 17, some 18, some 19, some 20, some 21, some 22, some 23] [some 24, some 25, some 26, some 7] (fun i => ([emptyF W0.heap.size 79, .is (.pointer (some ⟨X, 0, none⟩)), .is (.pointer (some ⟨X, 0, none⟩)), .is (.pointer (some ⟨X, 0, none⟩)), .is (.slice A M.length cM), ownF linT W0.heap.size 79 M.length V, .is (.agg #[.int .u32 (y.a : Int), .int .i32 y.d, .int .u8 (y.k : Int), .int .u32 (y.s : Int), .slice P l.length c]), .is (.int .i64 (o : Int)), .is (.agg #[.int .u32 (y.a : Int), .int .i32 y.d, .int .u8 (y.k : Int), .int .u32 (y.s : Int), .slice P l.length c, .int .i64 (o : Int)]), oneF W0.heap.size 79 #[.int .u32 (y.a : Int), .int .i32 y.d, .int .u8 (y.k : Int), .int .u32 (y.s : Int), .slice P l.length c, .int .i64 (o : Int)]] : List Flw).getD i .any) (by kernel_rfl) (by kernel_rfl) (by kernel_rfl) (by kernel_rfl) rfl rfl (by kernel_rfl) ?_ ?_
  · skip
    refine ⟨step_free rfl (fun aF wF hs hb => ?_), ?_⟩
    · exact opC_empty14 hb.size
    refine ⟨step_free rfl (fun aF wF hs hb => ?_), ?_⟩
    · obtain ⟨x0, -⟩ := hs
      have e0 : aF.eval (.tmp 0) = .pointer (some ⟨X, 0, none⟩) := x0
      exact opC_move e0 ⟨rfl, below_same wF⟩
    refine ⟨step_free rfl (fun aF wF hs hb => ?_), ?_⟩
    · obtain ⟨x0, -⟩ := hs
      have e0 : aF.eval (.tmp 15) = .pointer (some ⟨X, 0, none⟩) := x0
      refine opC_value (v := .pointer (some ⟨X, 0, none⟩)) ?_ ⟨rfl, below_same wF⟩
      have t0 := ev_of e0
      go_simp
    refine ⟨step_free rfl (fun aF wF hs hb => ?_), ?_⟩
    · obtain ⟨x0, -⟩ := hs
      have e0 : aF.eval (.tmp 16) = .pointer (some ⟨X, 0, none⟩) := x0
      refine opC_value (v := .pointer (some ⟨X, 0, none⟩)) ?_ ⟨rfl, below_same wF⟩
      have t0 := ev_of e0
      go_simp
    refine ⟨step_free rfl (fun aF wF hs hb => ?_), ?_⟩
    · obtain ⟨x0, -⟩ := hs
      have e0 : aF.eval (.tmp 17) = .pointer (some ⟨X, 0, none⟩) := x0
      exact opC_load e0 (LX wF hb) ⟨rfl, below_same wF⟩
    refine ⟨step_free rfl (fun aF wF hs hb => ?_), ?_⟩
    · obtain ⟨x0, x1, -⟩ := hs
      have e0 : (emptyF W0.heap.size 79).p (aF.eval (.tmp 14)) wF := x0
      have e1 : aF.eval (.tmp 18) = .slice A M.length cM := x1
      exact opC_appendE rowRL14 e0 e1 ((HR.out.below hb).more hb.size) HLEN HML.out hb.size
    refine ⟨step_free rfl (fun aF wF hs hb => ?_), ?_⟩
    · obtain ⟨x0, -⟩ := hs
      have e0 : aF.eval (.tmp 4) = .pointer (some ⟨w.heap.size, 0, none⟩) := x0
      exact opC_load e0 (LE wF hb) ⟨rfl, below_same wF⟩
    refine ⟨step_free rfl (fun aF wF hs hb => ?_), ?_⟩
    · obtain ⟨x0, -⟩ := hs
      have e0 : aF.eval (.tmp 2) = .int .i64 (o : Int) := x0
      exact opC_move e0 ⟨rfl, below_same wF⟩
    refine ⟨step_free rfl (fun aF wF hs hb => ?_), ?_⟩
    · obtain ⟨x0, x1, -⟩ := hs
      have e0 : aF.eval (.tmp 20) = .agg #[.int .u32 (y.a : Int), .int .i32 y.d, .int .u8 (y.k : Int), .int .u32 (y.s : Int), .slice P l.length c] := x0
      have e1 : aF.eval (.tmp 21) = .int .i64 (o : Int) := x1
      refine opC_value (v := .agg #[.int .u32 (y.a : Int), .int .i32 y.d, .int .u8 (y.k : Int), .int .u32 (y.s : Int), .slice P l.length c, .int .i64 (o : Int)]) ?_ ⟨rfl, below_same wF⟩
      have t0 := ev_of e0
      have t1 := ev_of e1
      go_simp
    refine ⟨step_free rfl (fun aF wF hs hb => ?_), ?_⟩
    · obtain ⟨x0, -⟩ := hs
      have e0 : aF.eval (.tmp 22) = .agg #[.int .u32 (y.a : Int), .int .i32 y.d, .int .u8 (y.k : Int), .int .u32 (y.s : Int), .slice P l.length c, .int .i64 (o : Int)] := x0
      exact opC_one14 e0 hb.size
    exact trivial
  · intro fv w9 hf hb9
    have f19 : OwnS linT 79 w9 W0.heap.size (fv 5) M.length V := hf 5 19 rfl
    have f23 : (oneF W0.heap.size 79 #[.int .u32 (y.a : Int), .int .i32 y.d, .int .u8 (y.k : Int), .int .u32 (y.s : Int), .slice P l.length c, .int .i64 (o : Int)]).p (fv 9) w9 := hf 9 23 rfl
    obtain ⟨g23, hv23, hg23, hb23⟩ := f23
    simp only [putF, Act.put, List.setIfInBounds_toArray, List.set_cons_zero, List.set_cons_succ]
    have hb23' : Blk w9 g23 79 (linT.cells ⟨y, P, l.length, c, o⟩).toArray := hb23
    refine opC_appendS (s := .tmp 19) (x := .tmp 23) (v := fv 5) (m := 1) (c := 1) (news := [(⟨y, P, l.length, c, o⟩ : LinV)]) rowRL14 rfl f19 hv23 (Rs.block hb23') rfl (by unfold maxLen; omega) hb9.size ?_
    intro v24 w24 hown hgr
    have hlow : ∀ k, (fv 5).ownBlock = some k → W0.heap.size ≤ k := fun k hk => (f19.lt k hk).1
    have hb24 : Below W0.heap.size W0 w24 := by
      refine hb9.trans ⟨hgr.os, hgr.tape, hgr.output, hgr.size, fun i hi => hgr.block i (Nat.lt_of_lt_of_le hi hb9.size) (fun e => ?_)⟩
      have := hlow i e.symm
      omega
    obtain ⟨_, A2, c2, rfl, hc2, hm2, hrow⟩ := hown.form (by decide)
    refine opC_value (v := .agg #[.slice A2 (M.length + 1) c2]) (by go_simp) ?_
    refine opC_box14 (v := .slice A2 (M.length + 1) c2) rfl ?_
    refine opC_assign (v := .pointer (some ⟨w24.heap.size, 0, none⟩)) rfl ?_
    simp only [tailQ, Act.put, List.setIfInBounds_toArray, List.set_cons_zero, List.set_cons_succ]
    have hA2 : ∀ p, A2 = some p → W0.heap.size ≤ p.block ∧ p.block < w24.heap.size := fun p hp => by
      subst hp
      exact hown.lt p.block rfl
    have hbb := hb24.trans ((b_alloc w24 (.cells #[.slice A2 (M.length + 1) c2] 29)).mono hb24.size)
    have hY := Blk.new w24 29 #[.slice A2 (M.length + 1) c2]
    have hrow2 := (hrow.below (b_alloc w24 (.cells #[.slice A2 (M.length + 1) c2] 29))).more (b_alloc w24 (.cells #[.slice A2 (M.length + 1) c2] 29)).size
    have hsz1 : w24.heap.size < (w24.alloc (.cells #[.slice A2 (M.length + 1) c2] 29)).heap.size := hY.lt
    obtain ⟨yb, hyb⟩ : ∃ yb, w24.heap.size = yb := ⟨_, rfl⟩
    obtain ⟨W1, hW1⟩ : ∃ W, w24.alloc (.cells #[.slice A2 (M.length + 1) c2] 29) = W := ⟨_, rfl⟩
    have hyge : W0.heap.size ≤ yb := by rw [← hyb]; exact hb24.size
    rw [hW1] at hbb hY hrow2 hsz1 ⊢
    simp only [hyb] at hY hA2 hsz1 ⊢
    have hwW : w.heap.size < W0.heap.size := HQ0.out.lt
    have HV1 : Hid (RefV W1 (fun i => ((E i ∧ i ≠ X) ∨ (W0.heap.size ≤ i ∧ i < yb)) ∧ i ≠ X) (M ++ [⟨y, l, o⟩]) A2 (V ++ [⟨y, P, l.length, c, o⟩])) := Lib.hid (by
      refine HV.out.snoc (fun i hi => hbb.block i (Nat.lt_trans (HEl.out i hi.1) hwW)) hbb.size (fun i hi => ⟨.inl hi, hi.2⟩) _ _ ⟨rfl, rfl, rfl⟩ ((HRP.out.below hbb).more hbb.size) (fun p hp => ⟨.inl (HP.out p hp), (HP.out p hp).2⟩) hrow2 (fun p hp => ⟨.inr (hA2 p hp), ?_⟩)
      have := (hA2 p hp).1
      have := HEl.out X HEX.out
      omega)
    have hmap : ∀ i, (((E i ∧ i ≠ X) ∨ (W0.heap.size ≤ i ∧ i < yb)) ∧ i ≠ X) → ((E i ∧ i ≠ X) ∨ (W0.heap.size ≤ i ∧ i ≤ yb)) ∧ i ≠ yb := fun i hi => by
      rcases hi.1 with h1 | ⟨h1, h2⟩
      · have := HEl.out i h1.1
        exact ⟨.inl h1, by omega⟩
      · exact ⟨.inr ⟨h1, Nat.le_of_lt h2⟩, by omega⟩
    have HL1 : Hid (RefL W1 yb (fun i => (E i ∧ i ≠ X) ∨ (W0.heap.size ≤ i ∧ i ≤ yb)) (M ++ [⟨y, l, o⟩])) := Lib.hid ⟨A2, c2, _, by rw [List.length_append]; exact hY, by rw [List.length_append]; exact hc2, hm2, ⟨HV1.out.len, HV1.out.row, fun p hp => hmap _ (HV1.out.own p hp), HV1.out.y, fun i v x hv hx => ⟨(HV1.out.r i v x hv hx).1, fun p hp => hmap _ ((HV1.out.r i v x hv hx).2 p hp)⟩⟩, .inr ⟨hyge, Nat.le_refl _⟩, fun i hi => by
      rcases hi with h1 | ⟨h1, h2⟩
      · have := HEl.out i h1.1
        omega
      · omega⟩
    have HY1 := Lib.hid hY
    have HQ1 := Lib.hid (HQ0.out.below hbb HQ0.out.lt)
    have HX1 := Lib.hid (HX.out.below hbb HX.out.lt)
    have HB1 := Lib.hid (HB0.out.trans (hbb.mono HB0.out.size))
    have HR1 := Lib.hid ((HRP.out.below hbb).more hbb.size)
    have HYX := Lib.hid (show X < yb by have := HEl.out X HEX.out; omega)
    have hmE : Hid (∀ i, (((E i ∧ i ≠ X) ∨ (W0.heap.size ≤ i ∧ i < yb)) ∧ i ≠ X) → ((E i ∨ w.heap.size ≤ i) ∧ i < W1.heap.size)) := Lib.hid (fun i hi => by
      rcases hi.1 with h1 | ⟨h1, h2⟩
      · have := HEl.out i h1.1
        exact ⟨.inl h1.1, by omega⟩
      · exact ⟨.inr (by omega), by omega⟩)
    have HWW := Lib.hid hwW
    have HC2 := Lib.hid (And.intro hc2 hm2)
    clear LX LE hf hb9 f19 hv23 hg23 hb23 hb23' hown hgr hlow hb24 hc2 hm2 hrow hA2 hbb hY hrow2 hsz1 hyb hW1 hyge hwW hmap HR HLEN HML
    have m0 := HQ1.out.cell 0
    have m4 := HQ1.out.cell 4
    simp at m0 m4
    go_wp2_with fail
    have HYA : Hid (y.a < 4294967296) := Lib.hid (HT.out.inn ⟨y, l, o⟩ (by simp)).1.1
    have HIL : Hid (∀ g ∈ l, LegIn g) := Lib.hid (HT.out.inn ⟨y, l, o⟩ (by simp)).2.1
    go_loopw [9, 10, 11, 12, 13, 30] (fun _ _ _ _ _ i wr => ∃ (k : Nat), k ≤ l.length ∧ i = .int .i64 k ∧ Hid (addOk M ⟨y, l, o⟩ (l.take k)) ∧ Hid (Below W1.heap.size W1 wr)) (fun _ _ _ _ _ i _ => l.length - (intOf i).toNat)
    case atStart => exact ⟨0, Nat.zero_le _, rfl, Lib.hid (fun g hg => by simp at hg), Lib.hid (Below.refl _ _)⟩
    case round =>
      obtain ⟨k, hk, rfl, HOK, HBL⟩ := hrel
      by_cases hlt : k < l.length
      · obtain ⟨b1, o1, rfl, hb2, d0, d1⟩ := HR1.out.leg hlt
        have d0 := (HBL.out.cell (p := ⟨b1, o1 + k * 2, none⟩) hb2).trans d0
        have d1 := (HBL.out.cell (p := ⟨b1, o1 + k * 2 + 1, none⟩) hb2).trans d1
        have hxi := (HIL.out _ (List.getElem_mem hlt)).1
        have hnx : addOk M ⟨y, l, o⟩ (l.take (k + 1)) ↔ (sumO (amtL (pSum false y.a) (l[k]).1 (M ++ [⟨y, l, o⟩]))).isSome = true ∧ (sumO (amtL (pSum true 0) (l[k]).1 (M ++ [⟨y, l, o⟩]))).isSome = true := by
          refine ⟨fun hh => hh _ (by rw [List.take_succ_eq_append_getElem hlt]; exact List.mem_append_right _ (List.mem_singleton.2 rfl)), fun hh g hg => ?_⟩
          rw [List.take_succ_eq_append_getElem hlt] at hg
          rcases List.mem_append.1 hg with h1 | h1
          · exact HOK.out g h1
          · obtain rfl := List.mem_singleton.1 h1
            exact hh
        have hno : ¬ addOk M ⟨y, l, o⟩ (l.take (k + 1)) → ¬ addOk M ⟨y, l, o⟩ l := fun h1 h2 => h1 (fun g hg => h2 g (List.mem_of_mem_take hg))
        obtain ⟨x, hx⟩ : ∃ x, (l[k]).1 = x := ⟨_, rfl⟩
        obtain ⟨z, hz⟩ : ∃ z, (l[k]).2 = z := ⟨_, rfl⟩
        rw [hx] at d0 hxi hnx
        rw [hz] at d1
        have HB2 := Lib.hid (HBL.out.alloc HBL.out.size (.cells #[.int .u8 (x : Int), .int .i64 z] 130))
        have HN2 := Lib.hid (Blk.new wr 130 #[.int .u8 (x : Int), .int .i64 z])
        have HNX := Lib.hid hnx
        have HNO := Lib.hid hno
        clear hx hz hnx hno m0 m4
        go_upto_region 5 with (fail)
        obtain ⟨W3, hW⟩ : ∃ W, wr.alloc (.cells #[.int .u8 (x : Int), .int .i64 z] 130) = W := ⟨_, rfl⟩
        rw [hW] at HB2 HN2 ⊢
        clear hW d0 d1
        have d0 := HN2.out.cell 0
        have m0 := (HQ1.out.below HB2.out HQ1.out.lt).cell 0
        simp at d0 m0
        obtain ⟨r1, hr1⟩ : ∃ r1, sumO (amtL (pSum false y.a) x (M ++ [⟨y, l, o⟩])) = r1 := ⟨_, rfl⟩
        obtain ⟨r2, hr2⟩ : ∃ r2, sumO (amtL (pSum true 0) x (M ++ [⟨y, l, o⟩])) = r2 := ⟨_, rfl⟩
        have S1 := RSum_any yb _ _ y.a HYA.out false x hxi W3 (HL1.out.below HB2.out) HT.out
        rw [hr1] at S1
        have S1 := Lib.hid S1
        have S2 := fun (w4 : World) (hb4 : Below W1.heap.size W1 w4) => RSum_any yb _ _ 0 (by decide) true x hxi w4 (HL1.out.below hb4) HT.out
        rw [hr2] at S2
        have S2 := Lib.hid S2
        have hnx := HNX.out
        rw [hr1, hr2] at hnx
        have HNX2 := Lib.hid hnx
        clear hr1 hr2 hnx HNX
        unfold sumW at S1 S2
        obtain ⟨b1', hb1'⟩ : ∃ b, r1.isSome = b := ⟨_, rfl⟩
        obtain ⟨b2', hb2'⟩ : ∃ b, r2.isSome = b := ⟨_, rfl⟩
        rw [hb1'] at S1 HNX2
        rw [hb2'] at S2 HNX2
        clear hb1' hb2'
        go_wp2_with fail
        refine S1.out.mono ?_
        rintro e w4 ⟨rfl, hb⟩
        have HB4 := Lib.hid (HB2.out.trans (hb.mono HB2.out.size))
        have HN4 := Lib.hid (HN2.out.below hb HN2.out.lt)
        clear hb S1 d0 m0 HN2 HB2
        have d0 := HN4.out.cell 0
        simp at d0
        have S3 := Lib.hid (S2.out w4 HB4.out)
        clear S2
        go_wp2_with fail
        refine S3.out.mono ?_
        rintro e w5 ⟨rfl, hb⟩
        have HB5 := Lib.hid (HB4.out.trans (hb.mono HB4.out.size))
        clear hb S3 d0 HN4 HB4
        cases b1' <;> cases b2'
        case true.true =>
          have HK := Lib.hid (HNX2.out.2 ⟨rfl, rfl⟩)
          clear HNX2 HNO
          go_wp2_with fail
          refine ⟨?_, ?measure⟩
          repeat apply Exists.intro
          refine ⟨?rel, rfl⟩
          case rel => exact ⟨k + 1, by omega, by go_num, HK, HB5⟩
          case measure => simp [intOf]; omega
        all_goals
          have HK := Lib.hid (HNO.out (fun hh => by have := HNX2.out.1 hh; simp at this))
          clear HNX2 HNO
          go_wp2_with fail
          go_ret
          exact ⟨fun hh => absurd hh HK.out, fun _ => ⟨rfl, HB1.out.trans (HB5.out.mono HB1.out.size)⟩⟩
      · have hkl : k = l.length := by omega
        subst hkl
        have HK : Hid (addOk M ⟨y, l, o⟩ l) := Lib.hid (by have := HOK.out; rw [List.take_length] at this; exact this)
        have hyb := HY1.out.below HBL.out HY1.out.lt
        have hxb := HX1.out.below HBL.out HX1.out.lt
        have y0 := hyb.cell 0
        have x0 := hxb.cell 0
        have xf := hxb.frozen 0
        simp at y0 x0
        have HXb := Lib.hid hxb
        clear hyb hxb m0 m4
        go_wp2_with fail
        go_ret
        refine ⟨fun _ => ⟨rfl, ?_, fun i => (E i ∨ w.heap.size ≤ i) ∧ i < W1.heap.size, ?_, fun i hi => hi.1⟩, fun hh => absurd HK.out hh⟩
        · have hb := HB1.out.trans (HBL.out.mono HB1.out.size)
          have hs := (Below.refl 0 wr).setCell (Nat.zero_le _) (p := ⟨X, 0, none⟩) (.slice A2 (M.length + 1) c2)
          exact ⟨hs.os.trans hb.os, hs.tape.trans hb.tape, hs.output.trans hb.output, by rw [World.size_setCell]; exact hb.size, fun i hi hx => (Below.heap_setCell _ _ _ _ hx).trans (hb.block i hi)⟩
        · refine ⟨A2, c2, V ++ [⟨y, P, l.length, c, o⟩], by rw [List.length_append]; exact HXb.out.set_ 0 (.slice A2 (M.length + 1) c2), by rw [List.length_append]; exact HC2.out.1, HC2.out.2, ?_, ⟨.inl HEX.out, ?_⟩, fun i hi => ?_⟩
          · have hv : RefV (wr.setCell ⟨X, 0, none⟩ (.slice A2 (M.length + 1) c2)) (fun i => ((E i ∧ i ≠ X) ∨ (W0.heap.size ≤ i ∧ i < yb)) ∧ i ≠ X) (M ++ [⟨y, l, o⟩]) A2 (V ++ [⟨y, P, l.length, c, o⟩]) := HV1.out.same (fun i hi => (Below.heap_setCell _ _ _ _ hi.2).trans (HBL.out.block i (hmE.out i hi).2)) (by rw [World.size_setCell]; exact HBL.out.size)
            exact ⟨hv.len, hv.row, fun p hp => ⟨hmE.out _ (hv.own p hp), (hv.own p hp).2⟩, hv.y, fun i v x hv' hx => ⟨(hv.r i v x hv' hx).1, fun p hp => ⟨hmE.out _ ((hv.r i v x hv' hx).2 p hp), ((hv.r i v x hv' hx).2 p hp).2⟩⟩⟩
          · exact HX1.out.lt
          · rw [World.size_setCell]
            exact Nat.lt_of_lt_of_le hi.2 HBL.out.size
end Go.Proofs.YtdnnkdldolhbpaaGreatDoor
