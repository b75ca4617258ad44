/-
  A region that draws its order, whose last operation writes a slot that the others look at. No condition.
  The document's bytes of an entry. Conditions: the row is there.
-/
import Derived.Test.YtdknhjnbkmcicaaDoorFlow
import Derived.Test.YtdknhjnbkmcicaaDoorRefR8
import Derived.Test.YtdknhjnbkmcicaaDoorJoin
import Derived.Test.YtdknhjnbkmcicaaDoorLegE
import Derived.Great.BuildSlice
namespace Go.Proofs.YtdknhjnbkmcicaaDoor
open Go Go.RowKit

section flow
variable {P : Program}
def flowBC (ops : Array Oper) (sz : Nat) : Bool :=
  (List.range ops.size).all fun i => match ops[i]? with
    | none => true
    | some o => (match o.dst with
        | some d => decide (d < sz) && (List.range ops.size).all fun j => j == i || ((ops[j]?).bind (·.dst)) != some d
        | none => true)
      && ((o.looksAt ops).all fun d => (List.range (ops.size - 1)).all fun j => ((ops[j]?).bind (·.dst)) != some d || o.after.any fun e => Region.binds .any e && e.on == j)
      && o.after.all fun e => decide (e.on < i)
structure FlowOkC (ops : Array Oper) (sz : Nat) : Prop where
  lt : ∀ (i : Nat) (o : Oper) (d : Tmp), ops[i]? = some o → o.dst = some d → d < sz
  one : ∀ (i j : Nat) (o o' : Oper) (d : Tmp), ops[i]? = some o → ops[j]? = some o' → o.dst = some d → o'.dst = some d → j = i
  edge : ∀ (i : Nat) (o : Oper) (d : Tmp) (j : Nat) (o' : Oper), j + 1 < ops.size → ops[i]? = some o → d ∈ o.looksAt ops → ops[j]? = some o' → o'.dst = some d → ∃ e ∈ o.after, Region.binds .any e = true ∧ e.on = j
  back : ∀ (i : Nat) (o : Oper), ops[i]? = some o → ∀ e ∈ o.after, e.on < i
theorem flowOkC {ops : Array Oper} {sz : Nat} (h : flowBC ops sz = true) : FlowOkC ops sz := by
  unfold flowBC at h
  rw [List.all_eq_true] at h
  have hh : ∀ (i : Nat) (o : Oper), ops[i]? = some o → _ := fun i o ho => by
    have := h i (List.mem_range.2 (size_of_some ho))
    rw [ho] at this
    simp only [Bool.and_eq_true] at this
    exact this
  refine ⟨fun i o d ho hd => ?_, fun i j o o' d ho ho' hd hd' => ?_, fun i o d j o' hjn ho hd ho' hd' => ?_, fun i o ho e he => ?_⟩
  · obtain ⟨⟨h1, -⟩, -⟩ := hh i o ho
    rw [hd] at h1
    simp only [Bool.and_eq_true, decide_eq_true_eq] at h1
    exact h1.1
  · obtain ⟨⟨h1, -⟩, -⟩ := hh i o ho
    rw [hd] at h1
    simp only [Bool.and_eq_true, List.all_eq_true] at h1
    have := h1.2 j (List.mem_range.2 (size_of_some ho'))
    rw [ho'] at this
    simpa [hd'] using this
  · obtain ⟨⟨-, h2⟩, -⟩ := hh i o ho
    rw [List.all_eq_true] at h2
    have := h2 d hd
    rw [List.all_eq_true] at this
    have := this j (List.mem_range.2 (by omega))
    rw [ho'] at this
    simp only [Option.bind_some, hd', bne_self_eq_false, Bool.false_or, Array.any_eq_true] at this
    obtain ⟨k, hk, he⟩ := this
    simp only [Bool.and_eq_true, beq_iff_eq] at he
    exact ⟨_, Array.getElem_mem hk, he.1, he.2⟩
  · obtain ⟨-, h3⟩ := hh i o ho
    rw [Array.all_eq_true] at h3
    obtain ⟨k, hk, rfl⟩ := Array.mem_iff_getElem.1 he
    simpa using h3 k hk

theorem AtF.putC {ops : Array Oper} {F : Nat → Flw} {a0 a : Act} {listed : Array Bool} {w w' : World} (hk : FlowOkC ops a0.tmps.size) (h : AtF ops F a0 listed a w) {i : Nat} {o : Oper} (ho : ops[i]? = some o)
    {v : Value} (hv : (F i).p v w') (hb : Below w.heap.size w w') : AtF ops F a0 (listed.setIfInBounds i true) (a.put o.dst v) w' := by
  have hi := size_of_some ho
  have hli : i < listed.size := by rw [h.ls]; exact hi
  refine ⟨by simp [h.ls], ?_, ?_, fun d hd => ?_, fun j oj d hj hd hl => ?_, fun _ _ _ _ => trivial⟩
  · cases e : o.dst <;> simp [Act.put, h.sz]
  · cases e : o.dst <;> simp [Act.put, h.df]
  · have hne : o.dst ≠ some d := fun e => by
      have := hd i o ho e
      rw [Array.getElem?_setIfInBounds_self_of_lt hli] at this
      cases this
    have : (a.put o.dst v).tmps[d]? = a.tmps[d]? := by
      cases e : o.dst with
      | none => rfl
      | some d' =>
        have : d' ≠ d := fun e' => hne (by rw [e, e'])
        simp [Act.put, Array.getElem?_setIfInBounds_ne this]
    rw [this]
    refine h.old d fun j oj hj hdj => ?_
    have hji : i ≠ j := fun e => hne (by subst e; rw [ho] at hj; injection hj with hj; rw [hj]; exact hdj)
    have := hd j oj hj hdj
    rwa [Array.getElem?_setIfInBounds_ne hji] at this
  · by_cases hji : i = j
    · subst hji
      obtain rfl : o = oj := by rw [ho] at hj; injection hj
      have hdz := hk.lt i o d ho hd
      have : (a.put o.dst v).eval (.tmp d) = v := by
        rw [hd]
        have hd2 : d < a.tmps.size := by rw [h.sz]; exact hdz
        simp [Act.put, Act.eval, Array.getD, hd2]
      rw [this]
      exact hv
    · have hl2 : listed[j]? = some true := by rwa [Array.getElem?_setIfInBounds_ne hji] at hl
      have h2 := h.new j oj d hj hd hl2
      have : (a.put o.dst v).eval (.tmp d) = a.eval (.tmp d) := by
        refine Act.eval_put fun d' hd' e => ?_
        injection e with e
        subst e
        exact hji (hk.one j i oj o d hj ho hd hd')
      rw [this]
      exact (F j).mono h2 hb

theorem all_listedC {ops : Array Oper} {sz : Nat} (hk : FlowOkC ops sz) {listed : Array Bool} (hl : listed.size = ops.size) (h : Region.ready .any ops listed = []) : ∀ (i : Nat) (o : Oper), ops[i]? = some o → listed[i]? = some true := by
  intro i
  induction i using Nat.strongRecOn with
  | _ i ih =>
    intro o ho
    have hi := size_of_some ho
    have hi2 : i < listed.size := by omega
    cases e : listed[i] with
    | true => simp [hi2, e]
    | false =>
      exfalso
      have : i ∈ Region.ready .any ops listed := by
        unfold Region.ready
        rw [List.mem_filter, List.mem_range]
        refine ⟨hi, ?_⟩
        rw [ho]
        simp only [Bool.and_eq_true, Option.map_some, Option.getD_some]
        refine ⟨by simp [Array.getD, hi2, e], ?_⟩
        rw [Array.all_eq_true]
        intro k hk'
        have hb := hk.back i o ho _ (Array.getElem_mem hk')
        have hz : (o.after[k]).on < ops.size := by omega
        have := ih _ hb ops[(o.after[k]).on] (by simp [hz])
        have h3 : (o.after[k]).on < listed.size := by omega
        simp only [Array.getD, h3]
        simp [h3] at this
        simp [this]
      rw [h] at this
      cases this
theorem sees_atC {ops : Array Oper} {F : Nat → Flw} {a0 a : Act} {listed : Array Bool} {w : World} {l : List Oper} {ol : Oper} (hops : ops = (l ++ [ol]).toArray) (hk : FlowOkC ops a0.tmps.size) (h : AtF ops F a0 listed a w) (hn : listed[l.length]? = some false) {i : Nat} {o : Oper} (ho : ops[i]? = some o)
    (hr : ∀ e ∈ o.after, Region.binds .any e = true → listed[e.on]? = some true) : seesS (l.map (·.dst)) F a0 a w (o.looksAt ops) := by
  have hsz : ops.size = l.length + 1 := by rw [hops]; simp
  refine seesS_of fun d hd => ?_
  unfold seeS
  split
  · rename_i j hj
    obtain ⟨-, hj⟩ := wr_some hj
    rw [Nat.sub_zero, List.getElem?_map] at hj
    obtain ⟨oj, h1, h2⟩ := Option.map_eq_some_iff.1 hj
    have hjl := (List.getElem?_eq_some_iff.1 h1).1
    have h1' : ops[j]? = some oj := by
      rw [hops, List.getElem?_toArray, List.getElem?_append_left hjl]
      exact h1
    obtain ⟨e, he, hb, rfl⟩ := hk.edge i o d j oj (by omega) ho hd h1' h2
    exact h.new _ oj d h1' h2 (hr e he hb)
  · rename_i hn'
    have := h.old d fun j oj hj hdj => by
      have hjs := size_of_some hj
      by_cases hjl : j < l.length
      · exfalso
        refine wr_none hn' j ?_
        rw [hops, List.getElem?_toArray, List.getElem?_append_left hjl] at hj
        rw [List.getElem?_map, hj]
        simp [hdj]
      · obtain rfl : j = l.length := by omega
        exact hn
    simp only [Act.eval, Array.getD_eq_getD_getElem?, this]
theorem AtF.restC {ops : Array Oper} {F : Nat → Flw} {a0 a : Act} {listed : Array Bool} {w : World} {o : Oper} {l : List Oper} (hops : ops = (l ++ [o]).toArray) (hk : FlowOkC ops a0.tmps.size) (h : AtF ops F a0 listed a w) (hl : ∀ i, i < l.length → listed[i]? = some true) (hn : listed[l.length]? = some false) :
    ∃ f : Nat → Value, a = putF f (l.map (·.dst)) 0 a0 ∧ ∀ (i : Nat) (d : Tmp), (l.map (·.dst))[i]? = some (some d) → (F i).p (f i) w := by
  have hol : ∀ (i : Nat) (x : Oper), l[i]? = some x → ops[i]? = some x := fun i x hx => by
    rw [hops, List.getElem?_toArray, List.getElem?_append_left (List.getElem?_eq_some_iff.1 hx).1]
    exact hx
  have hlast : ops[l.length]? = some o := by rw [hops]; simp
  have hmap : ∀ (i : Nat) (d : Tmp), (l.map (·.dst))[i]? = some (some d) → ∃ x, l[i]? = some x ∧ x.dst = some d := fun i d hi => by
    rw [List.getElem?_map] at hi
    exact Option.map_eq_some_iff.1 hi
  refine ⟨fun i => match (ops[i]?).bind (·.dst) with | some d => a.eval (.tmp d) | none => undef, ?_, fun i d hi => ?_⟩
  · obtain ⟨s1, s2⟩ := putF_size (fun i => match (ops[i]?).bind (·.dst) with | some d => a.eval (.tmp d) | none => undef) (l.map (·.dst)) 0 a0
    refine act_ext (by rw [s1, h.sz]) (by rw [s2, h.df]) fun d => ?_
    cases e : wr d (l.map (·.dst)) 0 with
    | none =>
      have hw := wr_none e
      rw [putF_old _ _ _ _ _ hw]
      refine h.old d fun j oj hj hdj => ?_
      have hjs := size_of_some hj
      rw [hops] at hjs
      simp at hjs
      by_cases hjl : j < l.length
      · exfalso
        refine hw j ?_
        rw [List.getElem?_map]
        have : l[j]? = some oj := by
          rw [hops, List.getElem?_toArray, List.getElem?_append_left hjl] at hj
          exact hj
        rw [this]
        simp [hdj]
      · obtain rfl : j = l.length := by omega
        exact hn
    | some j =>
      obtain ⟨-, hj⟩ := wr_some e
      rw [Nat.sub_zero] at hj
      obtain ⟨oj, h1, h2⟩ := hmap j d hj
      have h1' := hol j oj h1
      have hdz := hk.lt j oj d h1' h2
      rw [putF_new _ _ _ _ d j hdz hj (fun i hi => by
        obtain ⟨oi, g1, g2⟩ := hmap i d hi
        exact hk.one j i oj oi d h1' (hol i oi g1) h2 g2)]
      have hd2 : d < a.tmps.size := by rw [h.sz]; exact hdz
      simp [h1', h2, Act.eval, Array.getD, hd2]
  · obtain ⟨oi, g1, g2⟩ := hmap i d hi
    simp only [hol i oi g1, Option.bind_some, g2]
    exact h.new i oi d (hol i oi g1) g2 (hl i (List.getElem?_eq_some_iff.1 g1).1)
theorem wpAny_flow_lastC {ops : Array Oper} {l : List Oper} {ol : Oper} (hops : ops = (l ++ [ol]).toArray) {F : Nat → Flw} {a0 : Act} {w0 : World} {Q : Exit → Act → World → Prop} (hk : FlowOkC ops a0.tmps.size) (hc : coverB ops = true)
    (hs : ∀ (i : Nat) (o : Oper), l[i]? = some o → stepF P ops (l.map (·.dst)) F a0 w0 i o)
    (hg : ol.guard = none)
    (hq : ∀ (f : Nat → Value) w, (∀ (i : Nat) (d : Tmp), (l.map (·.dst))[i]? = some (some d) → (F i).p (f i) w) → Below w0.heap.size w0 w →
      opC P ol (putF f (l.map (·.dst)) 0 a0) w (fun v w' => Q .normal ((putF f (l.map (·.dst)) 0 a0).put ol.dst v) w')) :
    ∀ (fuel : Nat) (listed : Array Bool) (a : Act) (w : World), leftF listed ≤ fuel → listed[l.length]? = some false → ClosedF ops listed → AtF ops F a0 listed a w → Below w0.heap.size w0 w → wpAny P .any ops Q fuel listed a w := by
  have hlast : ops[l.length]? = some ol := by rw [hops]; simp
  have hsz : ops.size = l.length + 1 := by rw [hops]; simp
  have hopl : ∀ (i : Nat) (x : Oper), ops[i]? = some x → i ≠ l.length → l[i]? = some x := fun i x hx hi => by
    have := size_of_some hx
    rw [hops, List.getElem?_toArray, List.getElem?_append_left (by omega)] at hx
    exact hx
  intro fuel
  induction fuel with
  | zero =>
    intro listed a w hl hn _ _ _
    exact absurd hn (left_none (by omega) _)
  | succ fuel ih =>
    intro listed a w hl hn hcl h hb
    refine ⟨fun hr => ?_, fun i hi => ?_⟩
    · have := all_listedC hk h.ls hr _ _ hlast
      rw [hn] at this
      cases this
    · obtain ⟨o, ho, h2, h3⟩ := ready_listed h.ls hi
      have hls := left_set h2
      by_cases hil : i = l.length
      · subst hil
        obtain rfl : ol = o := by rw [hlast] at ho; injection ho
        have hall : ∀ i, i < l.length → listed[i]? = some true := fun i hi => last_all hc hcl (by rw [hsz]; exact hlast) h3 _ i rfl (by omega)
        obtain ⟨f, rfl, hf⟩ := h.restC hops hk hall h2
        unfold wpOp
        rw [ho]
        simp only
        have hw : Region.wanted ol (yielded ops (putF f (l.map (·.dst)) 0 a0).tmps) = true := by unfold Region.wanted; rw [hg]
        rw [if_pos hw]
        refine .inl (wp_of_opC (hq f w hf hb) fun v w' hv => ?_)
        have hr : Region.ready .any ops (listed.setIfInBounds l.length true) = [] := by
          rw [List.eq_nil_iff_forall_not_mem]
          intro i hi
          obtain ⟨o', ho', g2, _⟩ := ready_listed (by simp [h.ls]) hi
          by_cases hi2 : l.length = i
          · subst hi2
            rw [set_keeps_self (by rw [h.ls, hsz]; omega)] at g2
            cases g2
          · rw [Array.getElem?_setIfInBounds_ne hi2] at g2
            have := size_of_some ho'
            rw [hall i (by omega)] at g2
            cases g2
        cases fuel with
        | zero => exact ⟨hr, hv⟩
        | succ fuel => exact ⟨fun _ => hv, fun i hi => by rw [hr] at hi; cases hi⟩
      · have hst := hs i o (hopl i o ho hil) a w (sees_atC hops hk h hn ho h3) hb
        have hn' : (listed.setIfInBounds i true)[l.length]? = some false := by rw [Array.getElem?_setIfInBounds_ne hil]; exact hn
        unfold wpOp
        rw [ho]
        simp only
        split
        · rename_i hw
          rw [if_pos hw] at hst
          refine .inl (wp_of_opC hst fun v w' hv => ?_)
          exact ih _ _ _ (by omega) hn' (hcl.put ho h3) (h.putC hk ho hv.1 hv.2) (hb.trans (hv.2.mono hb.size))
        · rename_i hw
          rw [if_neg hw] at hst
          exact ih _ _ _ (by omega) hn' (hcl.put ho h3) (h.putC hk ho hst (Below.refl _ _)) hb
theorem wp_region_flow_lastC {id : Nat} {l : List Oper} {ol : Oper} {ops : List Oper} {Q : Exit → Act → World → Prop} {a0 : Act} {w : World} (hops : ops = l ++ [ol]) (ds : List (Option Tmp)) (F : Nat → Flw) (hm : P.follows .mixedOrders = true)
    (hB : flowBC ops.toArray a0.tmps.size = true) (hc : coverB ops.toArray = true) (hd : ops.map (·.dst) = ds ++ [ol.dst]) (hg : ol.guard = none) (hs : stepsF P ops.toArray ds F a0 w 0 l)
    (hq : ∀ (f : Nat → Value) w', (∀ (i : Nat) (d : Tmp), ds[i]? = some (some d) → (F i).p (f i) w') → Below w.heap.size w w' → opC P ol (putF f ds 0 a0) w' (fun v w'' => Q .normal ((putF f ds 0 a0).put ol.dst v) w'')) : (Code.region id ops.toArray true).wp P Q a0 w := by
  subst hops
  have hd' : l.map (·.dst) = ds := by
    rw [List.map_append] at hd
    exact List.append_cancel_right hd
  subst hd'
  refine wp_region_any hm (wpAny_flow_lastC (l := l) (ol := ol) rfl (F := F) (a0 := a0) (w0 := w) (flowOkC hB) hc (fun i o ho => ?_) hg hq _ _ _ _ ?_ ?_ ?_ ?_ ?_)
  · have := stepsF_at hs i o ho
    rw [Nat.zero_add] at this
    exact this
  · exact left_new _
  · simp
  · intro i o _ h
    rw [Array.getElem?_replicate] at h
    split at h <;> cases h
  · refine ⟨by simp, rfl, rfl, fun _ _ => rfl, fun i o d _ _ h => ?_, fun _ _ _ _ => trivial⟩
    rw [Array.getElem?_replicate] at h
    split at h <;> cases h
  · exact ⟨rfl, rfl, rfl, Nat.le_refl _, fun _ _ => rfl⟩

end flow
end Go.Proofs.YtdknhjnbkmcicaaDoor
namespace Go.Proofs.YtdknhjnbkmcicaaDoor
open Go.ChangeShapes Go.WideShapes Go.ChangeAt Go.RowKit

/-- Bytes, and slices of them. -/
def bySF (L : List UInt8) : Flw := ⟨fun v w => ∃ A c, v = .slice A L.length c ∧ Rd w w.heap.size A L, fun ⟨A, c, h1, h2⟩ hb => ⟨A, c, h1, (h2.below hb).more hb.size⟩⟩
def sgF (n : Nat) (L : List UInt8) : Flw := ⟨fun v w => ∃ g gs, v = .slice (some ⟨g, 0, none⟩) n n ∧ g < w.heap.size ∧ gs.length = n ∧ glue gs = L ∧ Segs w w.heap.size g 0 gs, by
  rintro v w w' ⟨g, gs, h1, h2, h3, h4, h5⟩ hb
  exact ⟨g, gs, h1, Nat.lt_of_lt_of_le h2 hb.size, h3, h4, fun j s hs => ⟨(hb.cell (p := ⟨g, 0 + j, none⟩) h2).trans (h5 j s hs).1, ((h5 j s hs).2.below hb).more hb.size⟩⟩⟩
theorem infoRow8 : (Tryd.prog.info? 27).map (fun i => (i.zero, i.size, i.bytes)) = some (some (.slice none 0 0), 1, 24) := by kernel_rfl
theorem sg_new {w : World} (T : TypeId) (gs : List Seg) (n : Nat) (hn : gs.length = n) (h : ∀ s ∈ gs, Rd w w.heap.size s.at_ s.l) (L : List UInt8) (hL : glue gs = L) : (sgF n L).p (.slice (some ⟨w.heap.size, 0, none⟩) n n) (w.alloc (.cells (gs.map Seg.val).toArray T)) := by
  refine ⟨w.heap.size, gs, rfl, by simp, hn, hL, fun j s hs => ⟨?_, ?_⟩⟩
  · rw [Blk.cell (Blk.new w T (gs.map Seg.val).toArray), Nat.zero_add, List.getElem?_toArray, List.getElem?_map, hs]
    rfl
  · exact ((h s (List.mem_of_getElem? hs)).below (b_alloc w _)).more (by simp)
theorem cJoinF {n : Nat} {L : List UInt8} (hn : n ≤ 140737488355328) (hL : L.length ≤ 140737488355328) {w : World} {v : Value} (h : (sgF n L).p v w) : Calls Tryd.prog 15 #[v] w (ToF (bySF L) w) := by
  obtain ⟨g, gs, rfl, hg, h3, rfl, h5⟩ := h
  refine (Join_own g 0 n w.heap.size gs n w h5 hg (Nat.le_refl _) h3 hn hL).mono ?_
  rintro e w' ⟨v, rfl, ho, hb⟩
  obtain ⟨_, A', c', rfl, _, _, hr⟩ := own_form ho
  exact ⟨_, rfl, ⟨A', c', rfl, hr⟩, hb⟩
theorem cRUintF (n : Nat) (hn : n < 18446744073709551616) (w : World) : Calls Tryd.prog 33 #[.int .u64 (n : Int)] w (ToF (bySF (layN 0 n)) w) := by
  refine (RUint_any n hn w).mono ?_
  rintro e w' ⟨v, rfl, ho, hb⟩
  obtain ⟨_, A', c', rfl, _, _, hr⟩ := own_form ho
  exact ⟨_, rfl, ⟨A', c', rfl, hr⟩, hb⟩
theorem cRIntF (i : Int) (hi : -9223372036854775808 ≤ i ∧ i ≤ 9223372036854775807) (w : World) : Calls Tryd.prog 34 #[.int .i64 i] w (ToF (bySF (layI i)) w) := by
  refine (RInt_any i hi w).mono ?_
  rintro e w' ⟨A', c', rfl, _, _, hr, hb⟩
  exact ⟨_, rfl, ⟨A', c', rfl, hr⟩, hb⟩
theorem opC_rows5 {dst : Option Tmp} {x0 x1 x2 x3 x4 : Operand} {ty : TypeId} {pos : String} {af : Array Edge} {a : Act} {w : World} {K : Value → World → Prop} {A0 A1 A2 A3 A4 : Option Addr} {n0 n1 n2 n3 n4 c0 c1 c2 c3 c4 : Nat} (h0 : a.eval x0 = .slice A0 n0 c0) (h1 : a.eval x1 = .slice A1 n1 c1) (h2 : a.eval x2 = .slice A2 n2 c2) (h3 : a.eval x3 = .slice A3 n3 c3) (h4 : a.eval x4 = .slice A4 n4 c4)
    (hk : K (.slice (some ⟨w.heap.size, 0, none⟩) 5 5) (w.alloc (.cells #[.slice A0 n0 c0, .slice A1 n1 c1, .slice A2 n2 c2, .slice A3 n3 c3, .slice A4 n4 c4] 27))) : opC Tryd.prog ⟨dst, .buildSlice 50 5 #[(0, x0), (1, x1), (2, x2), (3, x3), (4, x4)], ty, pos, af, none⟩ a w K := by
  obtain ⟨i0, hi, hz0, hz1, hz2⟩ := info_parts infoRow8
  have hrun : (Instr.buildSlice 50 5 #[(0, .slice A0 n0 c0), (1, .slice A1 n1 c1), (2, .slice A2 n2 c2), (3, .slice A3 n3 c3), (4, .slice A4 n4 c4)]).run Tryd.prog w = .ok (.slice (some ⟨w.heap.size, 0, none⟩) 5 5) (w.alloc (.cells #[.slice A0 n0 c0, .slice A1 n1 c1, .slice A2 n2 c2, .slice A3 n3 c3, .slice A4 n4 c4] 27)) := by
    refine run_buildSlice w 50 27 5 _ #[.slice A0 n0 c0, .slice A1 n1 c1, .slice A2 n2 c2, .slice A3 n3 c3, .slice A4 n4 c4] i0 (.slice none 0 0) Tryd.underlying50 hi hz0 (by rw [hz1]; decide) (by rw [hz1]; decide) ?_
    rw [hz1]
    simp [Instr.fill, Value.cells]
    apply Array.toList_inj.1
    simp [List.range_succ]
  constructor
  rw [show (execOp a.eval ⟨dst, .buildSlice 50 5 #[(0, x0), (1, x1), (2, x2), (3, x3), (4, x4)], ty, pos, af, none⟩).run Tryd.prog w = .ok (.value (.slice (some ⟨w.heap.size, 0, none⟩) 5 5)) (w.alloc (.cells #[.slice A0 n0 c0, .slice A1 n1 c1, .slice A2 n2 c2, .slice A3 n3 c3, .slice A4 n4 c4] 27)) by
    simp [execOp, h0, h1, h2, h3, h4, hrun, Result.andThen]]
  exact hk
theorem opC_rows3 {dst : Option Tmp} {x0 x1 x2 : Operand} {ty : TypeId} {pos : String} {af : Array Edge} {a : Act} {w : World} {K : Value → World → Prop} {A0 A1 A2 : Option Addr} {n0 n1 n2 c0 c1 c2 : Nat} (h0 : a.eval x0 = .slice A0 n0 c0) (h1 : a.eval x1 = .slice A1 n1 c1) (h2 : a.eval x2 = .slice A2 n2 c2)
    (hk : K (.slice (some ⟨w.heap.size, 0, none⟩) 3 3) (w.alloc (.cells #[.slice A0 n0 c0, .slice A1 n1 c1, .slice A2 n2 c2] 27))) : opC Tryd.prog ⟨dst, .buildSlice 50 3 #[(0, x0), (1, x1), (2, x2)], ty, pos, af, none⟩ a w K := by
  obtain ⟨i0, hi, hz0, hz1, hz2⟩ := info_parts infoRow8
  have hrun : (Instr.buildSlice 50 3 #[(0, .slice A0 n0 c0), (1, .slice A1 n1 c1), (2, .slice A2 n2 c2)]).run Tryd.prog w = .ok (.slice (some ⟨w.heap.size, 0, none⟩) 3 3) (w.alloc (.cells #[.slice A0 n0 c0, .slice A1 n1 c1, .slice A2 n2 c2] 27)) := by
    refine run_buildSlice w 50 27 3 _ #[.slice A0 n0 c0, .slice A1 n1 c1, .slice A2 n2 c2] i0 (.slice none 0 0) Tryd.underlying50 hi hz0 (by rw [hz1]; decide) (by rw [hz1]; decide) ?_
    rw [hz1]
    simp [Instr.fill, Value.cells]
    apply Array.toList_inj.1
    simp [List.range_succ]
  constructor
  rw [show (execOp a.eval ⟨dst, .buildSlice 50 3 #[(0, x0), (1, x1), (2, x2)], ty, pos, af, none⟩).run Tryd.prog w = .ok (.value (.slice (some ⟨w.heap.size, 0, none⟩) 3 3)) (w.alloc (.cells #[.slice A0 n0 c0, .slice A1 n1 c1, .slice A2 n2 c2] 27)) by
    simp [execOp, h0, h1, h2, hrun, Result.andThen]]
  exact hk
set_option maxRecDepth 100000 in
set_option maxHeartbeats 4000000 in
theorem RBytes_any (a D k s : Nat) (ha : a < 4294967296) (hD : D ≤ 3652058) (hk : k < 256) (hs : s < 4294967296) (A : Option Addr) (n c B : Nat) (l : List (Nat × Int)) (w : World) (hR : Rs legT w B A l) (hn : l.length = n) (hn8 : n ≤ 8) (hB : B ≤ w.heap.size) (hI : ∀ u ∈ l, LegIn u) :
    Calls Tryd.prog 12 #[entV ⟨a, (D : Int), k, s⟩ (.slice A n c)] w (ToF (bySF (layE ⟨a, (D : Int), k, s⟩ l)) w) := by
  have HE0 := Lib.hid (Blk.new w 46 (entC ⟨a, (D : Int), k, s⟩ (.slice A n c)))
  have HB0 := Lib.hid (b_alloc w (.cells (entC ⟨a, (D : Int), k, s⟩ (.slice A n c)) 46))
  have HR0 := Lib.hid ((hR.below (HB0.out.mono hB)).more (Nat.le_trans hB HB0.out.size))
  have HN := Lib.hid hn
  have HI := Lib.hid hI
  unfold entC at HE0 HB0 HR0
  unfold entV entC
  dsimp only at HE0 HB0 HR0 ⊢
  obtain ⟨g1, hg1⟩ : ∃ g, w.heap.size = g := ⟨_, rfl⟩
  obtain ⟨W, hW⟩ : ∃ W, (w.alloc (.cells #[.int .u32 (a : Int), .int .i32 (D : Int), .int .u8 (k : Int), .int .u32 (s : Int), .slice A n c] 46)) = W := ⟨_, rfl⟩
  rw [hW] at HE0 HB0 HR0
  rw [hg1] at HE0
  have HW := Lib.hid (And.intro hW hg1)
  have i1 : IntKind.u64.wrap (a : Int) = (a : Int) := by rw [IntKind.wrap_u64]; omega
  have i2 : IntKind.u64.wrap (D : Int) = (D : Int) := by rw [IntKind.wrap_u64]; omega
  have i3 : IntKind.u64.wrap (k : Int) = (k : Int) := by rw [IntKind.wrap_u64]; omega
  have i4 : IntKind.u64.wrap (s : Int) = (s : Int) := by rw [IntKind.wrap_u64]; omega
  have i5 : IntKind.u64.wrap (n : Int) = (n : Int) := by rw [IntKind.wrap_u64]; omega
  have b1 : a < 18446744073709551616 := by omega
  have b2 : D < 18446744073709551616 := by omega
  have b3 : k < 18446744073709551616 := by omega
  have b4 : s < 18446744073709551616 := by omega
  have b5 : n < 18446744073709551616 := by omega
  have m1 := layN_le 0 a (by omega)
  have m2 := layN_le 0 D (by omega)
  have m3 := layN_le 0 k (by omega)
  have m4 := layN_le 0 s (by omega)
  have m5 := layN_le 0 n (by omega)
  obtain ⟨Z, hZ⟩ : ∃ Z, layN 0 a ++ (layN 0 D ++ (layN 0 k ++ (layN 0 s ++ (layN 0 n ++ [])))) = Z := ⟨_, rfl⟩
  have HLL : Hid (Z.length ≤ 100) := Lib.hid (by rw [← hZ]; simp only [List.length_append, List.length_nil]; omega)
  have hLL : Z.length ≤ 140737488355328 := by have := HLL.out; omega
  have HZ := Lib.hid hZ
  clear hZ
  clear hW hg1 hR hn hI m1 m2 m3 m4 m5
  go_enter Tryd.func12, Tryd.ntmps12
  go_upto_region 1 with (fail)
  rw [HW.out.1, HW.out.2]
  have L0 : ∀ W', Below W.heap.size W W' → (Instr.loadAt 22 (.pointer (some ⟨g1, 0, none⟩))).run Tryd.prog W' = .ok (.int .u32 (a : Int)) W' := fun W' hb => by
    have c0 := (HE0.out.below hb HE0.out.lt).cell 0
    simp at c0
    go_simp
  have L1 : ∀ W', Below W.heap.size W W' → (Instr.loadAt 21 (.pointer (some ⟨g1, 1, none⟩))).run Tryd.prog W' = .ok (.int .i32 (D : Int)) W' := fun W' hb => by
    have c0 := (HE0.out.below hb HE0.out.lt).cell 1
    simp at c0
    go_simp
  have L2 : ∀ W', Below W.heap.size W W' → (Instr.loadAt 5 (.pointer (some ⟨g1, 2, none⟩))).run Tryd.prog W' = .ok (.int .u8 (k : Int)) W' := fun W' hb => by
    have c0 := (HE0.out.below hb HE0.out.lt).cell 2
    simp at c0
    go_simp
  have L3 : ∀ W', Below W.heap.size W W' → (Instr.loadAt 22 (.pointer (some ⟨g1, 3, none⟩))).run Tryd.prog W' = .ok (.int .u32 (s : Int)) W' := fun W' hb => by
    have c0 := (HE0.out.below hb HE0.out.lt).cell 3
    simp at c0
    go_simp
  have L4 : ∀ W', Below W.heap.size W W' → (Instr.loadAt 44 (.pointer (some ⟨g1, 4, none⟩))).run Tryd.prog W' = .ok (.slice A n c) W' := fun W' hb => by
    have c0 := (HE0.out.below hb HE0.out.lt).cell 4
    simp at c0
    go_simp
  have C4 : ∀ W', Below W.heap.size W W' → W'.cell? ⟨g1, 4, none⟩ = some (.slice A n c) := fun W' hb => by
    have c0 := (HE0.out.below hb HE0.out.lt).cell 4
    simpa using c0
  clear HE0
  refine wp_region_flow [some 6, some 7, some 8, some 9, some 10, some 11, some 12, some 13, some 14, some 15, some 16, some 17, some 18, some 19, some 20, some 21, some 22, some 23, some 24, some 25, some 26, some 27, some 28, some 29, some 30, some 31, some 32, some 3] (fun i => ([.is (.pointer (some ⟨g1, 0, none⟩)), .is (.pointer (some ⟨g1, 0, none⟩)), .is (.int .u32 (a : Int)), .is (.int .u64 (a : Int)), bySF (layN 0 a), .is (.pointer (some ⟨g1, 0, none⟩)), .is (.pointer (some ⟨g1, 1, none⟩)), .is (.int .i32 (D : Int)), .is (.int .u64 (D : Int)), bySF (layN 0 D), .is (.pointer (some ⟨g1, 0, none⟩)), .is (.pointer (some ⟨g1, 2, none⟩)), .is (.int .u8 (k : Int)), .is (.int .u64 (k : Int)), bySF (layN 0 k), .is (.pointer (some ⟨g1, 0, none⟩)), .is (.pointer (some ⟨g1, 3, none⟩)), .is (.int .u32 (s : Int)), .is (.int .u64 (s : Int)), bySF (layN 0 s), .is (.pointer (some ⟨g1, 4, none⟩)), .is (.slice A n c), .is (.int .i64 (n : Int)), .is (.int .u64 (n : Int)), bySF (layN 0 n), sgF 5 Z, bySF (Z), bySF (Z)] : List Flw).getD i .any) (by kernel_rfl) (by kernel_rfl) rfl ?_ ?_
  · refine ⟨step_free rfl (fun aF wF hs hb => ?_), ?_⟩
    · obtain ⟨x0, -⟩ := hs
      have e0 : aF.eval (.tmp 1) = .pointer (some ⟨g1, 0, none⟩) := x0
      refine opC_value (v := .pointer (some ⟨g1, 0, none⟩)) ?_ ⟨rfl, below_same wF⟩
      have t0 := ev_of e0
      simp [execOp, go_sem, t0]
    refine ⟨step_free rfl (fun aF wF hs hb => ?_), ?_⟩
    · obtain ⟨x0, -⟩ := hs
      have e0 : aF.eval (.tmp 6) = .pointer (some ⟨g1, 0, none⟩) := x0
      refine opC_value (v := .pointer (some ⟨g1, 0, none⟩)) ?_ ⟨rfl, below_same wF⟩
      have t0 := ev_of e0
      simp [execOp, go_sem, t0]
    refine ⟨step_free rfl (fun aF wF hs hb => ?_), ?_⟩
    · obtain ⟨x0, -⟩ := hs
      have e0 : aF.eval (.tmp 7) = .pointer (some ⟨g1, 0, none⟩) := x0
      exact opC_load e0 (L0 wF hb) ⟨rfl, below_same wF⟩
    refine ⟨step_free rfl (fun aF wF hs hb => ?_), ?_⟩
    · obtain ⟨x0, -⟩ := hs
      have e0 : aF.eval (.tmp 8) = .int .u32 (a : Int) := x0
      refine opC_value (v := .int .u64 (a : Int)) ?_ ⟨rfl, below_same wF⟩
      simp [execOp, go_sem, ev_of e0, i1]
    refine ⟨step_free rfl (fun aF wF hs hb => ?_), ?_⟩
    · obtain ⟨x0, -⟩ := hs
      have e0 : aF.eval (.tmp 9) = .int .u64 (a : Int) := x0
      exact opC_callF (args := #[.int .u64 (a : Int)]) (enters_of Tryd.func33 (by kernel_rfl) rfl) (by simp [e0]) (cRUintF a b1 wF) (fun _ _ h1 h2 => ⟨h1, h2⟩)
    refine ⟨step_free rfl (fun aF wF hs hb => ?_), ?_⟩
    · obtain ⟨x0, -⟩ := hs
      have e0 : aF.eval (.tmp 1) = .pointer (some ⟨g1, 0, none⟩) := x0
      refine opC_value (v := .pointer (some ⟨g1, 0, none⟩)) ?_ ⟨rfl, below_same wF⟩
      have t0 := ev_of e0
      simp [execOp, go_sem, t0]
    refine ⟨step_free rfl (fun aF wF hs hb => ?_), ?_⟩
    · obtain ⟨x0, -⟩ := hs
      have e0 : aF.eval (.tmp 11) = .pointer (some ⟨g1, 0, none⟩) := x0
      refine opC_value (v := .pointer (some ⟨g1, 1, none⟩)) ?_ ⟨rfl, below_same wF⟩
      have t0 := ev_of e0
      simp [execOp, go_sem, t0]
    refine ⟨step_free rfl (fun aF wF hs hb => ?_), ?_⟩
    · obtain ⟨x0, -⟩ := hs
      have e0 : aF.eval (.tmp 12) = .pointer (some ⟨g1, 1, none⟩) := x0
      exact opC_load e0 (L1 wF hb) ⟨rfl, below_same wF⟩
    refine ⟨step_free rfl (fun aF wF hs hb => ?_), ?_⟩
    · obtain ⟨x0, -⟩ := hs
      have e0 : aF.eval (.tmp 13) = .int .i32 (D : Int) := x0
      refine opC_value (v := .int .u64 (D : Int)) ?_ ⟨rfl, below_same wF⟩
      simp [execOp, go_sem, ev_of e0, i2]
    refine ⟨step_free rfl (fun aF wF hs hb => ?_), ?_⟩
    · obtain ⟨x0, -⟩ := hs
      have e0 : aF.eval (.tmp 14) = .int .u64 (D : Int) := x0
      exact opC_callF (args := #[.int .u64 (D : Int)]) (enters_of Tryd.func33 (by kernel_rfl) rfl) (by simp [e0]) (cRUintF D b2 wF) (fun _ _ h1 h2 => ⟨h1, h2⟩)
    refine ⟨step_free rfl (fun aF wF hs hb => ?_), ?_⟩
    · obtain ⟨x0, -⟩ := hs
      have e0 : aF.eval (.tmp 1) = .pointer (some ⟨g1, 0, none⟩) := x0
      refine opC_value (v := .pointer (some ⟨g1, 0, none⟩)) ?_ ⟨rfl, below_same wF⟩
      have t0 := ev_of e0
      simp [execOp, go_sem, t0]
    refine ⟨step_free rfl (fun aF wF hs hb => ?_), ?_⟩
    · obtain ⟨x0, -⟩ := hs
      have e0 : aF.eval (.tmp 16) = .pointer (some ⟨g1, 0, none⟩) := x0
      refine opC_value (v := .pointer (some ⟨g1, 2, none⟩)) ?_ ⟨rfl, below_same wF⟩
      have t0 := ev_of e0
      simp [execOp, go_sem, t0]
    refine ⟨step_free rfl (fun aF wF hs hb => ?_), ?_⟩
    · obtain ⟨x0, -⟩ := hs
      have e0 : aF.eval (.tmp 17) = .pointer (some ⟨g1, 2, none⟩) := x0
      exact opC_load e0 (L2 wF hb) ⟨rfl, below_same wF⟩
    refine ⟨step_free rfl (fun aF wF hs hb => ?_), ?_⟩
    · obtain ⟨x0, -⟩ := hs
      have e0 : aF.eval (.tmp 18) = .int .u8 (k : Int) := x0
      refine opC_value (v := .int .u64 (k : Int)) ?_ ⟨rfl, below_same wF⟩
      simp [execOp, go_sem, ev_of e0, i3]
    refine ⟨step_free rfl (fun aF wF hs hb => ?_), ?_⟩
    · obtain ⟨x0, -⟩ := hs
      have e0 : aF.eval (.tmp 19) = .int .u64 (k : Int) := x0
      exact opC_callF (args := #[.int .u64 (k : Int)]) (enters_of Tryd.func33 (by kernel_rfl) rfl) (by simp [e0]) (cRUintF k b3 wF) (fun _ _ h1 h2 => ⟨h1, h2⟩)
    refine ⟨step_free rfl (fun aF wF hs hb => ?_), ?_⟩
    · obtain ⟨x0, -⟩ := hs
      have e0 : aF.eval (.tmp 1) = .pointer (some ⟨g1, 0, none⟩) := x0
      refine opC_value (v := .pointer (some ⟨g1, 0, none⟩)) ?_ ⟨rfl, below_same wF⟩
      have t0 := ev_of e0
      simp [execOp, go_sem, t0]
    refine ⟨step_free rfl (fun aF wF hs hb => ?_), ?_⟩
    · obtain ⟨x0, -⟩ := hs
      have e0 : aF.eval (.tmp 21) = .pointer (some ⟨g1, 0, none⟩) := x0
      refine opC_value (v := .pointer (some ⟨g1, 3, none⟩)) ?_ ⟨rfl, below_same wF⟩
      have t0 := ev_of e0
      simp [execOp, go_sem, t0]
    refine ⟨step_free rfl (fun aF wF hs hb => ?_), ?_⟩
    · obtain ⟨x0, -⟩ := hs
      have e0 : aF.eval (.tmp 22) = .pointer (some ⟨g1, 3, none⟩) := x0
      exact opC_load e0 (L3 wF hb) ⟨rfl, below_same wF⟩
    refine ⟨step_free rfl (fun aF wF hs hb => ?_), ?_⟩
    · obtain ⟨x0, -⟩ := hs
      have e0 : aF.eval (.tmp 23) = .int .u32 (s : Int) := x0
      refine opC_value (v := .int .u64 (s : Int)) ?_ ⟨rfl, below_same wF⟩
      simp [execOp, go_sem, ev_of e0, i4]
    refine ⟨step_free rfl (fun aF wF hs hb => ?_), ?_⟩
    · obtain ⟨x0, -⟩ := hs
      have e0 : aF.eval (.tmp 24) = .int .u64 (s : Int) := x0
      exact opC_callF (args := #[.int .u64 (s : Int)]) (enters_of Tryd.func33 (by kernel_rfl) rfl) (by simp [e0]) (cRUintF s b4 wF) (fun _ _ h1 h2 => ⟨h1, h2⟩)
    refine ⟨step_free rfl (fun aF wF hs hb => ?_), ?_⟩
    · obtain ⟨x0, -⟩ := hs
      have e0 : aF.eval (.tmp 1) = .pointer (some ⟨g1, 0, none⟩) := x0
      refine opC_value (v := .pointer (some ⟨g1, 4, none⟩)) ?_ ⟨rfl, below_same wF⟩
      have t0 := ev_of e0
      simp [execOp, go_sem, t0]
    refine ⟨step_free rfl (fun aF wF hs hb => ?_), ?_⟩
    · obtain ⟨x0, -⟩ := hs
      have e0 : aF.eval (.tmp 26) = .pointer (some ⟨g1, 4, none⟩) := x0
      exact opC_load e0 (L4 wF hb) ⟨rfl, below_same wF⟩
    refine ⟨step_free rfl (fun aF wF hs hb => ?_), ?_⟩
    · obtain ⟨x0, -⟩ := hs
      have e0 : aF.eval (.tmp 27) = .slice A n c := x0
      refine opC_value (v := .int .i64 (n : Int)) ?_ ⟨rfl, below_same wF⟩
      have t0 := ev_of e0
      simp [go_sem, t0]
    refine ⟨step_free rfl (fun aF wF hs hb => ?_), ?_⟩
    · obtain ⟨x0, -⟩ := hs
      have e0 : aF.eval (.tmp 28) = .int .i64 (n : Int) := x0
      refine opC_value (v := .int .u64 (n : Int)) ?_ ⟨rfl, below_same wF⟩
      simp [execOp, go_sem, ev_of e0, i5]
    refine ⟨step_free rfl (fun aF wF hs hb => ?_), ?_⟩
    · obtain ⟨x0, -⟩ := hs
      have e0 : aF.eval (.tmp 29) = .int .u64 (n : Int) := x0
      exact opC_callF (args := #[.int .u64 (n : Int)]) (enters_of Tryd.func33 (by kernel_rfl) rfl) (by simp [e0]) (cRUintF n b5 wF) (fun _ _ h1 h2 => ⟨h1, h2⟩)
    refine ⟨step_free rfl (fun aF wF hs hb => ?_), ?_⟩
    · obtain ⟨x0, x1, x2, x3, x4, -⟩ := hs
      obtain ⟨A0, c0, e0, r0⟩ : (bySF (layN 0 a)).p (aF.eval (.tmp 10)) wF := x0
      obtain ⟨A1, c1, e1, r1⟩ : (bySF (layN 0 D)).p (aF.eval (.tmp 15)) wF := x1
      obtain ⟨A2, c2, e2, r2⟩ : (bySF (layN 0 k)).p (aF.eval (.tmp 20)) wF := x2
      obtain ⟨A3, c3, e3, r3⟩ : (bySF (layN 0 s)).p (aF.eval (.tmp 25)) wF := x3
      obtain ⟨A4, c4, e4, r4⟩ : (bySF (layN 0 n)).p (aF.eval (.tmp 30)) wF := x4
      exact opC_rows5 e0 e1 e2 e3 e4 ⟨sg_new _ [⟨A0, c0, layN 0 a⟩, ⟨A1, c1, layN 0 D⟩, ⟨A2, c2, layN 0 k⟩, ⟨A3, c3, layN 0 s⟩, ⟨A4, c4, layN 0 n⟩] 5 rfl (fun s hs => by
        simp only [List.mem_cons, List.not_mem_nil, or_false] at hs
        rcases hs with rfl | rfl | rfl | rfl | rfl
        · exact r0
        · exact r1
        · exact r2
        · exact r3
        · exact r4) _ (by rw [← HZ.out]; rfl), (Below.refl _ wF).alloc (Nat.le_refl _) _⟩
    refine ⟨step_free rfl (fun aF wF hs hb => ?_), ?_⟩
    · obtain ⟨x0, -⟩ := hs
      have y0 : (sgF 5 Z).p (aF.eval (.tmp 31)) wF := x0
      exact opC_callF (args := #[aF.eval (.tmp 31)]) (enters_of Tryd.func15 (by kernel_rfl) rfl) (by simp) (cJoinF (by decide) hLL y0) (fun _ _ h1 h2 => ⟨h1, h2⟩)
    refine ⟨step_free rfl (fun aF wF hs hb => ?_), ?_⟩
    · obtain ⟨x0, -⟩ := hs
      exact opC_assign rfl ⟨x0, below_same wF⟩
    exact trivial
  · intro f w1 hf hb1
    obtain ⟨A1, c1, e1, r1⟩ : (bySF Z).p (f 27) w1 := hf 27 3 rfl
    simp only [putF, Act.put, List.setIfInBounds_toArray, List.set_cons_zero, List.set_cons_succ]
    rw [e1]
    have HV0 : Hid ((bySF (Z ++ layGs (l.take 0))).p (.slice A1 Z.length c1) w1) := Lib.hid (by
      rw [show Z ++ layGs (l.take 0) = Z by simp [layGs]]
      exact ⟨A1, c1, rfl, r1⟩)
    have HBL := Lib.hid hb1
    have c4 := C4 w1 hb1
    clear hf e1 r1 hb1 L0 L1 L2 L3 L4
    go_wp2_with fail
    go_loopw [3, 5, 36] (fun v _ i wr => ∃ (k' : Nat), k' ≤ n ∧ i = .int .i64 k' ∧ Hid ((bySF (Z ++ layGs (l.take k'))).p v wr) ∧ Hid (Below W.heap.size W wr)) (fun _ _ i _ => n - (intOf i).toNat)
    case atStart => exact ⟨0, Nat.zero_le _, rfl, HV0, HBL⟩
    case round =>
      obtain ⟨k', hk', rfl, HV, HBk⟩ := hrel
      clear HV0 HBL
      by_cases hlt : k' < n
      · have hlt2 : k' < l.length := by rw [HN.out]; exact hlt
        obtain ⟨bl, ol, rfl, hbl, q0, q1⟩ := HR0.out.leg hlt2
        have hLI := HI.out l[k'] (List.getElem_mem hlt2)
        unfold LegIn at hLI
        obtain ⟨x, hx⟩ : ∃ x, (l[k']).1 = x := ⟨_, rfl⟩
        obtain ⟨z, hz0⟩ : ∃ z, (l[k']).2 = z := ⟨_, rfl⟩
        have d0 := (HBk.out.cell (p := ⟨bl, ol + k' * 2, none⟩) hbl).trans q0
        have d1 := (HBk.out.cell (p := ⟨bl, ol + k' * 2 + 1, none⟩) hbl).trans q1
        rw [hx] at d0 hLI
        rw [hz0] at d1 hLI
        obtain ⟨hx2, hz⟩ := hLI
        obtain ⟨S, hS⟩ : ∃ S, Z ++ layGs (l.take k') = S := ⟨_, rfl⟩
        have hSl : S.length ≤ 300 := by
          have h1 := HLL.out
          have h2 := layGs_le (l.take k') (fun u hu => HI.out u (List.mem_of_mem_take hu))
          rw [List.length_take] at h2
          rw [← hS, List.length_append]
          omega
        have hV := HV.out
        rw [hS] at hV
        obtain ⟨A3, c3, rfl, r3⟩ := hV
        have HR3 := Lib.hid r3
        have HS : Hid (S ++ (layN 0 x ++ (layI z ++ [])) = Z ++ layGs (l.take (k' + 1))) := Lib.hid (by
          rw [List.take_succ_eq_append_getElem hlt2, layGs_snoc, ← hS, hx, hz0]
          simp only [List.append_assoc, List.append_nil])
        have j1 : IntKind.u64.wrap (x : Int) = (x : Int) := by rw [IntKind.wrap_u64]; omega
        have hx8 : x < 18446744073709551616 := by omega
        have hL3 : (S ++ (layN 0 x ++ (layI z ++ []))).length ≤ 140737488355328 := by
          have h1 := layN_le 0 x hx8
          have h2 := layI_le z hz
          simp only [List.length_append, List.length_nil]
          omega
        have HA := Lib.hid (Blk.new wr 78 #[.int .u8 (x : Int), .int .i64 z])
        have HBA := Lib.hid (b_alloc wr (.cells #[.int .u8 (x : Int), .int .i64 z] 78))
        clear hx hz0 hS r3 hSl HV hbl q0 q1 hlt2
        go_wp2_with fail
        obtain ⟨g5, hg5⟩ : ∃ g, wr.heap.size = g := ⟨_, rfl⟩
        obtain ⟨wA, hwA⟩ : ∃ X, wr.alloc (.cells #[.int .u8 (x : Int), .int .i64 z] 78) = X := ⟨_, rfl⟩
        have hA := HA.out
        have hBA := HBA.out
        rw [hwA, hg5] at hA hBA
        rw [hwA, hg5]
        have M0 : ∀ W', Below wA.heap.size wA W' → (Instr.loadAt 5 (.pointer (some ⟨g5, 0, none⟩))).run Tryd.prog W' = .ok (.int .u8 (x : Int)) W' := fun W' hb => by
          have c0 := (hA.below hb hA.lt).cell 0
          simp at c0
          go_simp
        have M1 : ∀ W', Below wA.heap.size wA W' → (Instr.loadAt 2 (.pointer (some ⟨g5, 1, none⟩))).run Tryd.prog W' = .ok (.int .i64 z) W' := fun W' hb => by
          have c0 := (hA.below hb hA.lt).cell 1
          simp at c0
          go_simp
        have M3 : ∀ W', Below wA.heap.size wA W' → Rd W' W'.heap.size A3 S := fun W' hb => by
          have h1 := HBA.out
          rw [hwA] at h1
          exact (((HR3.out.below h1).more h1.size).below hb).more hb.size
        have HBL5 : Hid (Below W.heap.size W wA) := Lib.hid (by
          have h1 := HBA.out
          rw [hwA] at h1
          exact HBk.out.trans (h1.mono HBk.out.size))
        clear hA hBA hwA hg5 HA HBA HR3 d0 d1
        refine wp_region_flow_lastC (l := [_, _, _, _, _, _, _, _, _, _]) (ol := _) rfl [some 40, some 41, some 42, some 43, some 44, some 45, some 46, some 47, some 48, some 49] (fun i => ([.is (.slice A3 S.length c3), .is (.pointer (some ⟨g5, 0, none⟩)), .is (.int .u8 (x : Int)), .is (.int .u64 (x : Int)), bySF (layN 0 x), .is (.pointer (some ⟨g5, 1, none⟩)), .is (.int .i64 z), bySF (layI z), sgF 3 (S ++ (layN 0 x ++ (layI z ++ []))), bySF (S ++ (layN 0 x ++ (layI z ++ [])))] : List Flw).getD i .any) (by kernel_rfl) (by kernel_rfl) (by kernel_rfl) rfl rfl ?_ ?_
        · refine ⟨step_free rfl (fun aF wF hs hb => ?_), ?_⟩
          · obtain ⟨x0, -⟩ := hs
            have e0 : aF.eval (.tmp 3) = .slice A3 S.length c3 := x0
            exact opC_move e0 ⟨rfl, below_same wF⟩
          refine ⟨step_free rfl (fun aF wF hs hb => ?_), ?_⟩
          · obtain ⟨x0, -⟩ := hs
            have e0 : aF.eval (.tmp 5) = .pointer (some ⟨g5, 0, none⟩) := x0
            refine opC_value (v := .pointer (some ⟨g5, 0, none⟩)) ?_ ⟨rfl, below_same wF⟩
            have t0 := ev_of e0
            simp [execOp, go_sem, t0]
          refine ⟨step_free rfl (fun aF wF hs hb => ?_), ?_⟩
          · obtain ⟨x0, -⟩ := hs
            have e0 : aF.eval (.tmp 41) = .pointer (some ⟨g5, 0, none⟩) := x0
            exact opC_load e0 (M0 wF hb) ⟨rfl, below_same wF⟩
          refine ⟨step_free rfl (fun aF wF hs hb => ?_), ?_⟩
          · obtain ⟨x0, -⟩ := hs
            have e0 : aF.eval (.tmp 42) = .int .u8 (x : Int) := x0
            refine opC_value (v := .int .u64 (x : Int)) ?_ ⟨rfl, below_same wF⟩
            simp [execOp, go_sem, ev_of e0, j1]
          refine ⟨step_free rfl (fun aF wF hs hb => ?_), ?_⟩
          · obtain ⟨x0, -⟩ := hs
            have e0 : aF.eval (.tmp 43) = .int .u64 (x : Int) := x0
            exact opC_callF (args := #[.int .u64 (x : Int)]) (enters_of Tryd.func33 (by kernel_rfl) rfl) (by simp [e0]) (cRUintF x hx8 wF) (fun _ _ h1 h2 => ⟨h1, h2⟩)
          refine ⟨step_free rfl (fun aF wF hs hb => ?_), ?_⟩
          · obtain ⟨x0, -⟩ := hs
            have e0 : aF.eval (.tmp 5) = .pointer (some ⟨g5, 0, none⟩) := x0
            refine opC_value (v := .pointer (some ⟨g5, 1, none⟩)) ?_ ⟨rfl, below_same wF⟩
            have t0 := ev_of e0
            simp [execOp, go_sem, t0]
          refine ⟨step_free rfl (fun aF wF hs hb => ?_), ?_⟩
          · obtain ⟨x0, -⟩ := hs
            have e0 : aF.eval (.tmp 45) = .pointer (some ⟨g5, 1, none⟩) := x0
            exact opC_load e0 (M1 wF hb) ⟨rfl, below_same wF⟩
          refine ⟨step_free rfl (fun aF wF hs hb => ?_), ?_⟩
          · obtain ⟨x0, -⟩ := hs
            have e0 : aF.eval (.tmp 46) = .int .i64 z := x0
            exact opC_callF (args := #[.int .i64 z]) (enters_of Tryd.func34 (by kernel_rfl) rfl) (by simp [e0]) (cRIntF z hz wF) (fun _ _ h1 h2 => ⟨h1, h2⟩)
          refine ⟨step_free rfl (fun aF wF hs hb => ?_), ?_⟩
          · obtain ⟨x0, x1, x2, -⟩ := hs
            have e0 : aF.eval (.tmp 40) = .slice A3 S.length c3 := x0
            obtain ⟨A1, c1, e1, r1⟩ : (bySF (layN 0 x)).p (aF.eval (.tmp 44)) wF := x1
            obtain ⟨A2, c2, e2, r2⟩ : (bySF (layI z)).p (aF.eval (.tmp 47)) wF := x2
            exact opC_rows3 e0 e1 e2 ⟨sg_new _ [⟨A3, c3, S⟩, ⟨A1, c1, layN 0 x⟩, ⟨A2, c2, layI z⟩] 3 rfl (fun s hs => by
              simp only [List.mem_cons, List.not_mem_nil, or_false] at hs
              rcases hs with rfl | rfl | rfl
              · exact M3 wF hb
              · exact r1
              · exact r2) _ rfl, (Below.refl _ wF).alloc (Nat.le_refl _) _⟩
          refine ⟨step_free rfl (fun aF wF hs hb => ?_), ?_⟩
          · obtain ⟨x0, -⟩ := hs
            have y0 : (sgF 3 (S ++ (layN 0 x ++ (layI z ++ [])))).p (aF.eval (.tmp 48)) wF := x0
            exact opC_callF (args := #[aF.eval (.tmp 48)]) (enters_of Tryd.func15 (by kernel_rfl) rfl) (by simp) (cJoinF (by decide) hL3 y0) (fun _ _ h1 h2 => ⟨h1, h2⟩)
          exact trivial
        · intro f5 w6 hf hb6
          have h10 : (bySF (S ++ (layN 0 x ++ (layI z ++ [])))).p (f5 9) w6 := hf 9 49 rfl
          refine opC_assign rfl ?_
          simp only [putF, Act.put, List.setIfInBounds_toArray, List.set_cons_zero, List.set_cons_succ]
          rw [HS.out] at h10
          have H10 := Lib.hid h10
          have HB6 : Hid (Below W.heap.size W w6) := Lib.hid (HBL5.out.trans (hb6.mono HBL5.out.size))
          clear hf h10 hb6 M0 M1 M3
          go_wp2_with fail
          go_roundw
          case rel => exact ⟨k' + 1, by omega, by go_num, H10, HB6⟩
          case measure => simp [intOf]; omega
      · obtain rfl : k' = n := by omega
        have hV := HV.out
        rw [show l.take k' = l by rw [← HN.out]; simp] at hV
        have e : Z ++ layGs l = layE ⟨a, (D : Int), k, s⟩ l := by
          rw [← HZ.out]
          unfold layE layKy
          rw [HN.out]
          simp only [List.nil_append, List.append_assoc, List.append_nil, Int.toNat_natCast]
        rw [e] at hV
        have HV2 := Lib.hid hV
        clear hV e HV
        go_wp2_with fail
        go_ret
        exact ⟨_, rfl, HV2.out, HB0.out.trans (HBk.out.mono HB0.out.size)⟩
end Go.Proofs.YtdknhjnbkmcicaaDoor
