/-
A region that draws its order, with a store in its midst: two flows, one ahead of that store and one behind it, and an invariant beside them. No condition.
terms.Read of the text of terms that are Right: those terms. Conditions: the laid variables' cells.
-/
import Derived.Test.YtpbfipeinblfgaaGreatDoorFlowQ9
import Derived.Test.YtpbfipeinblfgaaGreatDoorTrmDQ9
namespace Go.Proofs.YtpbfipeinblfgaaGreatDoor
open Go Go.RowKit

section flowB
variable {P : Program}
/-- A step, with an invariant. -/
def stepJ (P : Program) (ops : Array Oper) (ds : List (Option Tmp)) (F : Nat → Flw) (J : Act → World → Prop) (a0 : Act) (w0 : World) (i : Nat) (o : Oper) : Prop :=
  ∀ a w, seesS ds F a0 a w (o.looksAt ops) → Below w0.heap.size w0 w → J a w → opC P o a w (fun v w' => (F i).p v w' ∧ Below w.heap.size w w' ∧ J (a.put o.dst v) w')
/-- Behind the store. -/
theorem wpAny_flow_lastJ {ops : Array Oper} {l : List Oper} {ol : Oper} (hops : ops = (l ++ [ol]).toArray) {F : Nat → Flw} {J : Act → World → Prop} {a0 : Act} {w0 : World} {Q : Exit → Act → World → Prop} (s d : Nat) (hk : FlowOk ops a0.tmps.size) (hc : coverB ops = true)
    (hs : ∀ (i : Nat) (o : Oper), l[i]? = some o → i ≠ s → i ≠ d → stepJ P ops (ops.toList.map (·.dst)) F J a0 w0 i o)
    (hg : ∀ (i : Nat) (o : Oper), ops[i]? = some o → o.guard = none)
    (hq : ∀ (f : Nat → Value) w, (∀ (i : Nat) (d : Tmp), (l.map (·.dst))[i]? = some (some d) → (F i).p (f i) w) → Below w0.heap.size w0 w → J (putF f (l.map (·.dst)) 0 a0) w →
      opC P ol (putF f (l.map (·.dst)) 0 a0) w (fun v w' => Q .normal ((putF f (l.map (·.dst)) 0 a0).put ol.dst v) w')) :
    ∀ (fuel : Nat) (listed : Array Bool) (a : Act) (w : World), leftF listed ≤ fuel → listed[l.length]? = some false → listed[s]? = some true → listed[d]? = some true → ClosedF ops listed → AtF ops F a0 listed a w → Below w0.heap.size w0 w → J a w → wpAny P .any ops Q fuel listed a w := by
  have hlast : ops[l.length]? = some ol := by rw [hops]; simp
  have hsz : ops.size = l.length + 1 := by rw [hops]; simp
  have hopl : ∀ (i : Nat) (x : Oper), ops[i]? = some x → i ≠ l.length → l[i]? = some x := fun i x hx hi => by
    have := size_of_some hx
    rw [hops, List.getElem?_toArray, List.getElem?_append_left (by omega)] at hx
    exact hx
  intro fuel
  induction fuel with
  | zero =>
    intro listed a w hl hn _ _ _
    exact absurd hn (left_none (by omega) _)
  | succ fuel ih =>
    intro listed a w hl hn hsl hdl hcl h hb hJ
    refine ⟨fun hr => ?_, fun i hi => ?_⟩
    · have := all_listed hk h.ls hr _ _ hlast
      rw [hn] at this
      cases this
    · obtain ⟨o, ho, h2, h3⟩ := ready_listed h.ls hi
      have hls := left_set h2
      have hw : Region.wanted o (yielded ops a.tmps) = true := by unfold Region.wanted; rw [hg i o ho]
      by_cases hil : i = l.length
      · subst hil
        obtain rfl : ol = o := by rw [hlast] at ho; injection ho
        have hall : ∀ i, i < l.length → listed[i]? = some true := fun i hi => last_all hc hcl (by rw [hsz]; exact hlast) h3 _ i rfl (by omega)
        obtain ⟨f, rfl, hf⟩ := h.rest hops hk hall h2
        unfold wpOp
        rw [ho]
        simp only
        rw [if_pos hw]
        refine .inl (wp_of_opC (hq f w hf hb hJ) fun v w' hv => ?_)
        have hr : Region.ready .any ops (listed.setIfInBounds l.length true) = [] := by
          rw [List.eq_nil_iff_forall_not_mem]
          intro i hi
          obtain ⟨o', ho', g2, _⟩ := ready_listed (by simp [h.ls]) hi
          by_cases hi2 : l.length = i
          · subst hi2
            rw [set_keeps_self (by rw [h.ls, hsz]; omega)] at g2
            cases g2
          · rw [Array.getElem?_setIfInBounds_ne hi2] at g2
            have := size_of_some ho'
            rw [hall i (by omega)] at g2
            cases g2
        cases fuel with
        | zero => exact ⟨hr, hv⟩
        | succ fuel => exact ⟨fun _ => hv, fun i hi => by rw [hr] at hi; cases hi⟩
      · have his : i ≠ s := fun e => by rw [e, hsl] at h2; cases h2
        have hid : i ≠ d := fun e => by rw [e, hdl] at h2; cases h2
        have hst := hs i o (hopl i o ho hil) his hid a w (sees_at hk h ho h3) hb hJ
        have hn' : (listed.setIfInBounds i true)[l.length]? = some false := by rw [Array.getElem?_setIfInBounds_ne hil]; exact hn
        unfold wpOp
        rw [ho]
        simp only
        rw [if_pos hw]
        refine .inl (wp_of_opC hst fun v w' hv => ?_)
        exact ih _ _ _ (by omega) hn' (set_keeps hsl) (set_keeps hdl) (hcl.put ho h3) (h.put hk ho hv.1 hv.2.1) (hb.trans (hv.2.1.mono hb.size)) hv.2.2
/-- Ahead of it. -/
theorem wpAny_flow_mid {ops : Array Oper} {l : List Oper} {ol os : Oper} (hops : ops = (l ++ [ol]).toArray) {F F' : Nat → Flw} {J : Act → World → Prop} {a0 : Act} {w0 : World} {Q : Exit → Act → World → Prop} (s d : Nat) (hso : l[s]? = some os) (hsd : os.dst = none) (had : ∃ e ∈ os.after, Region.binds .any e = true ∧ e.on = d) (hk : FlowOk ops a0.tmps.size) (hc : coverB ops = true)
    (hs : ∀ (i : Nat) (o : Oper), l[i]? = some o → i ≠ s → stepJ P ops (ops.toList.map (·.dst)) F J a0 w0 i o)
    (hs' : ∀ (i : Nat) (o : Oper), l[i]? = some o → i ≠ s → i ≠ d → stepJ P ops (ops.toList.map (·.dst)) F' J a0 w0 i o)
    (hst : ∀ a w, seesS (ops.toList.map (·.dst)) F a0 a w (os.looksAt ops) → Below w0.heap.size w0 w → J a w → opC P os a w (fun _ w' => Below w0.heap.size w0 w' ∧ J a w' ∧ ∀ (i : Nat) (o : Oper) (d : Tmp), l[i]? = some o → o.dst = some d → (F i).p (a.eval (.tmp d)) w → (F' i).p (a.eval (.tmp d)) w'))
    (hg : ∀ (i : Nat) (o : Oper), ops[i]? = some o → o.guard = none)
    (hq : ∀ (f : Nat → Value) w, (∀ (i : Nat) (d : Tmp), (l.map (·.dst))[i]? = some (some d) → (F' i).p (f i) w) → Below w0.heap.size w0 w → J (putF f (l.map (·.dst)) 0 a0) w →
      opC P ol (putF f (l.map (·.dst)) 0 a0) w (fun v w' => Q .normal ((putF f (l.map (·.dst)) 0 a0).put ol.dst v) w')) :
    ∀ (fuel : Nat) (listed : Array Bool) (a : Act) (w : World), leftF listed ≤ fuel → listed[l.length]? = some false → listed[s]? = some false → ClosedF ops listed → AtF ops F a0 listed a w → Below w0.heap.size w0 w → J a w → wpAny P .any ops Q fuel listed a w := by
  have hlast : ops[l.length]? = some ol := by rw [hops]; simp
  have hsz : ops.size = l.length + 1 := by rw [hops]; simp
  have hsl2 : s < l.length := (List.getElem?_eq_some_iff.1 hso).1
  have hopl : ∀ (i : Nat) (x : Oper), ops[i]? = some x → i ≠ l.length → l[i]? = some x := fun i x hx hi => by
    have := size_of_some hx
    rw [hops, List.getElem?_toArray, List.getElem?_append_left (by omega)] at hx
    exact hx
  intro fuel
  induction fuel with
  | zero =>
    intro listed a w hl hn _ _ _
    exact absurd hn (left_none (by omega) _)
  | succ fuel ih =>
    intro listed a w hl hn hsl hcl h hb hJ
    refine ⟨fun hr => ?_, fun i hi => ?_⟩
    · have := all_listed hk h.ls hr _ _ hlast
      rw [hn] at this
      cases this
    · obtain ⟨o, ho, h2, h3⟩ := ready_listed h.ls hi
      have hls := left_set h2
      have hw : Region.wanted o (yielded ops a.tmps) = true := by unfold Region.wanted; rw [hg i o ho]
      by_cases hil : i = l.length
      · exfalso
        subst hil
        obtain rfl : ol = o := by rw [hlast] at ho; injection ho
        have := last_all hc hcl (by rw [hsz]; exact hlast) h3 _ s rfl (by omega)
        rw [hsl] at this
        cases this
      · have hn' : (listed.setIfInBounds i true)[l.length]? = some false := by rw [Array.getElem?_setIfInBounds_ne hil]; exact hn
        unfold wpOp
        rw [ho]
        simp only
        rw [if_pos hw]
        by_cases his : i = s
        · subst his
          have hoo := hopl i o ho hil
          obtain rfl : os = o := by rw [hso] at hoo; injection hoo
          refine .inl (wp_of_opC (hst a w (sees_at hk h ho h3) hb hJ) fun v w' hv => ?_)
          obtain ⟨v1, v2, v3⟩ := hv
          rw [hsd]
          have hA : AtF ops F' a0 (listed.setIfInBounds i true) a w' := by
            refine ⟨by simp [h.ls], h.sz, h.df, fun d hd => h.old d fun j oj hj hdj => ?_, fun j oj d hj hd hlj => ?_, fun _ _ _ _ => trivial⟩
            · have hji : i ≠ j := fun e => by
                subst e
                rw [ho] at hj
                injection hj with hj
                rw [← hj, hsd] at hdj
                cases hdj
              have := hd j oj hj hdj
              rwa [Array.getElem?_setIfInBounds_ne hji] at this
            · have hji : i ≠ j := fun e => by
                subst e
                rw [ho] at hj
                injection hj with hj
                rw [← hj, hsd] at hd
                cases hd
              rw [Array.getElem?_setIfInBounds_ne hji] at hlj
              have hjl : j ≠ l.length := fun e => by rw [e, hn] at hlj; cases hlj
              exact v3 j oj d (hopl j oj hj hjl) hd (h.new j oj d hj hd hlj)
          exact wpAny_flow_lastJ hops i d hk hc hs' hg hq fuel _ _ _ (by omega) hn' (set_keeps_self (by rw [h.ls]; exact size_of_some ho)) (set_keeps (by obtain ⟨e, he, hbi, rfl⟩ := had; exact h3 e he hbi)) (hcl.put ho h3) hA v1 v2
        · have hst' := hs i o (hopl i o ho hil) his a w (sees_at hk h ho h3) hb hJ
          have hs9 : (listed.setIfInBounds i true)[s]? = some false := by rw [Array.getElem?_setIfInBounds_ne his]; exact hsl
          refine .inl (wp_of_opC hst' fun v w' hv => ?_)
          exact ih _ _ _ (by omega) hn' hs9 (hcl.put ho h3) (h.put hk ho hv.1 hv.2.1) (hb.trans (hv.2.1.mono hb.size)) hv.2.2
/-- THE LAW: a store in the midst, and one at the end. -/
theorem wp_region_flow_mid {id : Nat} {l : List Oper} {ol os : Oper} {ops : List Oper} {Q : Exit → Act → World → Prop} {a0 : Act} {w : World} (hops : ops = l ++ [ol]) (s d : Nat) (hso : l[s]? = some os) (hsd : os.dst = none) (had : (os.after.any fun e => Region.binds .any e && e.on == d) = true) (F F' : Nat → Flw) (J : Act → World → Prop) (hm : P.follows .mixedOrders = true)
    (hB : flowB ops.toArray a0.tmps.size = true) (hc : coverB ops.toArray = true) (hg : (ops.all fun o => o.guard.isNone) = true)
    (hs : ∀ (i : Nat) (o : Oper), l[i]? = some o → i ≠ s → stepJ P ops.toArray (ops.map (·.dst)) F J a0 w i o)
    (hs' : ∀ (i : Nat) (o : Oper), l[i]? = some o → i ≠ s → i ≠ d → stepJ P ops.toArray (ops.map (·.dst)) F' J a0 w i o)
    (hst : ∀ a w', seesS (ops.map (·.dst)) F a0 a w' (os.looksAt ops.toArray) → Below w.heap.size w w' → J a w' → opC P os a w' (fun _ w'' => Below w.heap.size w w'' ∧ J a w'' ∧ ∀ (i : Nat) (o : Oper) (d : Tmp), l[i]? = some o → o.dst = some d → (F i).p (a.eval (.tmp d)) w' → (F' i).p (a.eval (.tmp d)) w''))
    (hJ : J a0 w.drew)
    (hq : ∀ (f : Nat → Value) w', (∀ (i : Nat) (d : Tmp), (l.map (·.dst))[i]? = some (some d) → (F' i).p (f i) w') → Below w.heap.size w w' → J (putF f (l.map (·.dst)) 0 a0) w' →
      opC P ol (putF f (l.map (·.dst)) 0 a0) w' (fun v w'' => Q .normal ((putF f (l.map (·.dst)) 0 a0).put ol.dst v) w'')) : (Code.region id ops.toArray true).wp P Q a0 w := by
  subst hops
  have hgd : ∀ (i : Nat) (o : Oper), (l ++ [ol]).toArray[i]? = some o → o.guard = none := fun i o ho => by
    rw [List.getElem?_toArray] at ho
    have := List.all_eq_true.1 hg o (List.mem_of_getElem? ho)
    simpa using this
  refine wp_region_any hm (wpAny_flow_mid (l := l) (ol := ol) rfl (F := F) (F' := F') (J := J) (a0 := a0) (w0 := w) s d hso hsd (by
    rw [Array.any_eq_true] at had
    obtain ⟨j, hj, he⟩ := had
    simp only [Bool.and_eq_true, beq_iff_eq] at he
    exact ⟨_, Array.getElem_mem hj, he.1, he.2⟩) (flowOk hB) hc (by simpa using hs) (by simpa using hs') (by simpa using hst) hgd hq _ _ _ _ ?_ ?_ ?_ ?_ ?_ ?_ ?_)
  · exact left_new _
  · simp
  · rw [Array.getElem?_replicate, if_pos]
    have := (List.getElem?_eq_some_iff.1 hso).1
    simp
    omega
  · intro i o _ h
    rw [Array.getElem?_replicate] at h
    split at h <;> cases h
  · refine ⟨by simp, rfl, rfl, fun _ _ => rfl, fun i o d _ _ h => ?_, fun _ _ _ _ => trivial⟩
    rw [Array.getElem?_replicate] at h
    split at h <;> cases h
  · exact ⟨rfl, rfl, rfl, Nat.le_refl _, fun _ _ => rfl⟩
  · exact hJ
end flowB
end Go.Proofs.YtpbfipeinblfgaaGreatDoor
namespace Go.Proofs.YtpbfipeinblfgaaGreatDoor
open Go.RowKit

theorem blk9 {w : World} {q : Nat} {ty : TypeId} {a0 a1 a2 a3 a4 a5 a6 a7 a8 : Value} (h : Blk w q ty #[a0, a1, a2, a3, a4, a5, a6, a7, a8]) : w.cell? ⟨q, 0, none⟩ = some a0 ∧ w.cell? ⟨q, 1, none⟩ = some a1 ∧ w.cell? ⟨q, 2, none⟩ = some a2 ∧ w.cell? ⟨q, 3, none⟩ = some a3 ∧ w.cell? ⟨q, 4, none⟩ = some a4 ∧ w.cell? ⟨q, 5, none⟩ = some a5 ∧ w.cell? ⟨q, 6, none⟩ = some a6 ∧ w.cell? ⟨q, 7, none⟩ = some a7 := by
  have c0 := h.cell 0
  have c1 := h.cell 1
  have c2 := h.cell 2
  have c3 := h.cell 3
  have c4 := h.cell 4
  have c5 := h.cell 5
  have c6 := h.cell 6
  have c7 := h.cell 7
  simp at c0 c1 c2 c3 c4 c5 c6 c7
  exact ⟨c0, c1, c2, c3, c4, c5, c6, c7⟩
theorem text_ge {t : Trm} (h : t.Right) : 8 ≤ t.text.size := by
  have e : t.text.size = (Lib.join (t.l.map (·.data.toList)) [32]).length := by simp [Trm.text, sps, ByteArray.size]
  have h4 : 4 ≤ (nameB t.K).data.toList.length := by rcases h.K with e | e <;> rw [e] <;> decide +kernel
  rw [e]
  unfold Trm.l
  simp only [List.map_cons, List.map_nil, Lib.join_cons, Lib.joinTail, List.flatten_cons, List.flatten_nil, List.length_append, List.length_cons, List.length_nil]
  omega
theorem short_dec : ∀ i : Fin 1000, (Lib.decDigits i.1).length ≤ 18 := by decide +kernel
theorem Atoi_dec (n : Nat) (hn : n < 1000) (w : World) : Calls Tryz.prog 41 #[.string (dec n)] w fun e w' => e = .returned (.tuple #[.int .i64 (n : Int), .nilIface]) ∧ Below w.heap.size w w' := by
  have hl : (dec n).size ≤ 18 := by
    have h := short_dec ⟨n, hn⟩
    simpa [dec, ByteArray.size] using h
  refine (Tryz.strconv_Atoi (dec n) (n : Int) hl (atoi_dec n) w).mono ?_
  rintro e w' ⟨rfl, t, rfl⟩
  exact ⟨rfl, below_bytes w _ t⟩
theorem Parse_dec (n : Nat) (hn : n ≤ 4294967295) (w : World) : Calls Tryz.prog 40 #[.string (dec n), .int .i64 10, .int .i64 32] w fun e w' => e = .returned (.tuple #[.int .u64 (n : Int), .nilIface]) ∧ Below w.heap.size w w' := by
  refine (Tryz.strconv_ParseUint_10_at32_ok (dec n) (by have := dec_len n hn; simp only [ByteArray.size]; simp at this ⊢; omega) n (parse_dec n hn) w).mono ?_
  rintro e w' ⟨rfl, rfl | rfl⟩
  · exact ⟨rfl, Below.refl _ _⟩
  · exact ⟨rfl, below_bytes w _ _⟩
set_option maxRecDepth 100000 in
set_option maxHeartbeats 4000000 in
theorem TRead_text {t : Trm} (h : t.Right) (w : World) (hw : Lens w) (hp : Pows w) (m : Int) (hm : w.cell? ⟨3, 0, none⟩ = some (.int .i64 m)) (te : TypeId) (pe : Value) (hR : w.cell? ⟨0, 0, none⟩ = some (.iface te pe)) :
    Calls Tryz.prog 20 #[.string t.text] w fun e w' => e = .returned (.tuple #[t.v, .nilIface]) ∧ Below w.heap.size w w' := by
  have hT := fun W h1 h2 => TText_yes h (by have := t.len h; omega) W h1 h2
  have hsz := t.size h
  have hge9 := text_ge h
  have hsp8 := t.split h 8 (by omega)
  have hs8 : t.l = t.l := rfl
  obtain ⟨s, hs⟩ : ∃ s, t.text = s := ⟨_, rfl⟩
  rw [hs] at hT hsz hge9 hsp8 ⊢
  have hmin : min 9 (s.size + 1) = 9 := by omega
  obtain ⟨K, P, R, B, M, S, F, G⟩ := t
  obtain ⟨hK, ⟨hR1, hB⟩, hP, hM, hS, hF, hG⟩ := h
  dsimp only at hK hR1 hB hP hM hS hF hG
  obtain ⟨M, rfl⟩ : ∃ n : Nat, M = n := ⟨M.toNat, by omega⟩
  obtain ⟨G, rfl⟩ : ∃ n : Nat, G = n := ⟨G.toNat, by omega⟩
  unfold Trm.l at hsp8
  unfold Trm.v at hT ⊢
  dsimp only at hT hsp8 ⊢
  rw [itS_dec, itS_dec] at hsp8
  have hk := name_ok hK
  have hb := basis_ok hB
  obtain ⟨s0, q0⟩ : ∃ s, nameB K = s := ⟨_, rfl⟩
  obtain ⟨s1, q1⟩ : ∃ s, textC P = s := ⟨_, rfl⟩
  obtain ⟨s2, q2⟩ : ∃ s, dec R = s := ⟨_, rfl⟩
  obtain ⟨s3, q3⟩ : ∃ s, spanB (B : Int) = s := ⟨_, rfl⟩
  obtain ⟨s4, q4⟩ : ∃ s, dec M = s := ⟨_, rfl⟩
  obtain ⟨s5, q5⟩ : ∃ s, dayText S = s := ⟨_, rfl⟩
  obtain ⟨s6, q6⟩ : ∃ s, textC F = s := ⟨_, rfl⟩
  obtain ⟨s7, q7⟩ : ∃ s, dec G = s := ⟨_, rfl⟩
  rw [q0, q1, q2, q3, q4, q5, q6, q7] at hsp8
  rw [q0] at hk
  rw [q3] at hb
  have hkk := hk.2.2
  have hbb := hb.2.2
  clear hk hb hs8
  have hb0 := (Below.refl _ w).alloc (Nat.le_refl _) (.cells #[.int .u8 0, .int .i64 0, .int .u32 0, .int .u8 0, .int .i64 0, .int .i32 0, .int .i64 0, .int .i64 0] 28)
  have hbx := Blk.new w 28 #[.int .u8 0, .int .i64 0, .int .u32 0, .int .u8 0, .int .i64 0, .int .i32 0, .int .i64 0, .int .i64 0]
  obtain ⟨W1, hW1⟩ : ∃ W, w.alloc (.cells #[.int .u8 0, .int .i64 0, .int .u32 0, .int .u8 0, .int .i64 0, .int .i32 0, .int .i64 0, .int .i64 0] 28) = W := ⟨_, rfl⟩
  have hg0 : W1.heap.size = w.heap.size + 1 := by rw [← hW1]; simp
  rw [hW1] at hb0 hbx
  have cS : Calls Tryz.prog 38 #[.string s, .string ⟨#[32]⟩, .int .i64 9] W1 fun e w' => e = .returned (.slice (some ⟨W1.heap.size, 0, none⟩) 8 9) ∧ w' = W1.alloc (.cells #[.string s0, .string s1, .string s2, .string s3, .string s4, .string s5, .string s6, .string s7, .string ByteArray.empty] 9) := by
    have := Tryz.strings_SplitN s ⟨#[32]⟩ 9 m W1 (by omega) ((hb0.cell (block_lt_of_cell hm)).trans hm) (by decide) (by decide) (by decide)
    rw [hmin, hsp8] at this
    exact this
  have hb1 := hb0.alloc (by omega) (.cells #[.string s0, .string s1, .string s2, .string s3, .string s4, .string s5, .string s6, .string s7, .string ByteArray.empty] 9)
  have hbs := Blk.new W1 9 #[.string s0, .string s1, .string s2, .string s3, .string s4, .string s5, .string s6, .string s7, .string ByteArray.empty]
  obtain ⟨W2, hW2⟩ : ∃ W, W1.alloc (.cells #[.string s0, .string s1, .string s2, .string s3, .string s4, .string s5, .string s6, .string s7, .string ByteArray.empty] 9) = W := ⟨_, rfl⟩
  have hbx2 := hbx.below ((Below.refl W1.heap.size W1).alloc (Nat.le_refl _) (.cells #[.string s0, .string s1, .string s2, .string s3, .string s4, .string s5, .string s6, .string s7, .string ByteArray.empty] 9)) hbx.lt
  rw [hW2] at hb1 hbs hbx2 cS
  obtain ⟨g, hg⟩ : ∃ g, W1.heap.size = g := ⟨_, rfl⟩
  obtain ⟨b, hb⟩ : ∃ b, w.heap.size = b := ⟨_, rfl⟩
  rw [hg] at cS hbs
  rw [hb] at hbx2 hbx
  have HB := Lib.hid hb
  clear hbx
  go_enter Tryz.func20, Tryz.ntmps20
  rw [hb]
  go_wp2_with fail
  refine cS.mono ?_
  rintro e W2 ⟨rfl, rfl⟩
  clear cS hW1 hW2 hb
  obtain ⟨c0, c1, c2, c3, c4, c5, c6, c7⟩ := blk9 hbs
  have CC := q1 ▸ Read_any P (by omega) W2 m ((hb1.cell (block_lt_of_cell hm)).trans hm) te pe ((hb1.cell (block_lt_of_cell hR)).trans hR)
  have HX := Lib.hid hbx2
  have HS := Lib.hid hbs
  have HBB := Lib.hid hb1
  clear hbx2 hbs hb1
  go_wp2_with fail
  refine CC.mono ?_
  rintro e W3 ⟨rfl, hn⟩
  have hbs := HS.out.below hn HS.out.lt
  have hbx2 := HX.out.below hn HX.out.lt
  have hb2 := HBB.out.trans (hn.mono HBB.out.size)
  clear CC HX HS HBB hn c0 c1 c2 c3 c4 c5 c6 c7
  obtain ⟨c0, c1, c2, c3, c4, c5, c6, c7⟩ := blk9 hbs
  have CC := q2 ▸ Parse_dec R (by omega) W3
  have HX := Lib.hid hbx2
  have HS := Lib.hid hbs
  have HBB := Lib.hid hb2
  clear hbx2 hbs hb2
  go_wp2_with fail
  refine CC.mono ?_
  rintro e W4 ⟨rfl, hn⟩
  have hbs := HS.out.below hn HS.out.lt
  have hbx2 := HX.out.below hn HX.out.lt
  have hb3 := HBB.out.trans (hn.mono HBB.out.size)
  clear CC HX HS HBB hn c0 c1 c2 c3 c4 c5 c6 c7
  obtain ⟨c0, c1, c2, c3, c4, c5, c6, c7⟩ := blk9 hbs
  have CC := q4 ▸ Atoi_dec M (by omega) W4
  have HX := Lib.hid hbx2
  have HS := Lib.hid hbs
  have HBB := Lib.hid hb3
  clear hbx2 hbs hb3
  go_wp2_with fail
  refine CC.mono ?_
  rintro e W5 ⟨rfl, hn⟩
  have hbs := HS.out.below hn HS.out.lt
  have hbx2 := HX.out.below hn HX.out.lt
  have hb4 := HBB.out.trans (hn.mono HBB.out.size)
  clear CC HX HS HBB hn c0 c1 c2 c3 c4 c5 c6 c7
  obtain ⟨c0, c1, c2, c3, c4, c5, c6, c7⟩ := blk9 hbs
  have CC := q5 ▸ Read_text S (by omega) (by omega) W5 (hw.below hb4) (hp.below hb4)
  have HX := Lib.hid hbx2
  have HS := Lib.hid hbs
  have HBB := Lib.hid hb4
  clear hbx2 hbs hb4
  go_wp2_with fail
  refine CC.mono ?_
  rintro e W6 ⟨rfl, hn⟩
  have hbs := HS.out.below hn HS.out.lt
  have hbx2 := HX.out.below hn HX.out.lt
  have hb5 := HBB.out.trans (hn.mono HBB.out.size)
  clear CC HX HS HBB hn c0 c1 c2 c3 c4 c5 c6 c7
  obtain ⟨c0, c1, c2, c3, c4, c5, c6, c7⟩ := blk9 hbs
  have CC := q6 ▸ Read_any F (by omega) W6 m ((hb5.cell (block_lt_of_cell hm)).trans hm) te pe ((hb5.cell (block_lt_of_cell hR)).trans hR)
  have HX := Lib.hid hbx2
  have HS := Lib.hid hbs
  have HBB := Lib.hid hb5
  clear hbx2 hbs hb5
  go_wp2_with fail
  refine CC.mono ?_
  rintro e W7 ⟨rfl, hn⟩
  have hbs := HS.out.below hn HS.out.lt
  have hbx2 := HX.out.below hn HX.out.lt
  have hb6 := HBB.out.trans (hn.mono HBB.out.size)
  clear CC HX HS HBB hn c0 c1 c2 c3 c4 c5 c6 c7
  obtain ⟨c0, c1, c2, c3, c4, c5, c6, c7⟩ := blk9 hbs
  have CC := q7 ▸ Atoi_dec G (by omega) W7
  have HX := Lib.hid hbx2
  have HS := Lib.hid hbs
  have HBB := Lib.hid hb6
  clear hbx2 hbs hb6
  go_wp2_with fail
  refine CC.mono ?_
  rintro e W8 ⟨rfl, hn⟩
  have hbs := HS.out.below hn HS.out.lt
  have hbx2 := HX.out.below hn HX.out.lt
  have hb7 := HBB.out.trans (hn.mono HBB.out.size)
  clear CC HX HS HBB hn c0 c1 c2 c3 c4 c5 c6 c7
  obtain ⟨c0, c1, c2, c3, c4, c5, c6, c7⟩ := blk9 hbs
  have hw2 : IntKind.u32.wrap (R : Int) = (R : Int) := by rw [IntKind.wrap_u32]; omega
  have HX := Lib.hid hbx2
  have HS := Lib.hid hbs
  have HBB := Lib.hid hb7
  clear hbx2 hbs hb7
  go_wp2_with fail
  refine wp_region_flow_last (l := [{ dst := some 91, op := Go.Op.move (Go.Operand.tmp 4), type := 108, pos := "terms.go:145", after := #[], guard := none }, { dst := some 92, op := Go.Op.indexAddr 108 (Go.Operand.tmp 91) (Go.Operand.const (Go.Value.int Go.IntKind.i64 0)), type := 0, pos := "terms.go:145", after := #[{ on := 0, ground := Go.Ground.data }], guard := none }, { dst := some 93, op := Go.Op.load 9 (Go.Operand.tmp 92), type := 9, pos := "terms.go:145", after := #[{ on := 1, ground := Go.Ground.data }], guard := none }, { dst := some 94, op := Go.Op.call { callee := Go.Callee.value (Go.Operand.func 43), args := #[Go.Operand.tmp 93], argTypes := #[9] }, type := 5, pos := "terms.go:146", after := #[{ on := 2, ground := Go.Ground.data }], guard := none }, { dst := some 95, op := Go.Op.move (Go.Operand.tmp 5), type := 22, pos := "terms.go:145", after := #[], guard := none }, { dst := some 96, op := Go.Op.move (Go.Operand.tmp 7), type := 50, pos := "terms.go:145", after := #[], guard := none }, { dst := some 97, op := Go.Op.convert 50 23 (Go.Operand.tmp 96), type := 23, pos := "terms.go:145", after := #[{ on := 5, ground := Go.Ground.data }], guard := none }, { dst := some 98, op := Go.Op.move (Go.Operand.tmp 4), type := 108, pos := "terms.go:145", after := #[], guard := none }, { dst := some 99, op := Go.Op.indexAddr 108 (Go.Operand.tmp 98) (Go.Operand.const (Go.Value.int Go.IntKind.i64 3)), type := 0, pos := "terms.go:145", after := #[{ on := 7, ground := Go.Ground.data }], guard := none }, { dst := some 100, op := Go.Op.load 9 (Go.Operand.tmp 99), type := 9, pos := "terms.go:145", after := #[{ on := 8, ground := Go.Ground.data }], guard := none }, { dst := some 101, op := Go.Op.call { callee := Go.Callee.value (Go.Operand.func 44), args := #[Go.Operand.tmp 100], argTypes := #[9] }, type := 5, pos := "terms.go:148", after := #[{ on := 9, ground := Go.Ground.data }, { on := 3, ground := Go.Ground.chain }], guard := none }, { dst := some 102, op := Go.Op.build 25 #[(0, Go.Operand.tmp 97), (1, Go.Operand.tmp 101)], type := 25, pos := "terms.go:145", after := #[{ on := 6, ground := Go.Ground.data }, { on := 10, ground := Go.Ground.data }], guard := none }, { dst := some 103, op := Go.Op.move (Go.Operand.tmp 9), type := 3, pos := "terms.go:145", after := #[], guard := none }, { dst := some 104, op := Go.Op.move (Go.Operand.tmp 11), type := 26, pos := "terms.go:145", after := #[], guard := none }, { dst := some 105, op := Go.Op.move (Go.Operand.tmp 13), type := 22, pos := "terms.go:145", after := #[], guard := none }, { dst := some 106, op := Go.Op.move (Go.Operand.tmp 15), type := 3, pos := "terms.go:145", after := #[], guard := none }, { dst := some 107, op := Go.Op.build 28 #[(0, Go.Operand.tmp 94), (1, Go.Operand.tmp 95), (2, Go.Operand.tmp 102), (3, Go.Operand.tmp 103), (4, Go.Operand.tmp 104), (5, Go.Operand.tmp 105), (6, Go.Operand.tmp 106)], type := 28, pos := "terms.go:145", after := #[{ on := 3, ground := Go.Ground.data }, { on := 4, ground := Go.Ground.data }, { on := 11, ground := Go.Ground.data }, { on := 12, ground := Go.Ground.data }, { on := 13, ground := Go.Ground.data }, { on := 14, ground := Go.Ground.data }, { on := 15, ground := Go.Ground.data }], guard := none }, { dst := some 17, op := Go.Op.alloc 28, type := 0, pos := "terms.go:145", after := #[], guard := none }]) (ol := { dst := none, op := Go.Op.store 28 (Go.Operand.tmp 17) (Go.Operand.tmp 107), type := 0, pos := "terms.go:145", after := #[{ on := 17, ground := Go.Ground.data }, { on := 16, ground := Go.Ground.data }, { on := 10, ground := Go.Ground.chain }, { on := 0, ground := Go.Ground.phase }, { on := 1, ground := Go.Ground.phase }, { on := 2, ground := Go.Ground.phase }, { on := 3, ground := Go.Ground.phase }, { on := 4, ground := Go.Ground.phase }, { on := 5, ground := Go.Ground.phase }, { on := 6, ground := Go.Ground.phase }, { on := 7, ground := Go.Ground.phase }, { on := 8, ground := Go.Ground.phase }, { on := 9, ground := Go.Ground.phase }, { on := 10, ground := Go.Ground.phase }, { on := 11, ground := Go.Ground.phase }, { on := 12, ground := Go.Ground.phase }, { on := 13, ground := Go.Ground.phase }, { on := 14, ground := Go.Ground.phase }, { on := 15, ground := Go.Ground.phase }, { on := 16, ground := Go.Ground.phase }, { on := 17, ground := Go.Ground.phase }], guard := none }) rfl [some 91, some 92, some 93, some 94, some 95, some 96, some 97, some 98, some 99, some 100, some 101, some 102, some 103, some 104, some 105, some 106, some 107, some 17] (fun i => ([.is (.slice (some ⟨g, 0, none⟩) 8 9), .is (.pointer (some ⟨g, 0, none⟩)), .is (.string s0), .is (.int .u8 (K : Int)), .is (.int .i64 P), .is (.int .u64 (R : Int)), .is (.int .u32 (R : Int)), .is (.slice (some ⟨g, 0, none⟩) 8 9), .is (.pointer (some ⟨g, 3, none⟩)), .is (.string s3), .is (.int .u8 (B : Int)), .is (.agg #[.int .u32 (R : Int), .int .u8 (B : Int)]), .is (.int .i64 (M : Int)), .is (.int .i32 S), .is (.int .i64 F), .is (.int .i64 (G : Int)), .is (.agg #[.int .u8 (K : Int), .int .i64 P, .int .u32 (R : Int), .int .u8 (B : Int), .int .i64 (M : Int), .int .i32 S, .int .i64 F, .int .i64 (G : Int)]), boxF W8.heap.size 28 #[.int .u8 0, .int .i64 0, .int .u32 0, .int .u8 0, .int .i64 0, .int .i32 0, .int .i64 0, .int .i64 0]] : List Flw).getD i .any) (by kernel_rfl) (by kernel_rfl) (by kernel_rfl) rfl rfl ?_ ?_
  · have CK : ∀ W', Calls Tryz.prog 43 #[.string s0] W' fun e w' => e = .returned (.int .u8 (K : Int)) ∧ Below W'.heap.size W' w' := fun W' => (Kind_any s0 W').mono fun e w' ⟨h1, h2⟩ => ⟨by rw [h1, hkk], by rw [h2]; exact Below.refl _ _⟩
    have CB : ∀ W', Calls Tryz.prog 44 #[.string s3] W' fun e w' => e = .returned (.int .u8 (B : Int)) ∧ Below W'.heap.size W' w' := fun W' => (Basis_any s3 W').mono fun e w' ⟨h1, h2⟩ => ⟨by rw [h1, hbb], by rw [h2]; exact Below.refl _ _⟩
    have L0 : ∀ W', Below W8.heap.size W8 W' → (Instr.loadAt 9 (.pointer (some ⟨g, 0, none⟩))).run Tryz.prog W' = .ok (.string s0) W' := fun W' hb => by
      have c0 := (blk9 (HS.out.below hb HS.out.lt)).1
      go_simp
    have L3 : ∀ W', Below W8.heap.size W8 W' → (Instr.loadAt 9 (.pointer (some ⟨g, 3, none⟩))).run Tryz.prog W' = .ok (.string s3) W' := fun W' hb => by
      have c0 := (blk9 (HS.out.below hb HS.out.lt)).2.2.2.1
      go_simp
    clear hT c0 c1 c2 c3 c4 c5 c6 c7 q0 q1 q2 q3 q4 q5 q6 q7 hkk hbb
    refine ⟨step_free rfl (fun aF wF hs hb => ?_), ?_⟩
    · obtain ⟨x0, -⟩ := hs
      have e0 : aF.eval (.tmp 4) = .slice (some ⟨g, 0, none⟩) 8 9 := x0
      exact opC_move e0 ⟨rfl, below_same wF⟩
    refine ⟨step_free rfl (fun aF wF hs hb => ?_), ?_⟩
    · obtain ⟨x0, -⟩ := hs
      have e0 : aF.eval (.tmp 91) = .slice (some ⟨g, 0, none⟩) 8 9 := x0
      refine opC_value (v := .pointer (some ⟨g, 0, none⟩)) ?_ ⟨rfl, below_same wF⟩
      have t0 := ev_of e0
      simp [execOp, go_sem, t0]
    refine ⟨step_free rfl (fun aF wF hs hb => ?_), ?_⟩
    · obtain ⟨x0, -⟩ := hs
      have e0 : aF.eval (.tmp 92) = .pointer (some ⟨g, 0, none⟩) := x0
      exact opC_load e0 (L0 wF hb) ⟨rfl, below_same wF⟩
    refine ⟨step_free rfl (fun aF wF hs hb => ?_), ?_⟩
    · obtain ⟨x0, -⟩ := hs
      have e0 : aF.eval (.tmp 93) = .string s0 := x0
      exact opC_call (args := #[.string s0]) (enters9 Tryz.func43 (by kernel_rfl) rfl) (by simp [e0]) (CK wF) (fun _ h => ⟨rfl, h⟩)
    refine ⟨step_free rfl (fun aF wF hs hb => ?_), ?_⟩
    · obtain ⟨x0, -⟩ := hs
      have e0 : aF.eval (.tmp 5) = .int .i64 P := x0
      exact opC_move e0 ⟨rfl, below_same wF⟩
    refine ⟨step_free rfl (fun aF wF hs hb => ?_), ?_⟩
    · obtain ⟨x0, -⟩ := hs
      have e0 : aF.eval (.tmp 7) = .int .u64 (R : Int) := x0
      exact opC_move e0 ⟨rfl, below_same wF⟩
    refine ⟨step_free rfl (fun aF wF hs hb => ?_), ?_⟩
    · obtain ⟨x0, -⟩ := hs
      have e0 : aF.eval (.tmp 96) = .int .u64 (R : Int) := x0
      refine opC_value (v := .int .u32 (R : Int)) ?_ ⟨rfl, below_same wF⟩
      simp [execOp, go_sem, ev_of e0, hw2]
    refine ⟨step_free rfl (fun aF wF hs hb => ?_), ?_⟩
    · obtain ⟨x0, -⟩ := hs
      have e0 : aF.eval (.tmp 4) = .slice (some ⟨g, 0, none⟩) 8 9 := x0
      exact opC_move e0 ⟨rfl, below_same wF⟩
    refine ⟨step_free rfl (fun aF wF hs hb => ?_), ?_⟩
    · obtain ⟨x0, -⟩ := hs
      have e0 : aF.eval (.tmp 98) = .slice (some ⟨g, 0, none⟩) 8 9 := x0
      refine opC_value (v := .pointer (some ⟨g, 3, none⟩)) ?_ ⟨rfl, below_same wF⟩
      have t0 := ev_of e0
      simp [execOp, go_sem, t0]
    refine ⟨step_free rfl (fun aF wF hs hb => ?_), ?_⟩
    · obtain ⟨x0, -⟩ := hs
      have e0 : aF.eval (.tmp 99) = .pointer (some ⟨g, 3, none⟩) := x0
      exact opC_load e0 (L3 wF hb) ⟨rfl, below_same wF⟩
    refine ⟨step_free rfl (fun aF wF hs hb => ?_), ?_⟩
    · obtain ⟨x0, -⟩ := hs
      have e0 : aF.eval (.tmp 100) = .string s3 := x0
      exact opC_call (args := #[.string s3]) (enters9 Tryz.func44 (by kernel_rfl) rfl) (by simp [e0]) (CB wF) (fun _ h => ⟨rfl, h⟩)
    refine ⟨step_free rfl (fun aF wF hs hb => ?_), ?_⟩
    · obtain ⟨x0, x1, -⟩ := hs
      have e0 : aF.eval (.tmp 97) = .int .u32 (R : Int) := x0
      have e1 : aF.eval (.tmp 101) = .int .u8 (B : Int) := x1
      refine opC_value (v := .agg #[.int .u32 (R : Int), .int .u8 (B : Int)]) ?_ ⟨rfl, below_same wF⟩
      have t0 := ev_of e0
      have t1 := ev_of e1
      simp [execOp, go_sem, t0, t1]
    refine ⟨step_free rfl (fun aF wF hs hb => ?_), ?_⟩
    · obtain ⟨x0, -⟩ := hs
      have e0 : aF.eval (.tmp 9) = .int .i64 (M : Int) := x0
      exact opC_move e0 ⟨rfl, below_same wF⟩
    refine ⟨step_free rfl (fun aF wF hs hb => ?_), ?_⟩
    · obtain ⟨x0, -⟩ := hs
      have e0 : aF.eval (.tmp 11) = .int .i32 S := x0
      exact opC_move e0 ⟨rfl, below_same wF⟩
    refine ⟨step_free rfl (fun aF wF hs hb => ?_), ?_⟩
    · obtain ⟨x0, -⟩ := hs
      have e0 : aF.eval (.tmp 13) = .int .i64 F := x0
      exact opC_move e0 ⟨rfl, below_same wF⟩
    refine ⟨step_free rfl (fun aF wF hs hb => ?_), ?_⟩
    · obtain ⟨x0, -⟩ := hs
      have e0 : aF.eval (.tmp 15) = .int .i64 (G : Int) := x0
      exact opC_move e0 ⟨rfl, below_same wF⟩
    refine ⟨step_free rfl (fun aF wF hs hb => ?_), ?_⟩
    · obtain ⟨x0, x1, x2, x3, x4, x5, x6, -⟩ := hs
      have e0 : aF.eval (.tmp 94) = .int .u8 (K : Int) := x0
      have e1 : aF.eval (.tmp 95) = .int .i64 P := x1
      have e2 : aF.eval (.tmp 102) = .agg #[.int .u32 (R : Int), .int .u8 (B : Int)] := x2
      have e3 : aF.eval (.tmp 103) = .int .i64 (M : Int) := x3
      have e4 : aF.eval (.tmp 104) = .int .i32 S := x4
      have e5 : aF.eval (.tmp 105) = .int .i64 F := x5
      have e6 : aF.eval (.tmp 106) = .int .i64 (G : Int) := x6
      refine opC_value (v := .agg #[.int .u8 (K : Int), .int .i64 P, .int .u32 (R : Int), .int .u8 (B : Int), .int .i64 (M : Int), .int .i32 S, .int .i64 F, .int .i64 (G : Int)]) ?_ ⟨rfl, below_same wF⟩
      have t0 := ev_of e0
      have t1 := ev_of e1
      have t2 := ev_of e2
      have t3 := ev_of e3
      have t4 := ev_of e4
      have t5 := ev_of e5
      have t6 := ev_of e6
      simp [execOp, go_sem, t0, t1, t2, t3, t4, t5, t6]
    refine ⟨step_free rfl (fun aF wF hs hb => ?_), ?_⟩
    · refine opC_alloc (cs := #[.int .u8 0, .int .i64 0, .int .u32 0, .int .u8 0, .int .i64 0, .int .i32 0, .int .i64 0, .int .i64 0]) (by go_simp) ⟨⟨wF.heap.size, rfl, ?_, ?_⟩, ?_⟩
      · exact hb.size
      · exact heap_alloc_new wF _
      · exact b_alloc wF _
    exact trivial
  · intro f w9 hf hb9
    obtain ⟨g8, e8, hg8, hk8⟩ : (boxF W8.heap.size 28 #[.int .u8 0, .int .i64 0, .int .u32 0, .int .u8 0, .int .i64 0, .int .i32 0, .int .i64 0, .int .i64 0]).p (f 17) w9 := hf 17 17 rfl
    have e107 : f 16 = .agg #[.int .u8 (K : Int), .int .i64 P, .int .u32 (R : Int), .int .u8 (B : Int), .int .i64 (M : Int), .int .i32 S, .int .i64 F, .int .i64 (G : Int)] := hf 16 107 rfl
    simp only [putF, Act.put, List.setIfInBounds_toArray, List.set_cons_zero, List.set_cons_succ]
    rw [e8, e107]
    obtain ⟨k0, k1, k2, k3, k4, k5, k6, k7⟩ := blk8 hk8
    have z0 := Blk.frozen hk8 0
    have z1 := Blk.frozen hk8 1
    have z2 := Blk.frozen hk8 2
    have z3 := Blk.frozen hk8 3
    have z4 := Blk.frozen hk8 4
    have z5 := Blk.frozen hk8 5
    have z6 := Blk.frozen hk8 6
    have z7 := Blk.frozen hk8 7
    constructor
    go_simp
    have n8 := ((((((((Blk.set_ hk8 0 (.int .u8 (K : Int))).set_ 1 (.int .i64 P)).set_ 2 (.int .u32 (R : Int))).set_ 3 (.int .u8 (B : Int))).set_ 4 (.int .i64 (M : Int))).set_ 5 (.int .i32 S)).set_ 6 (.int .i64 F)).set_ 7 (.int .i64 (G : Int)))
    have b8 := ((((((((hb9.setCell hg8 (.int .u8 (K : Int)) (p := ⟨g8, 0, none⟩)).setCell hg8 (.int .i64 P) (p := ⟨g8, 1, none⟩)).setCell hg8 (.int .u32 (R : Int)) (p := ⟨g8, 2, none⟩)).setCell hg8 (.int .u8 (B : Int)) (p := ⟨g8, 3, none⟩)).setCell hg8 (.int .i64 (M : Int)) (p := ⟨g8, 4, none⟩)).setCell hg8 (.int .i32 S) (p := ⟨g8, 5, none⟩)).setCell hg8 (.int .i64 F) (p := ⟨g8, 6, none⟩)).setCell hg8 (.int .i64 (G : Int)) (p := ⟨g8, 7, none⟩))
    obtain ⟨V9, hV⟩ : ∃ V, ((((((((w9.setCell ⟨g8, 0, none⟩ (.int .u8 (K : Int))).setCell ⟨g8, 1, none⟩ (.int .i64 P)).setCell ⟨g8, 2, none⟩ (.int .u32 (R : Int))).setCell ⟨g8, 3, none⟩ (.int .u8 (B : Int))).setCell ⟨g8, 4, none⟩ (.int .i64 (M : Int))).setCell ⟨g8, 5, none⟩ (.int .i32 S)).setCell ⟨g8, 6, none⟩ (.int .i64 F)).setCell ⟨g8, 7, none⟩ (.int .i64 (G : Int))) = V := ⟨_, rfl⟩
    rw [hV] at n8 b8 ⊢
    simp only [List.setIfInBounds_toArray, List.set_cons_zero, List.set_cons_succ] at n8
    have hx9 := HX.out.below b8 HX.out.lt
    have hbw := HBB.out.trans (b8.mono HBB.out.size)
    have hTV := hT V9 (hw.below hbw) (hp.below hbw)
    clear hV b8 hb9 hk8 hg8 k0 k1 k2 k3 k4 k5 k6 k7 z0 z1 z2 z3 z4 z5 z6 z7 e8 e107 hf c0 c1 c2 c3 c4 c5 c6 c7 hT
    obtain ⟨k0, k1, k2, k3, k4, k5, k6, k7⟩ := blk8 n8
    have HN := Lib.hid n8
    have HX9 := Lib.hid hx9
    have HBW := Lib.hid hbw
    clear n8 hx9 hbw HX HS HBB
    simp only [comesC]
    go_wp2_with fail
    refine hTV.mono ?_
    rintro e w11 ⟨rfl, hb11⟩
    have n11 := HN.out.below hb11 HN.out.lt
    have x11 := HX9.out.below hb11 HX9.out.lt
    have hbw := HBW.out.trans (hb11.mono HBW.out.size)
    clear hTV hb11 k0 k1 k2 k3 k4 k5 k6 k7
    obtain ⟨k0, k1, k2, k3, k4, k5, k6, k7⟩ := blk8 n11
    obtain ⟨x0, x1, x2, x3, x4, x5, x6, x7⟩ := blk8 x11
    have z0 := Blk.frozen x11 0
    have z1 := Blk.frozen x11 1
    have z2 := Blk.frozen x11 2
    have z3 := Blk.frozen x11 3
    have z4 := Blk.frozen x11 4
    have z5 := Blk.frozen x11 5
    have z6 := Blk.frozen x11 6
    have z7 := Blk.frozen x11 7
    have y11 := ((((((((x11.set_ 0 (.int .u8 (K : Int))).set_ 1 (.int .i64 P)).set_ 2 (.int .u32 (R : Int))).set_ 3 (.int .u8 (B : Int))).set_ 4 (.int .i64 (M : Int))).set_ 5 (.int .i32 S)).set_ 6 (.int .i64 F)).set_ 7 (.int .i64 (G : Int)))
    have b11 := ((((((((hbw.setCell (Nat.le_of_eq HB.out) (.int .u8 (K : Int)) (p := ⟨b, 0, none⟩)).setCell (Nat.le_of_eq HB.out) (.int .i64 P) (p := ⟨b, 1, none⟩)).setCell (Nat.le_of_eq HB.out) (.int .u32 (R : Int)) (p := ⟨b, 2, none⟩)).setCell (Nat.le_of_eq HB.out) (.int .u8 (B : Int)) (p := ⟨b, 3, none⟩)).setCell (Nat.le_of_eq HB.out) (.int .i64 (M : Int)) (p := ⟨b, 4, none⟩)).setCell (Nat.le_of_eq HB.out) (.int .i32 S) (p := ⟨b, 5, none⟩)).setCell (Nat.le_of_eq HB.out) (.int .i64 F) (p := ⟨b, 6, none⟩)).setCell (Nat.le_of_eq HB.out) (.int .i64 (G : Int)) (p := ⟨b, 7, none⟩))
    have Y11 := Lib.hid y11
    have B11 := Lib.hid b11
    clear n11 x11 hbw y11 b11 HN HX9 HBW
    go_wp2_with fail
    have y12 := Y11.out
    have b12 := B11.out
    simp only [List.setIfInBounds_toArray, List.set_cons_zero, List.set_cons_succ] at y12
    obtain ⟨V12, hV⟩ : ∃ V, ((((((((w11.setCell ⟨b, 0, none⟩ (.int .u8 (K : Int))).setCell ⟨b, 1, none⟩ (.int .i64 P)).setCell ⟨b, 2, none⟩ (.int .u32 (R : Int))).setCell ⟨b, 3, none⟩ (.int .u8 (B : Int))).setCell ⟨b, 4, none⟩ (.int .i64 (M : Int))).setCell ⟨b, 5, none⟩ (.int .i32 S)).setCell ⟨b, 6, none⟩ (.int .i64 F)).setCell ⟨b, 7, none⟩ (.int .i64 (G : Int))) = V := ⟨_, rfl⟩
    rw [hV] at y12 b12 ⊢
    obtain ⟨m0, m1, m2, m3, m4, m5, m6, m7⟩ := blk8 y12
    exact bodyPost_ret (v := .tuple #[.agg #[.int .u8 (K : Int), .int .i64 P, .int .u32 (R : Int), .int .u8 (B : Int), .int .i64 (M : Int), .int .i32 S, .int .i64 F, .int .i64 (G : Int)], .nilIface]) (by simp [results, Tryz.results20, go_sem, m0, m1, m2, m3, m4, m5, m6, m7, Result.andThen]) rfl ⟨rfl, HB.out ▸ b12⟩
end Go.Proofs.YtpbfipeinblfgaaGreatDoor
