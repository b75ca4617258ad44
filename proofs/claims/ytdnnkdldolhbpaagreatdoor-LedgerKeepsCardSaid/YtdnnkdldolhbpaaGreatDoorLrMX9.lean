/-
What the reference adds, the ledger adds: in numbers. No condition.
The ledger and the reference's, side by side, while one act is done on each, in any order. No condition.
One act on both: a Post. Conditions: both ledgers are there, and stand apart.
One act on both: a Reverse, in numbers. No condition.
-/
import Derived.Test.YtdnnkdldolhbpaaGreatDoorLrHX9
import Derived.Test.YtdnnkdldolhbpaaGreatDoorLedLX9
import Derived.Test.YtdnnkdldolhbpaaGreatDoorFlowIX9
import Derived.Test.YtdnnkdldolhbpaaGreatDoorLedSX9
namespace Go.Proofs.YtdnnkdldolhbpaaGreatDoor
open Go.ChangeShapes Go.WideShapes Go.ChangeAt Go.RowKit Go.Maps

theorem amtG_no {c : Nat} : ∀ {l : List (Nat × Int)}, (∀ g ∈ l, g.1 ≠ c) → amtG c l = []
  | [], _ => rfl
  | g :: r, h => by
    unfold amtG
    rw [if_neg (h g List.mem_cons_self), amtG_no fun g' hg => h g' (List.mem_cons_of_mem _ hg)]
theorem amt_rise {c : Nat} : ∀ {l : List (Nat × Int)}, Rise l → (amtG c l = [] ∧ legS c l = 0) ∨ ∃ z, amtG c l = [z] ∧ legS c l = z
  | [], _ => .inl ⟨rfl, rfl⟩
  | g :: r, h => by
    obtain ⟨h1, h2⟩ := List.pairwise_cons.1 h
    by_cases hc : g.1 = c
    · have hne : ∀ g' ∈ r, g'.1 ≠ c := fun g' hg => by have := h1 g' hg; omega
      refine .inr ⟨g.2, ?_, ?_⟩
      · unfold amtG
        rw [if_pos hc, amtG_no hne]
      · unfold legS
        rw [if_pos hc, legS_no hne]
        omega
    · have ih := amt_rise (c := c) (l := r) h2
      unfold amtG legS
      rw [if_neg hc, if_neg hc, Int.zero_add]
      exact ih
theorem sumO_legs {L : List Int} {s : Int} (hL : sumO L = some s) {l : List (Nat × Int)} (hl : Rise l) (c : Nat) : sumO (L ++ amtG c l) = if Fits (s + legS c l) then some (s + legS c l) else none := by
  rcases amt_rise (c := c) hl with ⟨h1, h2⟩ | ⟨z, h1, h2⟩
  · rw [h1, h2, List.append_nil, Int.add_zero, if_pos (sumO_fits _ _ hL), hL]
  · rw [h1, h2, sumO_snoc, hL]
    rfl
theorem sumO_lines {p : Ky → Bool} {c : Nat} {M : List Li} (hf : ∀ n, fitB (sumB p c (M.take n)) = true) (hr : ∀ x ∈ M, Rise x.l) : sumO (amtL p c M) = some (sumB p c M) := by
  have : ∀ n, n ≤ M.length → sumO (amtL p c (M.take n)) = some (sumB p c (M.take n)) := by
    intro n
    induction n with
    | zero => intro _; rfl
    | succ n ih =>
      intro hn
      have ih := ih (by omega)
      have hfn := hf (n + 1)
      rw [amtL_take p c (show n < M.length by omega)]
      rw [List.take_succ_eq_append_getElem (show n < M.length by omega), sumB_snoc] at hfn ⊢
      split
      · rename_i hp
        rw [if_pos hp] at hfn
        rw [sumO_legs ih (hr _ (List.getElem_mem _)) c]
        exact if_pos (fitB_iff.1 hfn)
      · rename_i hp
        rw [List.append_nil, ih]
        simp
  have h := this M.length (Nat.le_refl _)
  rwa [List.take_length] at h
theorem okW_rise {f : Nat → Int} {l : List (Nat × Int)} (hl : Rise l) : okW f l ↔ ∀ g ∈ l, fitB (f g.1 + g.2) = true := by
  have key : ∀ j (h : j < l.length), plusL f (l.take j) (l[j]).1 = f (l[j]).1 := fun j h => by
    unfold plusL
    rw [legS_no (fun g hg => ?_), Int.add_zero]
    obtain ⟨i, hi, rfl⟩ := List.getElem_of_mem hg
    have hij : i < j := by
      rw [List.length_take] at hi
      omega
    rw [List.getElem_take]
    have := List.pairwise_iff_getElem.1 hl i j (by omega) h hij
    omega
  refine ⟨fun h g hg => ?_, fun h j hj => ?_⟩
  · obtain ⟨j, hj, rfl⟩ := List.getElem_of_mem hg
    have := h j hj
    rwa [key j hj] at this
  · rw [key j hj]
    exact h _ (List.getElem_mem hj)
theorem pSum_own (y : Ky) : pSum false y.a y = true := by simp [pSum]
theorem addOk_iff {M : List Li} (hF : Fine M) {x : Li} (hx : Rise x.l) : addOk M x x.l ↔ okAdd M x.y.a x.l := by
  have hr : ∀ z ∈ M, Rise z.l := fun z hz => (hF.inn z hz).2.2.1
  have h1 : ∀ c, sumO (amtL (pSum false x.y.a) c M) = some (bal M x.y.a c) := fun c => sumO_lines (p := pSum false x.y.a) (fun n => hF.fita n x.y.a c) hr
  have h2 : ∀ c, sumO (amtL (pSum true 0) c M) = some (ctl M c) := fun c => sumO_lines (p := pSum true 0) (fun n => hF.fit n c) hr
  have k1 : ∀ g ∈ x.l, (sumO (amtL (pSum false x.y.a) g.1 (M ++ [x]))).isSome = fitB (bal M x.y.a g.1 + g.2) := fun g hg => by
    rw [amtL_append, show amtL (pSum false x.y.a) g.1 [x] = amtG g.1 x.l from by simp [amtL, pSum_own], sumO_legs (h1 _) hx, legS_rise hx hg]
    split
    · rename_i hh
      exact (fitB_iff.2 hh).symm
    · rename_i hh
      cases e : fitB (bal M x.y.a g.1 + g.2) with
      | false => rfl
      | true => exact absurd (fitB_iff.1 e) hh
  have k2 : ∀ g ∈ x.l, (sumO (amtL (pSum true 0) g.1 (M ++ [x]))).isSome = fitB (ctl M g.1 + g.2) := fun g hg => by
    rw [amtL_append, show amtL (pSum true 0) g.1 [x] = amtG g.1 x.l from by simp [amtL, pSum], sumO_legs (h2 _) hx, legS_rise hx hg]
    split
    · rename_i hh
      exact (fitB_iff.2 hh).symm
    · rename_i hh
      cases e : fitB (ctl M g.1 + g.2) with
      | false => rfl
      | true => exact absurd (fitB_iff.1 e) hh
  unfold okAdd
  rw [okW_rise hx, okW_rise hx]
  refine ⟨fun h => ⟨fun g hg => ?_, fun g hg => ?_⟩, fun h g hg => ⟨?_, ?_⟩⟩
  · rw [← k1 g hg]; exact (h g hg).1
  · rw [← k2 g hg]; exact (h g hg).2
  · rw [k1 g hg]; exact h.1 g hg
  · rw [k2 g hg]; exact h.2 g hg
theorem Fine.tame {M : List Li} (h : Fine M) (hl : M.length ≤ 1000000) : Tame M := ⟨fun x hx => by
  obtain ⟨h1, h2, _, h4, _⟩ := h.inn x hx
  refine ⟨h1, h2, by omega, ?_⟩
  obtain ⟨i, hi, rfl⟩ := List.getElem_of_mem hx
  rcases Nat.eq_zero_or_pos (M[i]).o with e | e
  · omega
  · have := (h.of i _ (List.getElem?_eq_getElem hi) e).1
    omega, hl⟩
end Go.Proofs.YtdnnkdldolhbpaaGreatDoor
namespace Go.Proofs.YtdnnkdldolhbpaaGreatDoor
open Go.ChangeShapes Go.WideShapes Go.ChangeAt Go.RowKit Go.Maps

def noLeg (w : World) (i : Nat) : Prop := ∀ cs, ¬ Blk w i 130 cs
theorem LedL.shy {w : World} {q : Nat} {D : Nat → Prop} {M : List Li} {L : Ky → Option Nat} (h : LedL w q D M L) : LedL w q (fun i => D i ∧ noLeg w i) M L := by
  obtain ⟨lv, V, lm, bm, inn, h1, h2, h3, h4, h5, h6, h7, h8, h9, h10, h11⟩ := h
  have hmap : ∀ {κ : Type} {In : κ → Prop} {enc : κ → Value} {f : κ → Option Value} {b : Nat}, MapF w In enc b f → noLeg w b := fun hm cs hb => blk_map hb hm rfl
  refine ⟨lv, V, lm, bm, inn, h1, h2, ⟨h3.len, h3.y, fun i v x hv hx => ⟨(h3.r i v x hv hx).1, fun p hp => ⟨(h3.r i v x hv hx).2 p hp, fun cs hb => ?_⟩⟩, h3.t⟩, ⟨h4.nil, fun b hb => ?_, fun a r hr => ?_, h4.no, h4.one⟩, ⟨h5.nil, fun b hb => ?_⟩, h6, ⟨h7, fun cs hb => blk_ne hb h1 (by decide) rfl⟩, fun b hb => ⟨h8 b hb, fun cs hc => ?_⟩, fun i hi => h9 i hi.1, h10, h11⟩
  · obtain ⟨cs', hc'⟩ := h3.t i v p hv hp
    exact blk_ne hb hc' (by decide) rfl
  · obtain ⟨k1, k2, k3⟩ := h4.out b hb
    exact ⟨⟨k1, hmap k2⟩, k2, k3⟩
  · obtain ⟨k1, k2⟩ := h4.at_ a r hr
    exact ⟨⟨k1, hmap k2⟩, k2⟩
  · obtain ⟨k1, k2⟩ := h5.out b hb
    exact ⟨⟨k1, hmap k2⟩, k2⟩
  · obtain ⟨cs', hc'⟩ := own_blk14 h2 hb
    exact blk_ne hc hc' (by decide) rfl
theorem noLeg_keep {w w' : World} {i : Nat} (h : noLeg w i) (hk : w'.heap[i]? = w.heap[i]?) : noLeg w' i := fun cs hb => h cs (hk.symm.trans hb)
/-- Both are there; operation i1 acts on the one, i2 on the other. -/
def Two (b0 q X : Nat) (D E : Nat → Prop) (M M1 : List Li) (i1 i2 : Nat) (S : Nat → Bool) (w : World) : Prop :=
  ∃ D' E' : Nat → Prop, (S i1 = false → D' = D) ∧ (S i2 = false → E' = E) ∧ Led w q D' (if S i1 then M1 else M) ∧ RefL w X E' (if S i2 then M1 else M) ∧ (∀ i, D' i → ¬ E' i) ∧ (∀ i, D' i → D i ∨ noLeg w i) ∧ b0 ≤ w.heap.size ∧ ∀ i, D' i → D i ∨ b0 ≤ i
variable {b0 q X : Nat} {D E : Nat → Prop} {M M1 : List Li} {i1 i2 : Nat} {S : Nat → Bool} {w w' : World}
theorem putS_self (S : Nat → Bool) (i : Nat) : putS S i i = true := by unfold putS; rw [if_pos rfl]
theorem putS_ne (S : Nat → Bool) {i j : Nat} (h : j ≠ i) : putS S i j = S j := by unfold putS; rw [if_neg h]
theorem Two.other {i : Nat} (h : Two b0 q X D E M M1 i1 i2 S w) (h1 : i1 ≠ i) (h2 : i2 ≠ i) (hb : Below w.heap.size w w') : Two b0 q X D E M M1 i1 i2 (putS S i) w' := by
  obtain ⟨D', E', a1, a2, a3, a4, a5, a6, a7, a8⟩ := h
  refine ⟨D', E', ?_, ?_, ?_, ?_, a5, fun i hi => ?_, Nat.le_trans a7 hb.size, a8⟩
  · rw [putS_ne S h1]; exact a1
  · rw [putS_ne S h2]; exact a2
  · rw [putS_ne S h1]; exact a3.below hb
  · rw [putS_ne S h2]; exact a4.below hb
  · rcases a6 i hi with k | k
    · exact .inl k
    · exact .inr (noLeg_keep k (hb.block i (a3.lt i hi)))
theorem Two.first (h : Two b0 q X D E M M1 i1 i2 S w) (hne : i1 ≠ i2) (hS : S i1 = false) (hc : (Chg D w w' ∧ ∃ D'', Led w' q D'' M1 ∧ ∀ i, D'' i → D i ∨ w.heap.size ≤ i) ∨ (M1 = M ∧ Below w.heap.size w w')) : Two b0 q X D E M M1 i1 i2 (putS S i1) w' := by
  obtain ⟨D', E', a1, a2, a3, a4, a5, a6, a7, a8⟩ := h
  obtain rfl := a1 hS
  rw [if_neg (by rw [hS]; decide)] at a3
  rcases hc with ⟨h1, D'', h2, h3⟩ | ⟨rfl, hb⟩
  · refine ⟨fun i => D'' i ∧ noLeg w' i, E', fun hh => ?_, ?_, ?_, ?_, fun i hi he => ?_, fun i hi => .inr hi.2, Nat.le_trans a7 h1.size, fun i hi => (h3 i hi.1).elim .inl (fun h => .inr (Nat.le_trans a7 h))⟩
    · rw [putS_self] at hh; cases hh
    · rw [putS_ne S hne.symm]; exact a2
    · rw [putS_self, if_pos rfl]; exact LedL.shy h2
    · rw [putS_ne S hne.symm]
      exact a4.same (fun i hi => h1.block i (a4.lt i hi) (fun hd => a5 i hd hi)) h1.size
    · rcases h3 i hi.1 with h4 | h4
      · exact a5 i h4 he
      · have := a4.lt i he
        omega
  · refine ⟨D', E', fun hh => rfl, ?_, ?_, ?_, a5, fun i hi => .inl hi, Nat.le_trans a7 hb.size, a8⟩
    · rw [putS_ne S hne.symm]; exact a2
    · rw [putS_self, if_pos rfl]; exact a3.below hb
    · rw [putS_ne S hne.symm]; exact a4.below hb
/-- Block g, one of the reference's legs, may become the reference's ledger's. -/
theorem Two.second {G : Nat → Prop} (h : Two b0 q X D E M M1 i1 i2 S w) (hne : i1 ≠ i2) (hS : S i2 = false) (hG : ∀ g, G g → ¬ D g ∧ ∃ cs, Blk w g 130 cs) (hc : (Chg (fun i => i = X) w w' ∧ ∃ E'', RefL w' X E'' M1 ∧ ∀ i, E'' i → (E i ∨ G i) ∨ w.heap.size ≤ i) ∨ (M1 = M ∧ Below w.heap.size w w')) : Two b0 q X D E M M1 i1 i2 (putS S i2) w' := by
  obtain ⟨D', E', a1, a2, a3, a4, a5, a6, a7, a8⟩ := h
  obtain rfl := a2 hS
  rw [if_neg (by rw [hS]; decide)] at a4
  rcases hc with ⟨h1, E'', h2, h3⟩ | ⟨rfl, hb⟩
  · have hkeep : ∀ i, D' i → w'.heap[i]? = w.heap[i]? := fun i hi => h1.block i (a3.lt i hi) (fun hx => a5 i hi (by rw [hx]; exact a4.self))
    refine ⟨D', E'', ?_, fun hh => ?_, ?_, ?_, fun i hi he => ?_, fun i hi => ?_, Nat.le_trans a7 h1.size, a8⟩
    · rw [putS_ne S hne]; exact a1
    · rw [putS_self] at hh; cases hh
    · rw [putS_ne S hne]
      exact a3.same hkeep h1.size
    · rw [putS_self, if_pos rfl]; exact h2
    · rcases h3 i he with (h4 | h4) | h4
      · exact a5 i hi h4
      · obtain ⟨g1, cs, g2⟩ := hG i h4
        rcases a6 i hi with k | k
        · exact g1 k
        · exact k cs g2
      · have := a3.lt i hi
        omega
    · rcases a6 i hi with k | k
      · exact .inl k
      · exact .inr (noLeg_keep k (hkeep i hi))
  · refine ⟨D', E', ?_, fun hh => rfl, ?_, ?_, a5, fun i hi => ?_, Nat.le_trans a7 hb.size, a8⟩
    · rw [putS_ne S hne]; exact a1
    · rw [putS_ne S hne]; exact a3.below hb
    · rw [putS_self, if_pos rfl]; exact a4.below hb
    · rcases a6 i hi with k | k
      · exact .inl k
      · exact .inr (noLeg_keep k (hb.block i (a3.lt i hi)))
theorem Two.last (h : Two b0 q X D E M M1 i1 i2 S w) (h1 : S i1 = true) (h2 : S i2 = true) : ∃ D' E', Led w q D' M1 ∧ RefL w X E' M1 ∧ (∀ i, D' i → ¬ E' i) ∧ ∀ i, D' i → D i ∨ b0 ≤ i := by
  obtain ⟨D', E', _, _, a3, a4, a5, _, _, a8⟩ := h
  rw [if_pos h1] at a3
  rw [if_pos h2] at a4
  exact ⟨D', E', a3, a4, a5, a8⟩
/-- What the act leaves, on the ledger: M1 of a Post. -/
noncomputable def afterPost (M : List Li) (y : Ky) (l : List (Nat × Int)) : List Li := by
  classical exact if postOk M y l then M ++ [⟨y, l, 0⟩] else M
noncomputable def codePost (M : List Li) (y : Ky) (l : List (Nat × Int)) : Nat := by
  classical exact if postOk M y l then 0 else postE M y l
theorem post_led (D : Nat → Prop) (y : Ky) (l : List (Nat × Int)) {e : Ending} (h : PostPost w q D M y l e w') : (Chg D w w' ∧ ∃ D'', Led w' q D'' (afterPost M y l) ∧ ∀ i, D'' i → D i ∨ w.heap.size ≤ i) ∨ (afterPost M y l = M ∧ Below w.heap.size w w') := by
  classical
  unfold afterPost
  by_cases hh : postOk M y l
  · rw [if_pos hh]
    exact .inl (h.1 hh).2
  · rw [if_neg hh]
    obtain ⟨v, _, _, _, hb⟩ := h.2 hh
    exact .inr ⟨rfl, hb⟩
theorem post_ref (hF : Fine M) (y : Ky) (l : List (Nat × Int)) {e : Ending} (h : RPostPost w X E M y l e w') : e = .returned (.int .i64 (codePost M y l : Int)) ∧ ((Chg (fun i => i = X) w w' ∧ ∃ E'', RefL w' X E'' (afterPost M y l) ∧ ∀ i, E'' i → E i ∨ w.heap.size ≤ i) ∨ (afterPost M y l = M ∧ Below w.heap.size w w')) := by
  classical
  unfold afterPost codePost
  cases he : entB y l with
  | false =>
    have hh : ¬ postOk M y l := fun hp => by rw [hp.1] at he; cases he
    rw [if_neg hh, if_neg hh]
    obtain ⟨h1, h2⟩ := h.1 he
    refine ⟨?_, .inr ⟨rfl, h2⟩⟩
    rw [h1]
    unfold postE
    rw [if_pos he]
    rfl
  | true =>
    cases hl : liveL M y with
    | some i =>
      have hh : ¬ postOk M y l := fun hp => by have := hp.2.1; rw [hl] at this; cases this
      rw [if_neg hh, if_neg hh]
      obtain ⟨h1, h2⟩ := h.2.1 he (by rw [hl]; simp)
      refine ⟨?_, .inr ⟨rfl, h2⟩⟩
      rw [h1]
      unfold postE
      rw [if_neg (by rw [he]; decide), hl]
      rfl
    | none =>
      have ha := h.2.2 he hl
      have hiff := addOk_iff hF (x := ⟨y, l, 0⟩) (ent_rise he).1
      by_cases hh : okAdd M y.a l
      · have hp : postOk M y l := ⟨he, hl, hh⟩
        rw [if_pos hp, if_pos hp]
        obtain ⟨h1, h2⟩ := ha.1 (hiff.2 hh)
        exact ⟨h1, .inl h2⟩
      · have hp : ¬ postOk M y l := fun hp => hh hp.2.2
        rw [if_neg hp, if_neg hp]
        obtain ⟨h1, h2⟩ := ha.2 (fun hx => hh (hiff.1 hx))
        refine ⟨?_, .inr ⟨rfl, h2⟩⟩
        rw [h1]
        unfold postE
        rw [if_neg (by rw [he]; decide), hl]
        rfl
end Go.Proofs.YtdnnkdldolhbpaaGreatDoor
namespace Go.Proofs.YtdnnkdldolhbpaaGreatDoor
open Go.ChangeShapes Go.WideShapes Go.ChangeAt Go.RowKit Go.Maps

theorem opC_callK {P : Program} {dst : Option Tmp} {f : FuncId} {xs : Array Operand} {ts : Array TypeId} {ty : TypeId} {pos : String} {af : Array Edge} {g : Option (Nat × Bool)} {a : Act} {w : World} {K : Value → World → Prop} {args : Array Value}
    (he : ∀ args w, (callFunc f args).run P w = .ok (.enter f args) w) (ha : xs.map a.eval = args) (hk : Calls P f args w (fun e w'' => ∃ v, e = .returned v ∧ K v w'')) :
    opC P ⟨dst, .call { callee := .value (.func f), args := xs, argTypes := ts }, ty, pos, af, g⟩ a w K := by
  refine opC_enter (f := f) (args := args) ?_ hk
  subst ha
  simp [go_sem, he]
def relC (D : Nat → Prop) (X : Nat) : Rel := ⟨Chg (fun i => D i ∨ i = X), fun w => Chg.refl _ w, fun _ => ⟨rfl, rfl, rfl, Nat.le_refl _, fun _ _ _ => rfl⟩, fun h1 h2 => h1.trans h2 (fun _ hi => .inl hi)⟩
structure ErrIs (base : Nat) (M : List Li) (y : Ky) (l : List (Nat × Int)) (v : Value) (w : World) : Prop where
  yes : postOk M y l → v = .nilIface
  arg : ¬ postOk M y l → entB y l = false → v = eno14 1
  no : ¬ postOk M y l → entB y l = true → ∃ N, v = .iface 119 (.pointer (some ⟨N, 0, none⟩)) ∧ base ≤ N ∧ Blk w N 122 #[.int .u64 (y.a : Int), eno14 (postE M y l)]
def errF (D : Nat → Prop) (X base : Nat) (hb : ∀ i, D i ∨ i = X → i < base) (M : List Li) (y : Ky) (l : List (Nat × Int)) : FlwG (relC D X) := ⟨ErrIs base M y l, fun h hr => ⟨h.yes, h.arg, fun h1 h2 => by
  obtain ⟨N, k1, k2, k3⟩ := h.no h1 h2
  exact ⟨N, k1, k2, Chg.blk hr k3 (fun hd => by have := hb N hd; omega)⟩⟩⟩
def ownE (D : Nat → Prop) (X base : Nat) (hb : ∀ i, D i ∨ i = X → i < base) (y : Ky) (l : List (Nat × Int)) : FlwG (relC D X) := ⟨fun v w => ∃ (A : Option Addr) (c : Nat), v = entV y (.slice A l.length c) ∧ OwnS legT 130 w base (.slice A l.length c) l.length l, fun ⟨A, c, h1, h2⟩ hr => ⟨A, c, h1, h2.same (fun g hg => by
  obtain ⟨k1, k2⟩ := h2.lt g hg
  exact Chg.block hr g k2 (fun hd => by have := hb g hd; omega))⟩⟩
theorem own_lower {α : Type} {T : Lies α} {e : TypeId} {w : World} {b b' n : Nat} {v : Value} {l : List α} (h : OwnS T e w b v n l) (hb : b' ≤ b) : OwnS T e w b' v n l := by
  unfold OwnS at h ⊢
  refine ⟨h.1, ?_⟩
  rcases h.2 with h' | ⟨g, cap, cur, h1, h2, h3⟩
  · exact .inl h'
  · exact .inr ⟨g, cap, cur, h1, Nat.le_trans hb h2, h3⟩
theorem Two.led {b0 q X : Nat} {D E : Nat → Prop} {M M1 : List Li} {i1 i2 : Nat} {S : Nat → Bool} {w : World} (h : Two b0 q X D E M M1 i1 i2 S w) (hS : S i1 = false) : Led w q D M := by
  obtain ⟨D', E', a1, a2, a3, a4, a5, a6, a7, a8⟩ := h
  obtain rfl := a1 hS
  rwa [if_neg (by rw [hS]; decide)] at a3
theorem Two.ref {b0 q X : Nat} {D E : Nat → Prop} {M M1 : List Li} {i1 i2 : Nat} {S : Nat → Bool} {w : World} (h : Two b0 q X D E M M1 i1 i2 S w) (hS : S i2 = false) : RefL w X E M := by
  obtain ⟨D', E', a1, a2, a3, a4, a5, a6, a7, a8⟩ := h
  obtain rfl := a2 hS
  rwa [if_neg (by rw [hS]; decide)] at a4
theorem Laid.chg {D : Nat → Prop} {w w' : World} (h : Laid w) (hc : Chg D w w') (hd : ¬ D 0) : Laid w' := by
  have hl : 0 < w.heap.size := h.lt
  unfold Laid at h ⊢
  rw [World.cell?_of_block (a := ⟨0, 0, none⟩) (hc.block _ hl hd)]
  exact h
theorem code_post {base : Nat} {M : List Li} {y : Ky} {l : List (Nat × Int)} {v : Value} {w : World} (h : ErrIs base M y l v w) (hg : Laid w) : Calls Tryz.prog 18 #[v] w (Ret (.int .i64 (codePost M y l : Int)) w) := by
  classical
  unfold codePost
  by_cases hp : postOk M y l
  · rw [h.yes hp, if_pos hp]
    exact (Code_nil w).mono fun e w' ⟨h1, h2⟩ => ⟨h1, by rw [← h2]; exact Below.refl _ _⟩
  · rw [if_neg hp]
    cases he : entB y l with
    | false =>
      rw [h.arg hp he]
      have hz : (postE M y l : Int) = 1 := by unfold postE; rw [if_pos he]; rfl
      rw [hz]
      exact Code_errno 1 w hg
    | true =>
      obtain ⟨N, rfl, _, hN⟩ := h.no hp he
      exact Code_err N _ _ w hg hN
set_option maxRecDepth 100000 in
set_option maxHeartbeats 4000000 in
theorem pair_post {Q : Exit → Act → World → Prop} {a0 : Act} (hsz : a0.tmps.size = 96) {w : World} (q X g base : Nat) (D E : Nat → Prop) (M : List Li) (y : Ky) (P : Option Addr) (c : Nat) (l : List (Nat × Int)) (hq0 : a0.eval (.tmp 0) = .pointer (some ⟨q, 0, none⟩)) (hx0 : a0.eval (.tmp 1) = .pointer (some ⟨X, 0, none⟩)) (he0 : a0.eval (.tmp 10) = .pointer (some ⟨g, 0, none⟩))
    (hL : Led w q D M) (hR : RefL w X E M) (hd : ∀ i, D i → ¬ E i) (hM : M.length + 1 ≤ 1000000) (hy : y.In) (hIn : ∀ u ∈ l, LegIn u) (hl : l.length ≤ 1000) (hE : Blk w g 40 #[.int .u32 (y.a : Int), .int .i32 y.d, .int .u8 (y.k : Int), .int .u32 (y.s : Int), .slice P l.length c]) (hg : ¬ (D g ∨ g = X)) (hP : Rs legT w w.heap.size P l)
    (hPD : ∀ p, P = some p → ¬ (D p.block ∨ p.block = X)) (hbase : ∀ i, D i ∨ i = X → i < base) (hbw : base ≤ w.heap.size) (hgl : Laid w) (hgD : ¬ (D 0 ∨ 0 = X))
    (hQ : ∀ (T : Array Value) w', T[6]? = some (.bool true) → Chg (fun i => D i ∨ i = X) w w' → (∃ D' E', Led w' q D' (afterPost M y l) ∧ RefL w' X E' (afterPost M y l) ∧ (∀ i, D' i → ¬ E' i) ∧ ∀ i, D' i → D i ∨ base ≤ i) → Q .normal ⟨T, a0.defers⟩ w') :
    (Code.region 14 [{ dst := some 87, op := Go.Op.move (Go.Operand.tmp 0), type := 24, pos := "law.go:66", after := #[], guard := none }, { dst := some 88, op := Go.Op.load 40 (Go.Operand.tmp 10), type := 40, pos := "law.go:66", after := #[], guard := none }, { dst := some 89, op := Go.Op.call { callee := Go.Callee.value (Go.Operand.func 17), args := #[Go.Operand.tmp 87, Go.Operand.tmp 88], argTypes := #[24, 40] }, type := 57, pos := "law.go:66", after := #[{ on := 0, ground := Go.Ground.data }, { on := 1, ground := Go.Ground.data }], guard := none }, { dst := some 90, op := Go.Op.call { callee := Go.Callee.value (Go.Operand.func 18), args := #[Go.Operand.tmp 89], argTypes := #[57] }, type := 59, pos := "law.go:66", after := #[{ on := 2, ground := Go.Ground.data }, { on := 2, ground := Go.Ground.chain }], guard := none }, { dst := some 91, op := Go.Op.move (Go.Operand.tmp 1), type := 26, pos := "law.go:66", after := #[], guard := none }, { dst := some 92, op := Go.Op.load 40 (Go.Operand.tmp 10), type := 40, pos := "law.go:66", after := #[], guard := none }, { dst := some 93, op := Go.Op.call { callee := Go.Callee.value (Go.Operand.func 29), args := #[Go.Operand.tmp 92], argTypes := #[40] }, type := 77, pos := "law.go:66", after := #[{ on := 5, ground := Go.Ground.data }, { on := 3, ground := Go.Ground.chain }], guard := none }, { dst := some 94, op := Go.Op.call { callee := Go.Callee.value (Go.Operand.func 28), args := #[Go.Operand.tmp 91, Go.Operand.tmp 93], argTypes := #[26, 77] }, type := 3, pos := "law.go:66", after := #[{ on := 4, ground := Go.Ground.data }, { on := 6, ground := Go.Ground.data }, { on := 6, ground := Go.Ground.chain }], guard := none }, { dst := some 95, op := Go.Op.binOp Go.BinOp.eql 3 (Go.Operand.tmp 90) (Go.Operand.tmp 94) 3, type := 4, pos := "law.go:66", after := #[{ on := 3, ground := Go.Ground.data }, { on := 7, ground := Go.Ground.data }], guard := none }, { dst := some 6, op := Go.Op.assign (Go.Operand.tmp 95), type := 4, pos := "law.go:66", after := #[{ on := 8, ground := Go.Ground.data }, { on := 7, ground := Go.Ground.chain }, { on := 0, ground := Go.Ground.phase }, { on := 1, ground := Go.Ground.phase }, { on := 2, ground := Go.Ground.phase }, { on := 3, ground := Go.Ground.phase }, { on := 4, ground := Go.Ground.phase }, { on := 5, ground := Go.Ground.phase }, { on := 6, ground := Go.Ground.phase }, { on := 7, ground := Go.Ground.phase }, { on := 8, ground := Go.Ground.phase }], guard := none }].toArray true).wp Tryz.prog Q a0 w := by
  have hF := hL.fine
  refine wp_region_flowI [some 87, some 88, some 89, some 90, some 91, some 92, some 93, some 94, some 95, some 6] (fun i => ([.is (.pointer (some ⟨q, 0, none⟩)), .is (.agg #[.int .u32 (y.a : Int), .int .i32 y.d, .int .u8 (y.k : Int), .int .u32 (y.s : Int), .slice P l.length c]), errF D X base hbase M y l, .is (.int .i64 (codePost M y l : Int)), .is (.pointer (some ⟨X, 0, none⟩)), .is (.agg #[.int .u32 (y.a : Int), .int .i32 y.d, .int .u8 (y.k : Int), .int .u32 (y.s : Int), .slice P l.length c]), ownE D X base hbase y l, .is (.int .i64 (codePost M y l : Int)), .is (.bool true), .is (.bool true)] : List (FlwG (relC D X))).getD i .any) (Two base q X D E M (afterPost M y l) 2 7) (by kernel_rfl) (by rw [hsz]; kernel_rfl) rfl ⟨D, E, fun _ => rfl, fun _ => rfl, hL.below (below_drewN (Below.refl _ _) 1), hR.below (below_drewN (Below.refl _ _) 1), hd, fun i hi => .inl hi, hbw, fun i hi => .inl hi⟩ ?_ ?_
  · have hEW : ∀ {W}, (relC D X).r w W → Blk W g 40 #[.int .u32 (y.a : Int), .int .i32 y.d, .int .u8 (y.k : Int), .int .u32 (y.s : Int), .slice P l.length c] := fun hr => Chg.blk hr hE hg
    have hPW : ∀ {W}, (relC D X).r w W → Rs legT W W.heap.size P l := fun {W} hr hn => by
      obtain ⟨b, o, hb, hlt, _⟩ := hP hn
      exact (hP.same (Chg.size hr) (fun p hp => by
        rw [hb] at hp
        injection hp with hp
        subst hp
        exact Chg.block hr _ hlt (hPD _ hb))) hn
    have hGW : ∀ {W}, (relC D X).r w W → Laid W := fun hr => hgl.chg hr hgD
    have hBW : ∀ {W}, (relC D X).r w W → base ≤ W.heap.size := fun hr => Nat.le_trans hbw (Chg.size hr)
    have hoth : ∀ {S} {W W' : World} (i : Nat), Two base q X D E M (afterPost M y l) 2 7 S W → 2 ≠ i → 7 ≠ i → Below W.heap.size W W' → (relC D X).r W W' ∧ Two base q X D E M (afterPost M y l) 2 7 (putS S i) W' := fun i h h1 h2 hb => ⟨Chg.of_below hb, h.other h1 h2 hb⟩
    refine ⟨step_freeI rfl (fun aF wF S hs hr hS hI => ?_), ?_⟩
    · obtain ⟨x0, -⟩ := hs
      exact opC_move (Eq.trans x0 hq0) ⟨rfl, hoth 0 hI (by decide) (by decide) (below_same wF)⟩
    refine ⟨step_freeI rfl (fun aF wF S hs hr hS hI => ?_), ?_⟩
    · obtain ⟨x0, -⟩ := hs
      exact opC_load (Eq.trans x0 he0) (ent_load14 (hEW hr)) ⟨rfl, hoth 1 hI (by decide) (by decide) (below_same wF)⟩
    refine ⟨step_freeI rfl (fun aF wF S hs hr hS hI => ?_), ?_⟩
    · obtain ⟨x0, x1, -⟩ := hs
      have e0 : aF.eval (.tmp 87) = .pointer (some ⟨q, 0, none⟩) := x0
      have e1 : aF.eval (.tmp 88) = .agg #[.int .u32 (y.a : Int), .int .i32 y.d, .int .u8 (y.k : Int), .int .u32 (y.s : Int), .slice P l.length c] := x1
      refine opC_callK (args := #[.pointer (some ⟨q, 0, none⟩), .agg #[.int .u32 (y.a : Int), .int .i32 y.d, .int .u8 (y.k : Int), .int .u32 (y.s : Int), .slice P l.length c]]) (enters_of Tryz.func17 (by kernel_rfl) rfl) (by simp [e0, e1]) ?_
      have hc := Post_any q D M y hy P l.length c l wF (hI.led hS) (hPW hr) rfl (by omega) hIn (by omega)
      unfold entV entC at hc
      refine hc.mono fun e w' hp => ?_
      have hpl := post_led D y l hp
      have hch : (relC D X).r wF w' := by
        rcases hpl with ⟨h1, _⟩ | ⟨_, h2⟩
        · exact ⟨h1.os, h1.tape, h1.output, h1.size, fun i hi hd => h1.block i hi (fun h => hd (.inl h))⟩
        · exact Chg.of_below h2
      by_cases hok : postOk M y l
      · obtain ⟨rfl, _⟩ := hp.1 hok
        exact ⟨_, rfl, ⟨fun _ => rfl, fun h => absurd hok h, fun h => absurd hok h⟩, hch, hI.first (by decide) hS hpl⟩
      · obtain ⟨v, rfl, k1, k2, _⟩ := hp.2 hok
        refine ⟨v, rfl, ⟨fun h => absurd h hok, fun _ => k1, fun _ h => ?_⟩, hch, hI.first (by decide) hS hpl⟩
        obtain ⟨N, n1, n2, n3⟩ := k2 h
        exact ⟨N, n1, Nat.le_trans (hBW hr) n2, n3⟩
    refine ⟨step_freeI rfl (fun aF wF S hs hr hS hI => ?_), ?_⟩
    · obtain ⟨x0, -⟩ := hs
      have x0 : ErrIs base M y l (aF.eval (.tmp 89)) wF := x0
      exact opC_callK (args := #[aF.eval (.tmp 89)]) (enters_of Tryz.func18 (by kernel_rfl) rfl) (by simp) ((code_post x0 (hGW hr)).mono fun e w' h => ⟨_, h.1, rfl, hoth 3 hI (by decide) (by decide) h.2⟩)
    refine ⟨step_freeI rfl (fun aF wF S hs hr hS hI => ?_), ?_⟩
    · obtain ⟨x0, -⟩ := hs
      exact opC_move (Eq.trans x0 hx0) ⟨rfl, hoth 4 hI (by decide) (by decide) (below_same wF)⟩
    refine ⟨step_freeI rfl (fun aF wF S hs hr hS hI => ?_), ?_⟩
    · obtain ⟨x0, -⟩ := hs
      exact opC_load (Eq.trans x0 he0) (ent_load14 (hEW hr)) ⟨rfl, hoth 5 hI (by decide) (by decide) (below_same wF)⟩
    refine ⟨step_freeI rfl (fun aF wF S hs hr hS hI => ?_), ?_⟩
    · obtain ⟨x0, -⟩ := hs
      have e0 : aF.eval (.tmp 92) = .agg #[.int .u32 (y.a : Int), .int .i32 y.d, .int .u8 (y.k : Int), .int .u32 (y.s : Int), .slice P l.length c] := x0
      refine opC_callK (args := #[.agg #[.int .u32 (y.a : Int), .int .i32 y.d, .int .u8 (y.k : Int), .int .u32 (y.s : Int), .slice P l.length c]]) (enters_of Tryz.func29 (by kernel_rfl) rfl) (by simp [e0]) ?_
      have hc := Own_any y P l.length c wF.heap.size l wF (hPW hr) rfl (by omega) (Nat.le_refl _) hIn
      unfold entV entC at hc
      refine hc.mono fun e w' ⟨A, c2, h1, h2, h3⟩ => ⟨_, h1, ⟨A, c2, rfl, own_lower h2 (hBW hr)⟩, hoth 6 hI (by decide) (by decide) h3⟩
    refine ⟨step_freeI rfl (fun aF wF S hs hr hS hI => ?_), ?_⟩
    · obtain ⟨x0, x1, -⟩ := hs
      have e0 : aF.eval (.tmp 91) = .pointer (some ⟨X, 0, none⟩) := x0
      obtain ⟨A, c2, e1, hO⟩ : ∃ (A : Option Addr) (c2 : Nat), aF.eval (.tmp 93) = entV y (.slice A l.length c2) ∧ OwnS legT 130 wF base (.slice A l.length c2) l.length l := x1
      refine opC_callK (args := #[.pointer (some ⟨X, 0, none⟩), entV y (.slice A l.length c2)]) (enters_of Tryz.func28 (by kernel_rfl) rfl) (by simp [e0, e1]) ?_
      obtain ⟨_, A', c', he', _, _, hrow⟩ := hO.form (by decide)
      injection he' with he1 he2 he3
      subst he1
      have hRF := hI.ref hS
      have hXE := hRF.self
      have hG : ∀ j, (∃ p, A = some p ∧ p.block = j) → base ≤ j ∧ j < wF.heap.size ∧ ∃ cs, Blk wF j 130 cs := fun j ⟨p, hp, hj⟩ => by
        subst hp hj
        obtain ⟨k1, k2⟩ := hO.lt p.block rfl
        exact ⟨k1, k2, own_blk14 hO rfl⟩
      have hc := RPost_any X (fun j => E j ∨ ∃ p, A = some p ∧ p.block = j) M y A l.length c2 l wF (hRF.wider (fun j hj => .inl hj) (fun j hj => by
        rcases hj with hj | hj
        · exact hRF.lt j hj
        · exact (hG j hj).2.1)) ⟨fun x hx => by
          rcases List.mem_append.1 hx with h1 | h1
          · exact (hF.tame (by omega)).inn x h1
          · obtain rfl := List.mem_singleton.1 h1
            exact ⟨hy, hIn, by show l.length ≤ 100000; omega, Nat.zero_le _⟩, by simpa using hM⟩ hrow rfl (fun p hp => ⟨.inr ⟨p, hp, rfl⟩, fun hx => by
          have h1 := (hG p.block ⟨p, hp, rfl⟩).1
          have h2 := hbase X (.inr rfl)
          omega⟩)
      refine hc.mono fun e w' hp => ?_
      obtain ⟨h1, h2⟩ := post_ref hF y l hp
      refine ⟨_, h1, rfl, ?_, hI.second (G := fun j => ∃ p, A = some p ∧ p.block = j) (by decide) hS (fun j hj => ⟨fun hd => ?_, (hG j hj).2.2⟩) h2⟩
      · rcases h2 with ⟨k1, _⟩ | ⟨_, k2⟩
        · exact ⟨k1.os, k1.tape, k1.output, k1.size, fun i hi hd => k1.block i hi (fun h => hd (.inr h))⟩
        · exact Chg.of_below k2
      · have k1 := (hG j hj).1
        have k2 := hbase j (.inl hd)
        omega
    refine ⟨step_freeI rfl (fun aF wF S hs hr hS hI => ?_), ?_⟩
    · obtain ⟨x0, x1, -⟩ := hs
      have e0 : aF.eval (.tmp 90) = .int .i64 (codePost M y l : Int) := x0
      have e1 : aF.eval (.tmp 94) = .int .i64 (codePost M y l : Int) := x1
      refine opC_value (v := .bool true) ?_ ⟨rfl, hoth 8 hI (by decide) (by decide) (below_same wF)⟩
      have t0 := ev_of e0
      have t1 := ev_of e1
      simp [execOp, go_sem, t0, t1]
    refine ⟨step_freeI rfl (fun aF wF S hs hr hS hI => ?_), trivial⟩
    obtain ⟨x0, -⟩ := hs
    have e0 : aF.eval (.tmp 95) = .bool true := x0
    exact opC_assign e0 ⟨rfl, hoth 9 hI (by decide) (by decide) (below_same wF)⟩
  · intro f w' S hf hr hS hI
    have h6 := hf 9 6 rfl
    have h1 := putF_size f [some 87, some 88, some 89, some 90, some 91, some 92, some 93, some 94, some 95, some 6] 0 a0
    have h2 := putF_new f [some 87, some 88, some 89, some 90, some 91, some 92, some 93, some 94, some 95, some 6] 0 a0 6 9 (by rw [hsz]; decide) rfl (uniq_at (by kernel_rfl))
    rw [Nat.zero_add, show f 9 = .bool true from h6] at h2
    obtain ⟨A, hA⟩ : ∃ A, putF f [some 87, some 88, some 89, some 90, some 91, some 92, some 93, some 94, some 95, some 6] 0 a0 = A := ⟨_, rfl⟩
    rw [hA] at h1 h2 ⊢
    obtain ⟨T, Ed⟩ := A
    have h3 := h1.2
    simp only at h3
    subst h3
    exact hQ T w' h2 hr (hI.last (hS 2 (by decide)) (hS 7 (by decide)))
end Go.Proofs.YtdnnkdldolhbpaaGreatDoor
namespace Go.Proofs.YtdnnkdldolhbpaaGreatDoor
open Go.ChangeShapes Go.WideShapes Go.ChangeAt Go.RowKit Go.Maps

def revAt (M : List Li) (y : Ky) : Nat := (liveL M y).getD 0
noncomputable def afterRev (M : List Li) (y : Ky) : List Li := by
  classical exact if revOk M y (revAt M y) then M ++ [⟨y, negL (legsAt M (revAt M y)), revAt M y + 1⟩] else M
noncomputable def codeRev (M : List Li) (y : Ky) : Nat := by
  classical exact if revOk M y (revAt M y) then 0 else if (liveL M y).isSome then 12 else 3
theorem rev_at {M : List Li} {y : Ky} {i : Nat} (h : liveL M y = some i) : revAt M y = i := by unfold revAt; rw [h]; rfl
theorem rev_led {w w' : World} {q : Nat} (D : Nat → Prop) {M : List Li} {y : Ky} {e : Ending} (h : RevPost w q D M y e w') : (Chg D w w' ∧ ∃ D'', Led w' q D'' (afterRev M y) ∧ ∀ i, D'' i → D i ∨ w.heap.size ≤ i) ∨ (afterRev M y = M ∧ Below w.heap.size w w') := by
  classical
  unfold afterRev
  by_cases hh : revOk M y (revAt M y)
  · rw [if_pos hh]
    exact .inl (h.1 _ hh).2
  · rw [if_neg hh]
    obtain ⟨v, _, _, hb⟩ := h.2 (fun i hi => hh (by rw [rev_at hi.1]; exact hi))
    exact .inr ⟨rfl, hb⟩
theorem legs_rise {M : List Li} (hF : Fine M) (i : Nat) : Rise (legsAt M i) := by
  unfold legsAt
  cases h : M[i]? with
  | none => exact List.Pairwise.nil
  | some x => exact (hF.inn x (List.mem_of_getElem? h)).2.2.1
theorem rev_ref {w w' : World} {X : Nat} {E : Nat → Prop} {M : List Li} (hF : Fine M) {y : Ky} {e : Ending} (h : RRevPost w X E M y e w') : e = .returned (.int .i64 (codeRev M y : Int)) ∧ ((Chg (fun i => i = X) w w' ∧ ∃ E'', RefL w' X E'' (afterRev M y) ∧ ∀ i, E'' i → E i ∨ w.heap.size ≤ i) ∨ (afterRev M y = M ∧ Below w.heap.size w w')) := by
  classical
  unfold afterRev codeRev
  cases hl : liveL M y with
  | none =>
    have hh : ¬ revOk M y (revAt M y) := fun hp => by have := hp.1; rw [hl] at this; cases this
    rw [if_neg hh, if_neg hh]
    obtain ⟨h1, h2⟩ := h.1 hl
    exact ⟨h1, .inr ⟨rfl, h2⟩⟩
  | some i =>
    rw [rev_at hl]
    obtain ⟨h1, h2⟩ := h.2 i hl
    cases hb : lowB (legsAt M i) with
    | true =>
      have hh : ¬ revOk M y i := fun hp => by have := hp.2.1; rw [hb] at this; cases this
      rw [if_neg hh, if_neg hh]
      obtain ⟨k1, k2⟩ := h1 hb
      exact ⟨k1, .inr ⟨rfl, k2⟩⟩
    | false =>
      have ha := h2 hb
      have hiff := addOk_iff hF (x := ⟨y, negL (legsAt M i), i + 1⟩) (negL_rise (legs_rise hF i))
      by_cases hk : okAdd M y.a (negL (legsAt M i))
      · have hp : revOk M y i := ⟨hl, hb, hk⟩
        rw [if_pos hp, if_pos hp]
        obtain ⟨k1, k2⟩ := ha.1 (hiff.2 hk)
        exact ⟨k1, .inl k2⟩
      · have hp : ¬ revOk M y i := fun hp => hk hp.2.2
        rw [if_neg hp, if_neg hp]
        obtain ⟨k1, k2⟩ := ha.2 (fun hx => hk (hiff.1 hx))
        exact ⟨k1, .inr ⟨rfl, k2⟩⟩
/-- What Reverse answers. -/
structure RevIs (base : Nat) (M : List Li) (y : Ky) (v : Value) (w : World) : Prop where
  yes : revOk M y (revAt M y) → v = .nilIface
  no : ¬ revOk M y (revAt M y) → ∃ N, v = .iface 119 (.pointer (some ⟨N, 0, none⟩)) ∧ base ≤ N ∧ Blk w N 122 #[.int .u64 (y.a : Int), eno14 (codeRev M y)]
def revF (D : Nat → Prop) (X base : Nat) (hb : ∀ i, D i ∨ i = X → i < base) (M : List Li) (y : Ky) : FlwG (relC D X) := ⟨RevIs base M y, fun h hr => ⟨h.yes, fun h1 => by
  obtain ⟨N, k1, k2, k3⟩ := h.no h1
  exact ⟨N, k1, k2, Chg.blk hr k3 (fun hd => by have := hb N hd; omega)⟩⟩⟩
theorem code_rev {base : Nat} {M : List Li} {y : Ky} {v : Value} {w : World} (h : RevIs base M y v w) (hg : Laid w) : Calls Tryz.prog 18 #[v] w (Ret (.int .i64 (codeRev M y : Int)) w) := by
  classical
  by_cases hp : revOk M y (revAt M y)
  · have hz : (codeRev M y : Int) = 0 := by unfold codeRev; rw [if_pos hp]; rfl
    rw [h.yes hp, hz]
    exact (Code_nil w).mono fun e w' ⟨h1, h2⟩ => ⟨h1, by rw [← h2]; exact Below.refl _ _⟩
  · obtain ⟨N, rfl, _, hN⟩ := h.no hp
    exact Code_err N _ _ w hg hN
theorem rev_is {w w' : World} {q base : Nat} {D : Nat → Prop} {M : List Li} {y : Ky} {e : Ending} (h : RevPost w q D M y e w') (hb : base ≤ w.heap.size) : ∃ v, e = .returned v ∧ RevIs base M y v w' := by
  classical
  by_cases hh : revOk M y (revAt M y)
  · exact ⟨_, (h.1 _ hh).1, fun _ => rfl, fun hn => absurd hh hn⟩
  · obtain ⟨v, h1, ⟨N, n1, n2, n3⟩, _⟩ := h.2 (fun i hi => hh (by rw [rev_at hi.1]; exact hi))
    refine ⟨v, h1, fun hp => absurd hp hh, fun _ => ⟨N, n1, Nat.le_trans hb n2, ?_⟩⟩
    have hz : (codeRev M y : Int) = (if (liveL M y).isSome then 12 else 3) := by
      unfold codeRev
      rw [if_neg hh]
      split <;> rfl
    rw [hz]
    exact n3
end Go.Proofs.YtdnnkdldolhbpaaGreatDoor
