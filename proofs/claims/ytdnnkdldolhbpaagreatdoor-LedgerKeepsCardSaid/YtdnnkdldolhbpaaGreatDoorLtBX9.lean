/-
LedgerTurns: what an entry of loan 9 does to a ledger that has none of it. No condition.
ledger.Same of two ledgers of the same lines. Conditions: both are there.
A law's acts, opened. No condition.
LedgerTurns walked. Conditions: the acts are there; errors.errorType is laid.
-/
import Derived.Test.YtdnnkdldolhbpaaGreatDoorLedMX9
import Derived.Test.YtdnnkdldolhbpaaGreatDoorLrHX9
import Derived.Test.YtdnnkdldolhbpaaGreatDoorLedRX9
import Derived.Test.YtdnnkdldolhbpaaGreatDoorLrPX9
import Derived.Test.YtdnnkdldolhbpaaGreatDoorCpEX9
import Derived.Test.YtdnnkdldolhbpaaGreatDoorLnBX9
namespace Go.Proofs.YtdnnkdldolhbpaaGreatDoor
open Go.ChangeShapes Go.WideShapes Go.ChangeAt Go.RowKit Go.Maps

def twoL (n : Int) : List (Nat × Int) := [(1, n), (4, -n)]
def exT (K s : Nat) : Ky := ⟨9, 3, K, s⟩
def Low (M : List Li) : Prop := ∀ x ∈ M, x.y.a < 5
theorem two_in {n : Int} (h : -2147483648 ≤ n ∧ n ≤ 2147483647) : ∀ u ∈ twoL n, LegIn u := fun u hu => by
  simp [twoL] at hu
  rcases hu with rfl | rfl <;> simp [LegIn] <;> omega
theorem two_ok {n : Int} (h : -2147483648 ≤ n ∧ n ≤ 2147483647) : okL (twoL n) := fun a => by
  have h1 : fitB n = true := fitB_iff.2 (by omega)
  have h2 : fitB (-n) = true := fitB_iff.2 (by omega)
  unfold accs twoL
  by_cases e1 : 1 = a
  · subst e1
    simp [stepA, addO, h1]
  · by_cases e4 : 4 = a
    · subst e4
      simp [stepA, addO, h2]
    · simp [stepA, e1, e4]
theorem two_sum1 {n : Int} (h : -2147483648 ≤ n ∧ n ≤ 2147483647) : sumA (twoL n) 1 = n := by
  have h1 : fitB n = true := fitB_iff.2 (by omega)
  simp [sumA, accs, twoL, stepA, addO, h1]
theorem two_sum4 {n : Int} (h : -2147483648 ≤ n ∧ n ≤ 2147483647) : sumA (twoL n) 4 = -n := by
  have h2 : fitB (-n) = true := fitB_iff.2 (by omega)
  simp [sumA, accs, twoL, stepA, addO, h2]
theorem two_keys (n : Int) : keysA (twoL n) = [1, 4] := by
  have e : hasA (twoL n) = fun a => (1 == a || (4 == a || false)) := rfl
  unfold keysA
  rw [e]
  decide +kernel
theorem two_mk {n : Int} (h : -2147483648 ≤ n ∧ n ≤ 2147483647) : mkL (twoL n) = twoL n := by
  rw [mkL_ok (two_ok h), two_keys]
  show [(1, sumA (twoL n) 1), (4, sumA (twoL n) 4)] = twoL n
  rw [two_sum1 h, two_sum4 h]
  rfl
theorem two_right {n : Int} (h : -2147483648 ≤ n ∧ n ≤ 2147483647) {K : Nat} (hK : 1 ≤ K ∧ K ≤ 7) (s : Nat) : entB (exT K s) (twoL n) = true := by
  have h1 : Fits n := by unfold Fits; omega
  have h0 : Fits 0 := by unfold Fits; omega
  have hs : sumO (amts (twoL n)) = some 0 := by
    show sumF (sumF (some 0) n) (-n) = some 0
    have e1 : sumF (some 0) n = some n := by
      show (if Fits (0 + n) then some (0 + n) else none) = some n
      rw [Int.zero_add, if_pos h1]
    rw [e1]
    show (if Fits (n + -n) then some (n + -n) else none) = some 0
    rw [show n + -n = 0 by omega, if_pos h0]
  have hr : risTo (twoL n) (twoL n).length = true := by
    show risTo (twoL n) 2 = true
    simp [risTo, twoL]
  unfold entB
  rw [hs, hr]
  simp [exT, dayB, hK, twoL]
theorem low_live {M : List Li} (h : Low M) {y : Ky} (hy : y.a = 9) : liveL M y = none := by
  cases e : liveL M y with
  | none => rfl
  | some i =>
    obtain ⟨x, hx, hxy, _⟩ := liveL_some e
    have := h x (List.mem_of_getElem? hx)
    rw [hxy, hy] at this
    omega
theorem low_bal {M : List Li} (h : Low M) (c : Nat) : bal M 9 c = 0 := by
  unfold bal
  induction M with
  | nil => rfl
  | cons x M ih =>
    have h1 := h x (by simp)
    have h2 := ih (fun z hz => h z (by simp [hz]))
    simp only [sumB, h2]
    have h3 : loanP 9 x.y = false := by unfold loanP; simp; omega
    rw [h3]
    rfl
theorem twoS (n : Int) : legS 1 (twoL n) = n ∧ legS 4 (twoL n) = -n := by simp [legS, twoL]
theorem negS (n : Int) : legS 1 (negL (twoL n)) = -n ∧ legS 4 (negL (twoL n)) = n := by simp [legS, twoL, negL]
theorem twoS_all (n : Int) (c : Nat) : legS c (twoL n) + legS c (negL (twoL n)) = 0 := by
  simp only [legS, twoL, negL, List.map]
  by_cases e1 : 1 = c
  · by_cases e4 : 4 = c
    · omega
    · simp [e1, e4]
      omega
  · by_cases e4 : 4 = c
    · simp [e1, e4]
      omega
    · simp [e1, e4]
theorem okW_two {f : Nat → Int} {n : Int} : okW f (twoL n) ↔ fitB (f 1 + n) = true ∧ fitB (f 4 + -n) = true := by
  constructor
  · intro h
    have h0 := h 0 (by simp [twoL])
    have h1 := h 1 (by simp [twoL])
    simp [plusL, twoL, legS] at h0 h1
    exact ⟨h0, h1⟩
  · rintro ⟨h0, h1⟩ j hj
    have hj2 : j < 2 := hj
    rcases (show j = 0 ∨ j = 1 by omega) with rfl | rfl
    · simp [plusL, twoL, legS]
      exact h0
    · simp [plusL, twoL, legS]
      exact h1
theorem okW_ntwo {f : Nat → Int} {n : Int} : okW f (negL (twoL n)) ↔ fitB (f 1 + -n) = true ∧ fitB (f 4 + n) = true := by
  constructor
  · intro h
    have h0 := h 0 (by simp [twoL, negL])
    have h1 := h 1 (by simp [twoL, negL])
    simp [plusL, twoL, negL, legS] at h0 h1
    exact ⟨h0, h1⟩
  · rintro ⟨h0, h1⟩ j hj
    have hj2 : j < 2 := hj
    rcases (show j = 0 ∨ j = 1 by omega) with rfl | rfl
    · simp [plusL, twoL, negL, legS]
      exact h0
    · simp [plusL, twoL, negL, legS]
      exact h1
/-- The lines behind the post, and behind the reversal. -/
def M1t (M : List Li) (K s : Nat) (n : Int) : List Li := M ++ [⟨exT K s, twoL n, 0⟩]
def M2t (M : List Li) (K s : Nat) (n : Int) : List Li := M1t M K s n ++ [⟨exT K s, negL (twoL n), M.length + 1⟩]
variable {M : List Li} {K s : Nat} {n : Int}
theorem bal1 (h : Low M) (c : Nat) : bal (M1t M K s n) 9 c = legS c (twoL n) := by
  unfold bal M1t
  rw [sumB_snoc, if_pos (by rfl)]
  have := low_bal h c
  unfold bal at this
  rw [this]
  show 0 + legS c (twoL n) = legS c (twoL n)
  omega
theorem ctl1 (c : Nat) : ctl (M1t M K s n) c = ctl M c + legS c (twoL n) := by
  unfold ctl M1t
  rw [sumB_snoc, if_pos (by rfl)]
theorem bal2 (h : Low M) (c : Nat) : bal (M2t M K s n) 9 c = 0 := by
  have h1 := bal1 (K := K) (s := s) (n := n) h c
  unfold bal M2t at *
  rw [sumB_snoc, if_pos (by rfl), h1]
  exact twoS_all n c
theorem ctl2 (c : Nat) : ctl (M2t M K s n) c = ctl M c := by
  have h1 := ctl1 (M := M) (K := K) (s := s) (n := n) c
  have h2 := twoS_all n c
  unfold ctl M2t at *
  rw [sumB_snoc, if_pos (by rfl), h1]
  show _ + _ + legS c (negL (twoL n)) = _
  omega
theorem live1 (k : Ky) : liveL (M1t M K s n) k = if k = exT K s then some M.length else liveL M k := liveL_post rfl k
theorem live2 (k : Ky) : liveL (M2t M K s n) k = if k = exT K s then none else liveL M k := by
  have h := liveL_rev (M := M1t M K s n) (x := ⟨exT K s, negL (twoL n), M.length + 1⟩) (i := M.length) rfl (by rw [live1]; exact if_pos rfl) k
  unfold M2t
  rw [h]
  show (if k = exT K s then none else liveL (M1t M K s n) k) = _
  rw [live1]
  by_cases e : k = exT K s
  · rw [if_pos e, if_pos e]
  · rw [if_neg e, if_neg e, if_neg e]
theorem low_ok (h : Low M) (hn : -2147483648 ≤ n ∧ n ≤ 2147483647) : okW (bal M 9) (twoL n) := by
  rw [okW_two, low_bal h, low_bal h]
  exact ⟨fitB_iff.2 (by omega), fitB_iff.2 (by omega)⟩
theorem rev_ok (h : Low M) (hF : Fine M) (hn : -2147483648 ≤ n ∧ n ≤ 2147483647) : revOk (M1t M K s n) (exT K s) M.length := by
  refine ⟨by rw [live1]; exact if_pos rfl, ?_, ?_⟩
  · have e : legsAt (M1t M K s n) M.length = twoL n := by simp [legsAt, M1t]
    rw [e]
    simp [lowB, twoL]
    omega
  · have e : legsAt (M1t M K s n) M.length = twoL n := by simp [legsAt, M1t]
    rw [e]
    have hf1 : fitB (ctl M 1) = true := by have := hF.fit M.length 1; rwa [List.take_length] at this
    have hf4 : fitB (ctl M 4) = true := by have := hF.fit M.length 4; rwa [List.take_length] at this
    refine ⟨okW_ntwo.2 ?_, okW_ntwo.2 ?_⟩
    · show fitB (bal (M1t M K s n) 9 1 + -n) = true ∧ fitB (bal (M1t M K s n) 9 4 + n) = true
      rw [bal1 h, bal1 h, (twoS n).1, (twoS n).2]
      exact ⟨fitB_iff.2 (by omega), fitB_iff.2 (by omega)⟩
    · rw [ctl1, ctl1, (twoS n).1, (twoS n).2, show ctl M 1 + n + -n = ctl M 1 by omega, show ctl M 4 + -n + n = ctl M 4 by omega]
      exact ⟨hf1, hf4⟩
theorem again_ok (h : Low M) (hn : -2147483648 ≤ n ∧ n ≤ 2147483647) (hK : 1 ≤ K ∧ K ≤ 7) (ho : okW (ctl M) (twoL n)) : postOk (M2t M K s n) (exT K s) (twoL n) := by
  refine ⟨two_right hn hK s, by rw [live2]; exact if_pos rfl, ?_, ?_⟩
  · show okW (bal (M2t M K s n) 9) (twoL n)
    rw [okW_two, bal2 h, bal2 h]
    exact ⟨fitB_iff.2 (by omega), fitB_iff.2 (by omega)⟩
  · rw [okW_two, ctl2, ctl2]
    exact okW_two.1 ho
theorem none2 (h : Low M) {y : Ky} (hy : y.a = 9) : liveL (M2t M K s n) y = none := by
  rw [live2]
  split
  · rfl
  · exact low_live h hy
end Go.Proofs.YtdnnkdldolhbpaaGreatDoor
namespace Go.Proofs.YtdnnkdldolhbpaaGreatDoor
open Go.ChangeShapes Go.WideShapes Go.ChangeAt Go.RowKit Go.Maps

set_option maxRecDepth 100000 in
set_option maxHeartbeats 4000000 in
theorem SameOne_any (y : Ky) (A A' : Option Addr) (n n' c c' o : Nat) (l : List (Nat × Int)) (w : World) (hR : Rs legT w w.heap.size A l) (hn : l.length = n) (hR' : Rs legT w w.heap.size A' l) (hn' : l.length = n') (hm : n ≤ 100000) (_ : o ≤ 1000000) :
    Calls Tryz.prog 51 #[.agg #[.int .u32 (y.a : Int), .int .i32 y.d, .int .u8 (y.k : Int), .int .u32 (y.s : Int), .slice A n c, .int .i64 (o : Int)], .agg #[.int .u32 (y.a : Int), .int .i32 y.d, .int .u8 (y.k : Int), .int .u32 (y.s : Int), .slice A' n' c', .int .i64 (o : Int)]] w (Ret (.bool true) w) := by
  obtain ⟨Y, hY⟩ : ∃ Y : Array Value, Y = #[.int .u32 (y.a : Int), .int .i32 y.d, .int .u8 (y.k : Int), .int .u32 (y.s : Int), .slice A n c, .int .i64 (o : Int)] := ⟨_, rfl⟩
  obtain ⟨Z, hZ⟩ : ∃ Z : Array Value, Z = #[.int .u32 (y.a : Int), .int .i32 y.d, .int .u8 (y.k : Int), .int .u32 (y.s : Int), .slice A' n' c', .int .i64 (o : Int)] := ⟨_, rfl⟩
  have HB2 := Lib.hid ((b_alloc w (.cells Y 42)).alloc (by simp) (.cells Z 42))
  have HQ1 := Lib.hid ((Blk.new w 42 Y).alloc (.cells Z 42))
  have HQ2 : Hid (Blk ((w.alloc (.cells Y 42)).alloc (.cells Z 42)) (w.heap.size + 1) 42 Z) := Lib.hid (by
    have h := Blk.new (w.alloc (.cells Y 42)) 42 Z
    rw [show (w.alloc (.cells Y 42)).heap.size = w.heap.size + 1 by simp] at h
    exact h)
  obtain ⟨W2, hW2⟩ : ∃ W, ((w.alloc (.cells Y 42)).alloc (.cells Z 42)) = W := ⟨_, rfl⟩
  rw [hW2] at HB2 HQ1 HQ2
  have hC := Same13_any y y A A' n n' c c' w.heap.size w.heap.size l l W2 (hR.below HB2.out) hn hm HB2.out.size (hR'.below HB2.out) hn' (by omega) HB2.out.size
  rw [show decide (y = y ∧ l = l) = true by simp] at hC
  unfold entV entC at hC
  have HC := Lib.hid hC
  subst hY hZ
  have HW := Lib.hid hW2
  clear hW2 hC hR hR'
  have n0 := HQ1.out.cell 0
  have n1 := HQ1.out.cell 1
  have n2 := HQ1.out.cell 2
  have n3 := HQ1.out.cell 3
  have n4 := HQ1.out.cell 4
  have n5 := HQ1.out.cell 5
  have k0 := HQ2.out.cell 0
  have k1 := HQ2.out.cell 1
  have k2 := HQ2.out.cell 2
  have k3 := HQ2.out.cell 3
  have k4 := HQ2.out.cell 4
  have k5 := HQ2.out.cell 5
  simp at n0 n1 n2 n3 n4 n5 k0 k1 k2 k3 k4 k5
  go_enter Tryz.func51, Tryz.ntmps51
  go_upto_region 1 with (fail)
  rw [HW.out]
  go_wp2_with fail
  refine HC.out.mono ?_
  rintro e w3 ⟨rfl, hb3⟩
  have HB3 := Lib.hid hb3
  clear hb3
  go_wp2_with fail
  refine fin_tmp rfl (by rfl) ?_
  exact ⟨rfl, HB2.out.trans (HB3.out.mono HB2.out.size)⟩
/-- Two rows of lines that are alike. -/
structure Alike (w : World) (M : List Li) (A : Option Addr) (V : List LinV) : Prop where
  len : V.length = M.length
  row : Rs linT w w.heap.size A V
  y : ∀ (i : Nat) v x, V[i]? = some v → M[i]? = some x → v.y = x.y ∧ v.o = x.o ∧ v.n = x.l.length
  r : ∀ (i : Nat) v x, V[i]? = some v → M[i]? = some x → Rs legT w w.heap.size v.A x.l
theorem LedL.alike {w : World} {q : Nat} {D : Nat → Prop} {M : List Li} {L : Ky → Option Nat} (h : LedL w q D M L) : ∃ (A : Option Addr) (c : Nat) (V : List LinV), w.cell? ⟨q, 0, none⟩ = some (.slice A M.length c) ∧ M.length ≤ c ∧ Alike w M A V := by
  obtain ⟨lv, V, lm, bm, inn, h1, h2, h3, h4, h5, h6, h7, h8, h9, h10, h11⟩ := h
  have c0 := h1.cell 0
  unfold ledC at c0
  simp at c0
  obtain ⟨hl, A0, c, rfl, hc, _, hr⟩ := h2.form (by decide)
  exact ⟨A0, c, V, c0, hc, hl, hr, h3.y, fun i v x hv hx => (h3.r i v x hv hx).1⟩
theorem Alike.below {w w' : World} {M : List Li} {A : Option Addr} {V : List LinV} (h : Alike w M A V) (hb : Below w.heap.size w w') : Alike w' M A V := ⟨h.len, (h.row.below hb).up hb.size, h.y, fun i v x hv hx => ((h.r i v x hv hx).below hb).up hb.size⟩
theorem Alike.line {w : World} {M : List Li} {A : Option Addr} {V : List LinV} (h : Alike w M A V) {k : Nat} (hk : k < M.length) {w' : World} (hb : Below w.heap.size w w') : ∃ (b o : Nat) (P : Option Addr) (c : Nat), A = some ⟨b, o, none⟩ ∧ b < w.heap.size ∧
    Rs legT w' w'.heap.size P (M[k]'hk).l ∧ w'.cell? ⟨b, o + k * 6, none⟩ = some (.int .u32 ((M[k]'hk).y.a : Int)) ∧ w'.cell? ⟨b, o + k * 6 + 1, none⟩ = some (.int .i32 (M[k]'hk).y.d) ∧ w'.cell? ⟨b, o + k * 6 + 2, none⟩ = some (.int .u8 ((M[k]'hk).y.k : Int)) ∧
    w'.cell? ⟨b, o + k * 6 + 3, none⟩ = some (.int .u32 ((M[k]'hk).y.s : Int)) ∧ w'.cell? ⟨b, o + k * 6 + 4, none⟩ = some (.slice P (M[k]'hk).l.length c) ∧ w'.cell? ⟨b, o + k * 6 + 5, none⟩ = some (.int .i64 ((M[k]'hk).o : Int)) := by
  have hkV : k < V.length := by rw [h.len]; exact hk
  obtain ⟨b, o, e, hbl, hc⟩ := h.row.at_ hkV
  obtain ⟨hy, ho, hn⟩ := h.y k _ _ (List.getElem?_eq_getElem hkV) (List.getElem?_eq_getElem hk)
  have hr := h.r k _ _ (List.getElem?_eq_getElem hkV) (List.getElem?_eq_getElem hk)
  generalize V[k] = v at *
  obtain ⟨vy, vA, vn, vc, vo⟩ := v
  simp only at hy ho hn hr
  subst hy ho hn
  have hcc : ∀ (i : Nat) x, (linT.cells ⟨M[k].y, vA, M[k].l.length, vc, M[k].o⟩)[i]? = some x → w'.cell? ⟨b, o + (k * linT.k + i), none⟩ = some x := fun i x hx => (hb.cell (p := ⟨b, o + (k * linT.k + i), none⟩) hbl).trans (hc i x hx)
  exact ⟨b, o, vA, vc, e, hbl, (hr.below hb).up hb.size, hcc 0 _ rfl, hcc 1 _ rfl, hcc 2 _ rfl, hcc 3 _ rfl, hcc 4 _ rfl, hcc 5 _ rfl⟩
set_option maxRecDepth 100000 in
set_option maxHeartbeats 4000000 in
theorem EqF_any (M : List Li) (A A' : Option Addr) (c c' : Nat) (V V' : List LinV) (w : World) (h : Alike w M A V) (h' : Alike w M A' V') (_ : M.length ≤ c) (_ : M.length ≤ c') (hM : M.length ≤ 1000000) (hF : Fine M) :
    Calls Tryz.prog 50 #[.slice A M.length c, .slice A' M.length c', .func (.func 51) #[] #[]] w (Ret (.bool true) w) := by
  have HA := Lib.hid h
  have HA' := Lib.hid h'
  have HF := Lib.hid hF
  clear h h' hF
  go_enter Tryz.func50, Tryz.ntmps50
  go_wp2_with fail
  go_loopw [7, 8, 9, 17] (fun _ _ _ i wr => ∃ (k : Nat), k ≤ M.length ∧ i = .int .i64 k ∧ Hid (Below w.heap.size w wr)) (fun _ _ _ i _ => M.length - (intOf i).toNat)
  case atStart => exact ⟨0, Nat.zero_le _, rfl, Lib.hid (Below.refl _ _)⟩
  case round =>
    obtain ⟨k, hk, rfl, HB⟩ := hrel
    by_cases hlt : k < M.length
    · obtain ⟨b, o, P, cl, rfl, hb, hR, d0, d1, d2, d3, d4, d5⟩ := HA.out.line hlt HB.out
      obtain ⟨b', o', P', cl', rfl, hb', hR', e0, e1, e2, e3, e4, e5⟩ := HA'.out.line hlt HB.out
      have hin := HF.out.inn _ (List.getElem_mem hlt)
      have hof : (M[k]).o ≤ 1000000 := by
        rcases Nat.eq_zero_or_pos (M[k]).o with h0 | h0
        · omega
        · have := (HF.out.of k _ (List.getElem?_eq_getElem hlt) h0).1
          omega
      generalize M[k] = x at *
      obtain ⟨Y, hY⟩ : ∃ Y : Array Value, Y = #[.int .u32 (x.y.a : Int), .int .i32 x.y.d, .int .u8 (x.y.k : Int), .int .u32 (x.y.s : Int), .slice P x.l.length cl, .int .i64 (x.o : Int)] := ⟨_, rfl⟩
      obtain ⟨Z, hZ⟩ : ∃ Z : Array Value, Z = #[.int .u32 (x.y.a : Int), .int .i32 x.y.d, .int .u8 (x.y.k : Int), .int .u32 (x.y.s : Int), .slice P' x.l.length cl', .int .i64 (x.o : Int)] := ⟨_, rfl⟩
      have hba := (b_alloc wr (.cells Y 42)).alloc (by simp) (.cells Z 42)
      have HQ1 := Lib.hid ((Blk.new wr 42 Y).alloc (.cells Z 42))
      have HQ2 : Hid (Blk ((wr.alloc (.cells Y 42)).alloc (.cells Z 42)) (wr.heap.size + 1) 42 Z) := Lib.hid (by
        have h := Blk.new (wr.alloc (.cells Y 42)) 42 Z
        rw [show (wr.alloc (.cells Y 42)).heap.size = wr.heap.size + 1 by simp] at h
        exact h)
      obtain ⟨W2, hW2⟩ : ∃ W, ((wr.alloc (.cells Y 42)).alloc (.cells Z 42)) = W := ⟨_, rfl⟩
      rw [hW2] at hba HQ1 HQ2
      have hC := SameOne_any x.y P P' x.l.length x.l.length cl cl' x.o x.l W2 ((hR.below hba).up hba.size) rfl ((hR'.below hba).up hba.size) rfl (by have := hin.2.2.2.1; omega) hof
      have HC := Lib.hid hC
      have HBA := Lib.hid hba
      have HW := Lib.hid hW2
      have hbw : b < wr.heap.size := Nat.lt_of_lt_of_le hb HB.out.size
      have hbw' : b' < wr.heap.size := Nat.lt_of_lt_of_le hb' HB.out.size
      subst hY hZ
      have n0 := HQ1.out.cell 0
      have n1 := HQ1.out.cell 1
      have n2 := HQ1.out.cell 2
      have n3 := HQ1.out.cell 3
      have n4 := HQ1.out.cell 4
      have n5 := HQ1.out.cell 5
      have k0 := HQ2.out.cell 0
      have k1 := HQ2.out.cell 1
      have k2 := HQ2.out.cell 2
      have k3 := HQ2.out.cell 3
      have k4 := HQ2.out.cell 4
      have k5 := HQ2.out.cell 5
      simp at n0 n1 n2 n3 n4 n5 k0 k1 k2 k3 k4 k5
      clear hC hR hR' hba hW2 hin hof
      go_upto_region 7 with (fail)
      rw [HW.out]
      go_wp2_with fail
      refine HC.out.mono ?_
      rintro e w3 ⟨rfl, hb3⟩
      have HB3 := Lib.hid (HB.out.trans ((HBA.out.trans (hb3.mono HBA.out.size)).mono HB.out.size))
      clear hb3 n0 n1 n2 n3 n4 n5 k0 k1 k2 k3 k4 k5 d0 d1 d2 d3 d4 d5 e0 e1 e2 e3 e4 e5
      go_wp2_with fail
      go_roundw
      case rel => exact ⟨k + 1, by omega, by go_num, HB3⟩
      case measure => simp [intOf]; omega
    · obtain rfl : k = M.length := by omega
      go_wp2_with fail
      refine fin_tmp rfl (by rfl) ?_
      exact ⟨rfl, HB.out⟩
set_option maxRecDepth 100000 in
set_option maxHeartbeats 4000000 in
theorem SameL_any (q c : Nat) (D D' : Nat → Prop) (M : List Li) (w : World) (h : Led w q D M) (h' : Led w c D' M) (hM : M.length ≤ 1000000) : Calls Tryz.prog 23 #[.pointer (some ⟨q, 0, none⟩), .pointer (some ⟨c, 0, none⟩)] w (Ret (.bool true) w) := by
  obtain ⟨A, c1, V, x0, hc1, hA⟩ := h.alike
  obtain ⟨A', c2, V', y0, hc2, hA'⟩ := h'.alike
  have hE : ∀ W, Below w.heap.size w W → Calls Tryz.prog 50 #[.slice A M.length c1, .slice A' M.length c2, .func (.func 51) #[] #[]] W (Ret (.bool true) W) := fun W hb => EqF_any M A A' c1 c2 V V' W (hA.below hb) (hA'.below hb) hc1 hc2 hM h.fine
  have HE := Lib.hid hE
  have HX := Lib.hid (fun (W : World) (hb : Below w.heap.size w W) => (hb.cell (p := ⟨q, 0, none⟩) (h.lt q h.self)).trans x0)
  have HY := Lib.hid (fun (W : World) (hb : Below w.heap.size w W) => (hb.cell (p := ⟨c, 0, none⟩) (h'.lt c h'.self)).trans y0)
  clear hE hA hA' h h' hc1 hc2
  go_enter Tryz.func23, Tryz.ntmps23
  go_upto_region 3 with (fail)
  have LQ : ∀ W, Below w.heap.size w W → (Instr.loadAt 81 (.pointer (some ⟨q, 0, none⟩))).run Tryz.prog W = .ok (.slice A M.length c1) W := fun W hb => by
    have x0 := HX.out W hb
    go_simp
  have LC : ∀ W, Below w.heap.size w W → (Instr.loadAt 81 (.pointer (some ⟨c, 0, none⟩))).run Tryz.prog W = .ok (.slice A' M.length c2) W := fun W hb => by
    have x0 := HY.out W hb
    go_simp
  clear x0 y0
  refine wp_region_flow1 [some 14, some 15, some 16, some 17, some 18, some 19, some 20, some 21, some 22, some 4] (fun i => ([.is (.pointer (some ⟨q, 0, none⟩)), .is (.pointer (some ⟨q, 0, none⟩)), .is (.pointer (some ⟨q, 0, none⟩)), .is (.slice A M.length c1), .is (.pointer (some ⟨c, 0, none⟩)), .is (.pointer (some ⟨c, 0, none⟩)), .is (.pointer (some ⟨c, 0, none⟩)), .is (.slice A' M.length c2), .is (.bool true), .is (.bool true)] : List Flw).getD i .any) (by kernel_rfl) (by kernel_rfl) rfl ?_ 4 9 (.bool true) rfl (by kernel_rfl) ?_ (by simp) ?_
  · skip
    refine ⟨step_free rfl (fun aF wF hs hb => ?_), ?_⟩
    · obtain ⟨x0, -⟩ := hs
      have e0 : aF.eval (.tmp 0) = .pointer (some ⟨q, 0, none⟩) := x0
      exact opC_move e0 ⟨rfl, below_same wF⟩
    refine ⟨step_free rfl (fun aF wF hs hb => ?_), ?_⟩
    · obtain ⟨x0, -⟩ := hs
      have e0 : aF.eval (.tmp 14) = .pointer (some ⟨q, 0, none⟩) := x0
      refine opC_value (v := .pointer (some ⟨q, 0, none⟩)) ?_ ⟨rfl, below_same wF⟩
      have t0 := ev_of e0
      go_simp
    refine ⟨step_free rfl (fun aF wF hs hb => ?_), ?_⟩
    · obtain ⟨x0, -⟩ := hs
      have e0 : aF.eval (.tmp 15) = .pointer (some ⟨q, 0, none⟩) := x0
      refine opC_value (v := .pointer (some ⟨q, 0, none⟩)) ?_ ⟨rfl, below_same wF⟩
      have t0 := ev_of e0
      go_simp
    refine ⟨step_free rfl (fun aF wF hs hb => ?_), ?_⟩
    · obtain ⟨x0, -⟩ := hs
      have e0 : aF.eval (.tmp 16) = .pointer (some ⟨q, 0, none⟩) := x0
      exact opC_load e0 (LQ wF hb) ⟨rfl, below_same wF⟩
    refine ⟨step_free rfl (fun aF wF hs hb => ?_), ?_⟩
    · obtain ⟨x0, -⟩ := hs
      have e0 : aF.eval (.tmp 1) = .pointer (some ⟨c, 0, none⟩) := x0
      exact opC_move e0 ⟨rfl, below_same wF⟩
    refine ⟨step_free rfl (fun aF wF hs hb => ?_), ?_⟩
    · obtain ⟨x0, -⟩ := hs
      have e0 : aF.eval (.tmp 18) = .pointer (some ⟨c, 0, none⟩) := x0
      refine opC_value (v := .pointer (some ⟨c, 0, none⟩)) ?_ ⟨rfl, below_same wF⟩
      have t0 := ev_of e0
      go_simp
    refine ⟨step_free rfl (fun aF wF hs hb => ?_), ?_⟩
    · obtain ⟨x0, -⟩ := hs
      have e0 : aF.eval (.tmp 19) = .pointer (some ⟨c, 0, none⟩) := x0
      refine opC_value (v := .pointer (some ⟨c, 0, none⟩)) ?_ ⟨rfl, below_same wF⟩
      have t0 := ev_of e0
      go_simp
    refine ⟨step_free rfl (fun aF wF hs hb => ?_), ?_⟩
    · obtain ⟨x0, -⟩ := hs
      have e0 : aF.eval (.tmp 20) = .pointer (some ⟨c, 0, none⟩) := x0
      exact opC_load e0 (LC wF hb) ⟨rfl, below_same wF⟩
    refine ⟨step_free rfl (fun aF wF hs hb => ?_), ?_⟩
    · obtain ⟨x0, x1, -⟩ := hs
      have e0 : aF.eval (.tmp 17) = .slice A M.length c1 := x0
      have e1 : aF.eval (.tmp 21) = .slice A' M.length c2 := x1
      exact opC_call (args := #[.slice A M.length c1, .slice A' M.length c2, .func (.func 51) #[] #[]]) (enters_of Tryz.func50 (by kernel_rfl) rfl) (by simp [e0, e1]; rfl) ((HE.out wF hb)) (fun _ h => ⟨rfl, h⟩)
    refine ⟨step_free rfl (fun aF wF hs hb => ?_), ?_⟩
    · obtain ⟨x0, -⟩ := hs
      have e0 : aF.eval (.tmp 22) = .bool true := x0
      exact opC_assign e0 ⟨rfl, below_same wF⟩
    exact trivial
  · exact fun _ _ h => h
  · intro T9 w9 h6 hb9
    have HB9 := Lib.hid hb9
    clear hb9
    go_wp2_with fail
    exact fin_tmp rfl h6 ⟨rfl, HB9.out⟩
end Go.Proofs.YtdnnkdldolhbpaaGreatDoor
namespace Go.Proofs.YtdnnkdldolhbpaaGreatDoor
open Go.ChangeShapes Go.WideShapes Go.ChangeAt Go.RowKit Go.Maps

section
variable {H : Type} {enc : TypeId × Value → H} {W : World} {α : Type} {T : Lies α} {t e : TypeId}
theorem cell_lt {w : World} {p : Addr} {v : Value} (h : w.cell? p = some v) : p.block < w.heap.size := by
  rcases Nat.lt_or_ge p.block w.heap.size with k | k
  · exact k
  · have hn : w.heap[p.block]? = none := Array.getElem?_eq_none k
    obtain ⟨b, o, s⟩ := p
    simp only at hn
    unfold World.cell? at h
    cases s <;> simp [hn] at h
/-- A slice of elements within an argument. -/
theorem open_S2 {In : α → Prop} (hu : Tryz.prog.underlying t = some (.slice e)) (hk : Tryz.prog.cellsOf e = T.k) (hkp : 0 < T.k)
    (hone : ∀ {base : Nat} {spare : Nat → Bool} {held : Bool} {n : Nat} {cs : List Value} {x : DataW H × List MemPlace}, DataW.trod enc Tryz.prog W base spare held n e cs = some x → ∃ v : α, In v ∧ cs = T.cells v)
    {base : Nat} {spare : Nat → Bool} {held : Bool} {fuel : Nat} {cs : List Value} {x : DataW H × List MemPlace} (h : DataW.trod enc Tryz.prog W base spare held fuel t cs = some x) :
    ∃ (A : Option Addr) (n c : Nat) (l : List α), cs = [.slice A n c] ∧ l.length = n ∧ n ≤ c ∧ c ≤ maxLen ∧ Rs T W W.heap.size A l ∧ (∀ u ∈ l, In u) := by
  rcases Go.Deep.open_slice hu h with ⟨hcs, _⟩ | ⟨a, len, cap, m, n, D, Pl, hcs, _, hl, hm, hmm, _, hi⟩
  · exact ⟨Option.none, 0, 0, [], hcs, rfl, Nat.le_refl _, Nat.zero_le _, (fun hn => absurd hn (by simp)), (fun u hu => nomatch hu)⟩
  · have hml : len ≤ m := by rw [hmm]; split <;> omega
    rw [hk] at hi
    have hv : ∀ i, i < m → ∃ v : α, In v ∧ ∀ (j : Nat) x, (T.cells v)[j]? = some x → W.cell? (a.add (i * T.k + j)) = some x := by
      intro i him
      obtain ⟨cs', hc, ht⟩ := hi i him
      obtain ⟨v, hin, rfl⟩ := hone ht
      obtain ⟨_, hcl, hat⟩ := World.cells?_some hc
      refine ⟨v, hin, fun j x hx => ?_⟩
      have hj : j < T.k := by
        rcases Nat.lt_or_ge j T.k with h | h
        · exact h
        · rw [List.getElem?_eq_none (by rw [T.len]; exact h)] at hx; cases hx
      rw [← Go.Deep.add_add, hat j hj, hx]
    have hl2 : ∀ k, k ≤ len → ∃ l : List α, l.length = k ∧ (∀ u ∈ l, In u) ∧ ∀ (j : Nat) v, l[j]? = some v → ∀ (i : Nat) x, (T.cells v)[i]? = some x → W.cell? (a.add (j * T.k + i)) = some x := by
      intro k
      induction k with
      | zero => exact fun _ => ⟨[], rfl, (fun u hu => nomatch hu), (fun j v hv => by simp at hv)⟩
      | succ k ih =>
        intro hk
        obtain ⟨l, h1, h2, h3⟩ := ih (by omega)
        obtain ⟨v, g1, g2⟩ := hv k (by omega)
        refine ⟨l ++ [v], by simp [h1], fun u hu => ?_, fun j u hu => ?_⟩
        · rcases List.mem_append.1 hu with hu | hu
          · exact h2 u hu
          · rw [List.mem_singleton.1 hu]; exact g1
        · rcases Nat.lt_or_ge j k with hj | hj
          · rw [List.getElem?_append_left (by omega)] at hu
            exact h3 j u hu
          · rw [List.getElem?_append_right (by omega), h1] at hu
            have hj2 : j = k := by
              rcases Nat.lt_or_ge k j with h | h
              · rw [List.getElem?_eq_none (by simp; omega)] at hu; cases hu
              · omega
            subst hj2
            simp only [Nat.sub_self, List.getElem?_cons_zero, Option.some.injEq] at hu
            subst hu
            exact g2
    obtain ⟨l, h1, h2, h3⟩ := hl2 len (Nat.le_refl _)
    refine ⟨some a, len, cap, l, hcs, h1, hl, hm, fun hn => ?_, h2⟩
    obtain ⟨b, off, spot⟩ := a
    have hne : 0 < (T.cells (l[0]'hn)).length := by rw [T.len]; exact hkp
    have h0 := h3 0 _ (List.getElem?_eq_getElem hn) 0 _ (List.getElem?_eq_getElem hne)
    have hspot : spot = Option.none := by simpa [Addr.add] using World.cell?_spot h0
    subst hspot
    have hlt := cell_lt h0
    refine ⟨b, off, rfl, by simpa [Addr.add] using hlt, fun j v hv i x hx => ?_⟩
    have := h3 j v hv i x hx
    rwa [add_plain] at this
/-- An act, as memory has it. -/
structure ActV where
  dd : Nat
  y : Ky
  A : Option Addr
  l : List (Nat × Int)
  c : Nat
  raw : Bool
  bk : Nat
structure ActV.In (W : World) (a : ActV) : Prop where
  dd : a.dd < 256
  y : a.y.In
  bk : a.bk < 256
  r : Rs legT W W.heap.size a.A a.l
  c : a.l.length ≤ a.c ∧ a.c ≤ maxLen
  l : ∀ u ∈ a.l, LegIn u
def actCs (a : ActV) : List Value := [.int .u8 (a.dd : Int), .int .u32 (a.y.a : Int), .int .i32 a.y.d, .int .u8 (a.y.k : Int), .int .u32 (a.y.s : Int), .slice a.A a.l.length a.c, .bool a.raw, .int .u8 (a.bk : Int)]
def actT : Lies ActV := ⟨actCs, 8, fun _ => rfl, fun a u hu => by
  simp [actCs] at hu
  rcases hu with rfl | rfl | rfl | rfl | rfl | rfl | rfl | rfl <;> rfl⟩
theorem cellsAct : Tryz.prog.cellsOf 36 = 8 := by kernel_rfl
theorem cellsLegs : Tryz.prog.cellsOf 34 = 1 := by kernel_rfl
theorem cellsBool : Tryz.prog.cellsOf 4 = 1 := by kernel_rfl
set_option maxRecDepth 20000 in
theorem open_key2 {base : Nat} {spare : Nat → Bool} {held : Bool} {n : Nat} {a0 a1 a2 a3 : Value} {x : DataW H × List MemPlace} (h : DataW.trod enc Tryz.prog W base spare held n 33 [a0, a1, a2, a3] = some x) : ∃ y : Ky, y.In ∧ a0 = .int .u32 (y.a : Int) ∧ a1 = .int .i32 y.d ∧ a2 = .int .u8 (y.k : Int) ∧ a3 = .int .u32 (y.s : Int) := by
  obtain ⟨xs, n', hn', hy, hlen, hyl, hf⟩ := DataW.trod_struct Tryz.underlying33 h
  match xs, hyl with
  | [y0, y1, y2, y3], _ =>
    have h0 : DataW.trod enc Tryz.prog W base spare held n' 30 (List.take (Tryz.prog.cellsOf 30) (List.drop 0 [a0, a1, a2, a3])) = some y0 := hf 0 _ rfl
    rw [cellsU32] at h0
    have h1 : DataW.trod enc Tryz.prog W base spare held n' 31 (List.take (Tryz.prog.cellsOf 31) (List.drop 1 [a0, a1, a2, a3])) = some y1 := hf 1 _ rfl
    rw [cellsDay] at h1
    have h2 : DataW.trod enc Tryz.prog W base spare held n' 5 (List.take (Tryz.prog.cellsOf 5) (List.drop 2 [a0, a1, a2, a3])) = some y2 := hf 2 _ rfl
    rw [cellsU8] at h2
    have h3 : DataW.trod enc Tryz.prog W base spare held n' 30 (List.take (Tryz.prog.cellsOf 30) (List.drop 3 [a0, a1, a2, a3])) = some y3 := hf 3 _ rfl
    rw [cellsU32] at h3
    obtain ⟨z0, k0, _, w0⟩ := DataW.trod_int Tryz.underlying30 (h0 : DataW.trod enc Tryz.prog W base spare held n' 30 [a0] = some y0)
    obtain ⟨z1, k1, _, w1⟩ := DataW.trod_int Tryz.underlying31 (h1 : DataW.trod enc Tryz.prog W base spare held n' 31 [a1] = some y1)
    obtain ⟨z2, k2, _, w2⟩ := DataW.trod_int Tryz.underlying5 (h2 : DataW.trod enc Tryz.prog W base spare held n' 5 [a2] = some y2)
    obtain ⟨z3, k3, _, w3⟩ := DataW.trod_int Tryz.underlying30 (h3 : DataW.trod enc Tryz.prog W base spare held n' 30 [a3] = some y3)
    obtain rfl := List.head_eq_of_cons_eq k0
    obtain rfl := List.head_eq_of_cons_eq k1
    obtain rfl := List.head_eq_of_cons_eq k2
    obtain rfl := List.head_eq_of_cons_eq k3
    obtain ⟨a, rfl, ha⟩ := wf_u32 w0
    obtain ⟨k, rfl, hk⟩ := wf_u8 w2
    obtain ⟨s, rfl, hs⟩ := wf_u32 w3
    exact ⟨⟨a, z1, k, s⟩, ⟨ha, wf_i32 w1, hk, hs⟩, rfl, rfl, rfl, rfl⟩
set_option maxRecDepth 20000 in
theorem open_act {base : Nat} {spare : Nat → Bool} {held : Bool} {n : Nat} {cs : List Value} {x : DataW H × List MemPlace} (h : DataW.trod enc Tryz.prog W base spare held n 36 cs = some x) : ∃ v : ActV, v.In W ∧ cs = actT.cells v := by
  obtain ⟨xs, n', hn', hy, hlen, hyl, hf⟩ := DataW.trod_struct Tryz.underlying36 h
  rw [cellsAct] at hlen
  match cs, hlen with
  | [a0, a1, a2, a3, a4, a5, a6, a7], _ =>
    match xs, hyl with
    | [y0, y1, y2, y3, y4], _ =>
      have h0 : DataW.trod enc Tryz.prog W base spare held n' 5 (List.take (Tryz.prog.cellsOf 5) (List.drop 0 [a0, a1, a2, a3, a4, a5, a6, a7])) = some y0 := hf 0 _ rfl
      rw [cellsU8] at h0
      have h1 : DataW.trod enc Tryz.prog W base spare held n' 33 (List.take (Tryz.prog.cellsOf 33) (List.drop 1 [a0, a1, a2, a3, a4, a5, a6, a7])) = some y1 := hf 1 _ rfl
      rw [cellsKey] at h1
      have h2 : DataW.trod enc Tryz.prog W base spare held n' 34 (List.take (Tryz.prog.cellsOf 34) (List.drop 5 [a0, a1, a2, a3, a4, a5, a6, a7])) = some y2 := hf 2 _ rfl
      rw [cellsLegs] at h2
      have h3 : DataW.trod enc Tryz.prog W base spare held n' 4 (List.take (Tryz.prog.cellsOf 4) (List.drop 6 [a0, a1, a2, a3, a4, a5, a6, a7])) = some y3 := hf 3 _ rfl
      rw [cellsBool] at h3
      have h4 : DataW.trod enc Tryz.prog W base spare held n' 5 (List.take (Tryz.prog.cellsOf 5) (List.drop 7 [a0, a1, a2, a3, a4, a5, a6, a7])) = some y4 := hf 4 _ rfl
      rw [cellsU8] at h4
      obtain ⟨z0, k0, _, w0⟩ := DataW.trod_int Tryz.underlying5 (h0 : DataW.trod enc Tryz.prog W base spare held n' 5 [a0] = some y0)
      obtain ⟨y, hyI, e1, e2, e3, e4⟩ := open_key2 (h1 : DataW.trod enc Tryz.prog W base spare held n' 33 [a1, a2, a3, a4] = some y1)
      obtain ⟨A, ln, c, l, e5, hl, hlc, hcm, hR, hI⟩ := open_S2 (T := legT) Tryz.underlying34 cellsLeg (by decide) (fun h => open_leg h) (h2 : DataW.trod enc Tryz.prog W base spare held n' 34 [a5] = some y2)
      obtain ⟨b, e6, _⟩ := DataW.trod_bool Tryz.underlying4 (h3 : DataW.trod enc Tryz.prog W base spare held n' 4 [a6] = some y3)
      obtain ⟨z4, k4, _, w4⟩ := DataW.trod_int Tryz.underlying5 (h4 : DataW.trod enc Tryz.prog W base spare held n' 5 [a7] = some y4)
      obtain rfl := List.head_eq_of_cons_eq k0
      obtain rfl := List.head_eq_of_cons_eq k4
      obtain rfl := List.head_eq_of_cons_eq e5
      obtain rfl := List.head_eq_of_cons_eq e6
      subst e1 e2 e3 e4 hl
      obtain ⟨dd, rfl, hdd⟩ := wf_u8 w0
      obtain ⟨bk, rfl, hbk⟩ := wf_u8 w4
      exact ⟨⟨dd, y, A, l, c, b, bk⟩, ⟨hdd, hyI, hbk, hR, ⟨hlc, hcm⟩, hI⟩, rfl⟩
set_option maxRecDepth 20000 in
theorem open_acts14 {b0 : Nat} {v : Value} {d : DataW H} {p : List MemPlace} (hval : Value.okWide Tryz.prog W .any b0 22 v) (h : DataW.Trod enc Tryz.prog W 0 (fun _ => true) true 22 v d p) (hlt : ∀ x ∈ p, x.block < W.heap.size) :
    ∃ (A : Option Addr) (n c : Nat) (l : List ActV), v = .slice A n c ∧ l.length = n ∧ n ≤ c ∧ c ≤ maxLen ∧ Rs actT W W.heap.size A l ∧ (∀ u ∈ l, u.In W) :=
  open_S Tryz.underlying22 cellsAct (show 0 < 8 by decide) (fun h => open_act h) hval h hlt
end
end Go.Proofs.YtdnnkdldolhbpaaGreatDoor
namespace Go.Proofs.YtdnnkdldolhbpaaGreatDoor
open Go.ChangeShapes Go.WideShapes Go.ChangeAt Go.RowKit Go.Maps

theorem RefL.new {w : World} {X : Nat} (h : Blk w X 29 #[.slice none 0 0]) : RefL w X (fun i => i = X) [] :=
  ⟨none, 0, [], h, Nat.le_refl _, Nat.zero_le _, ⟨rfl, Rs.nil_, fun p hp => (by cases hp), fun i v x hv => (by simp at hv), fun i v x hv => (by simp at hv)⟩, rfl, fun i hi => by rw [hi]; exact h.lt⟩
/-- Both ledgers behind some acts. -/
structure Both (w : World) (q X S n : Nat) (M : List Li) (D : Nat → Prop) : Prop where
  led : Led w q D M
  ref : ∃ E, RefL w X E M ∧ ∀ i, D i → ¬ E i
  low : Low M
  off : ∀ i, D i ∨ i = X → S ≤ i
  few : M.length ≤ n
theorem Both.step {w w' : World} {q X S n : Nat} {M : List Li} {D : Nat → Prop} {e : Ending} (h : Both w q X S n M D) (hd : DoPost q X D M w e w') (hS : S ≤ w.heap.size) : ∃ M' D', Both w' q X S (n + 1) M' D' ∧ Below S w w' ∧ (M' = M ∨ ∃ x, M' = M ++ [x] ∧ Goes M x ∧ x.y.a < 5) := by
  obtain ⟨_, hc, M', D', E', k1, k2, k3, k4, k5⟩ := hd
  refine ⟨M', D', ⟨k1, ⟨E', k2, k3⟩, ?_, fun i hi => ?_, ?_⟩, hc.below hS h.off, k5⟩
  · rcases k5 with rfl | ⟨x, rfl, _, hx⟩
    · exact h.low
    · intro z hz
      rcases List.mem_append.1 hz with hz | hz
      · exact h.low z hz
      · rw [List.mem_singleton.1 hz]
        exact hx
  · rcases hi with hi | hi
    · rcases k4 i hi with h1 | h1
      · exact h.off i (.inl h1)
      · omega
    · exact h.off i (.inr hi)
  · rcases k5 with rfl | ⟨x, rfl, _, _⟩
    · have := h.few
      omega
    · have := h.few
      simp
      omega
theorem Both.below {w w' : World} {q X S n : Nat} {M : List Li} {D : Nat → Prop} (h : Both w q X S n M D) (hb : Below w.heap.size w w') : Both w' q X S n M D := by
  obtain ⟨E, h1, h2⟩ := h.ref
  exact ⟨h.led.below hb, ⟨E, h1.below hb, h2⟩, h.low, h.off, h.few⟩
theorem two_rows (w : World) (ty : TypeId) (n : Int) : Rs legT (w.alloc (.cells #[.int .u8 1, .int .i64 n, .int .u8 4, .int .i64 (-n)] ty)) (w.heap.size + 1) (some ⟨w.heap.size, 0, none⟩) (twoL n) := fun _ =>
  ⟨w.heap.size, 0, rfl, by omega, fun j v hv i x hx => by
    rcases j with _ | _ | j
    · obtain rfl : (1, n) = v := by simpa [twoL] using hv
      rcases i with _ | _ | i <;> simp [legT] at hx ⊢ <;> exact hx
    · obtain rfl : (4, -n) = v := by simpa [twoL] using hv
      rcases i with _ | _ | i <;> simp [legT] at hx ⊢ <;> exact hx
    · simp [twoL] at hv⟩
theorem make_two (K s : Nat) (n : Int) (hn : -2147483648 ≤ n ∧ n ≤ 2147483647) (W : World) (g : Nat) (hg : g = W.heap.size) : Calls Tryz.prog 25 #[.agg #[.int .u32 9, .int .i32 3, .int .u8 (K : Int), .int .u32 (s : Int)], .slice (some ⟨g, 0, none⟩) 2 2] (W.alloc (.cells #[.int .u8 1, .int .i64 n, .int .u8 4, .int .i64 (-n)] 53)) fun e w' =>
    ∃ A c, e = .returned (.agg #[.int .u32 9, .int .i32 3, .int .u8 (K : Int), .int .u32 (s : Int), .slice A 2 c]) ∧ OwnS legT 53 w' (W.heap.size + 1) (.slice A 2 c) 2 (twoL n) ∧ Below (W.heap.size + 1) (W.alloc (.cells #[.int .u8 1, .int .i64 n, .int .u8 4, .int .i64 (-n)] 53)) w' := by
  subst hg
  refine (Make_any (exT K s) (some ⟨W.heap.size, 0, none⟩) 2 2 (W.heap.size + 1) (twoL n) (W.alloc (.cells #[.int .u8 1, .int .i64 n, .int .u8 4, .int .i64 (-n)] 53)) (two_rows W _ n) rfl (by omega) (by simp) (two_in hn)).mono ?_
  rintro e w' ⟨A, c, rfl, ho, hb⟩
  rw [two_mk hn] at ho ⊢
  rw [show (W.alloc (.cells #[.int .u8 1, .int .i64 n, .int .u8 4, .int .i64 (-n)] 53)).heap.size = W.heap.size + 1 by simp] at ho hb
  exact ⟨A, c, rfl, ho, hb⟩
/-- What stands beside the ledger: the entry, its legs, the copy, what was there ahead. -/
structure Rest (W0 : World) (S0 gE : Nat) (A4 : Option Addr) (c4 K s : Nat) (n : Int) (cc : Nat) (Dc : Nat → Prop) (M : List Li) (W : World) : Prop where
  e : Blk W gE 40 #[.int .u32 9, .int .i32 3, .int .u8 (K : Int), .int .u32 (s : Int), .slice A4 2 c4]
  r : Rs legT W W.heap.size A4 (twoL n)
  lc : Led W cc Dc M
  b : Below S0 W0 W
  g : Laid W
  s : S0 ≤ W.heap.size
def Apt (S0 gE : Nat) (A4 : Option Addr) (Dc : Nat → Prop) (D : Nat → Prop) : Prop := ∀ i, D i → i ≠ gE ∧ (∀ p, A4 = some p → i ≠ p.block) ∧ ¬ Dc i ∧ S0 ≤ i
section
variable {W0 W W' : World} {S0 gE : Nat} {A4 : Option Addr} {c4 K s : Nat} {n : Int} {cc : Nat} {Dc D D' : Nat → Prop} {M : List Li}
theorem Rest.chg (h : Rest W0 S0 gE A4 c4 K s n cc Dc M W) (hc : Chg D W W') (ha : Apt S0 gE A4 Dc D) (hg : 0 < S0) : Rest W0 S0 gE A4 c4 K s n cc Dc M W' :=
  ⟨hc.blk h.e (fun hd => (ha _ hd).1 rfl), fun hn => by
    obtain ⟨b, o, hb, hlt, _⟩ := h.r hn
    exact (h.r.same hc.size (fun p hp => by
      rw [hb] at hp
      injection hp with hp
      subst hp
      exact hc.block _ hlt (fun hd => (ha _ hd).2.1 _ hb rfl))) hn, h.lc.same (fun i hi => hc.block i (h.lc.lt i hi) (fun hd => (ha i hd).2.2.1 hi)) hc.size, h.b.trans (hc.below h.s (fun i hi => (ha i hi).2.2.2)), h.g.chg hc (fun hd => by have := (ha _ hd).2.2.2; omega), Nat.le_trans h.s hc.size⟩
theorem Rest.below (h : Rest W0 S0 gE A4 c4 K s n cc Dc M W) (hb : Below W.heap.size W W') (hg : 0 < S0) : Rest W0 S0 gE A4 c4 K s n cc Dc M W' :=
  h.chg (D := fun _ => False) (Chg.of_below hb) (fun _ hd => hd.elim) hg
theorem Apt.next (h : Rest W0 S0 gE A4 c4 K s n cc Dc M W) (ha : Apt S0 gE A4 Dc D) (hd : ∀ i, D' i → D i ∨ W.heap.size ≤ i) : Apt S0 gE A4 Dc D' := fun i hi => by
  rcases hd i hi with k | k
  · exact ha i k
  · have h1 := h.e.lt
    have h2 := h.s
    refine ⟨by omega, fun p hp => ?_, fun hdc => ?_, by omega⟩
    · obtain ⟨b, o, hb, hlt, _⟩ := h.r (by simp [twoL])
      rw [hb] at hp
      injection hp with hp
      subst hp
      show i ≠ b
      omega
    · have := h.lc.lt i hdc
      omega
end
set_option maxRecDepth 100000 in
set_option maxHeartbeats 8000000 in
theorem law_turns (A : Option Addr) (c : Nat) (l : List ActV) (y : Ky) (hy : y.In) (n : Int) (hn : -2147483648 ≤ n ∧ n ≤ 2147483647) (w : World) (hR : Rs actT w w.heap.size A l) (hI : ∀ u ∈ l, u.In w) (hgl : Laid w) (hm : l.length ≤ maxLen) :
    Calls Tryz.prog 5 #[.slice A l.length c, y.v, .int .i32 n] w (Ret (.bool true) w) := by
  unfold Ky.v
  have HK0 := Lib.hid (Blk.new w 33 #[.int .u32 (y.a : Int), .int .i32 y.d, .int .u8 (y.k : Int), .int .u32 (y.s : Int)])
  have HB0 := Lib.hid (b_alloc w (.cells #[.int .u32 (y.a : Int), .int .i32 y.d, .int .u8 (y.k : Int), .int .u32 (y.s : Int)] 33))
  have HS0 := Lib.hid (show (w.alloc (.cells #[.int .u32 (y.a : Int), .int .i32 y.d, .int .u8 (y.k : Int), .int .u32 (y.s : Int)] 33)).heap.size = w.heap.size + 1 by simp)
  obtain ⟨W0, hW⟩ : ∃ W, w.alloc (.cells #[.int .u32 (y.a : Int), .int .i32 y.d, .int .u8 (y.k : Int), .int .u32 (y.s : Int)] 33) = W := ⟨_, rfl⟩
  rw [hW] at HK0 HB0 HS0
  have HW := Lib.hid hW
  have HA := Lib.hid (awake14 W0)
  clear hW
  go_enter Tryz.func5, Tryz.ntmps5
  go_upto_region 1 with (fail)
  rw [HW.out]
  go_wp2_with fail
  refine HA.out.mono ?_
  rintro e w1 ⟨rfl, hb1⟩
  have HN := Lib.hid (New_any w1)
  have HB1 := Lib.hid hb1
  clear hb1 HA HW
  go_wp2_with fail
  refine HN.out.mono ?_
  rintro e w2 ⟨rfl, hled, hb2⟩
  have HX2 := Lib.hid (Blk.new w2 29 #[.slice none 0 0])
  have hba := b_alloc w2 (.cells #[.slice none 0 0] 29)
  have HL2 := Lib.hid (hled.below hba)
  have hb03 : Below W0.heap.size W0 (w2.alloc (.cells #[.slice none 0 0] 29)) := HB1.out.trans ((hb2.trans (hba.mono hb2.size)).mono HB1.out.size)
  have HB3 := Lib.hid hb03
  have hq1 : W0.heap.size ≤ w1.heap.size := HB1.out.size
  have hX1 : w1.heap.size < w2.heap.size := hled.lt _ rfl
  have HS3 := Lib.hid (show (w2.alloc (.cells #[.slice none 0 0] 29)).heap.size = w2.heap.size + 1 by simp)
  obtain ⟨W3, hW3⟩ : ∃ W, w2.alloc (.cells #[.slice none 0 0] 29) = W := ⟨_, rfl⟩
  rw [hW3] at HX2 HL2 HB3 HS3
  have HW3 := Lib.hid hW3
  clear hled hb2 hba hb03 hW3 HN
  obtain ⟨q, hq⟩ : ∃ q, w1.heap.size = q := ⟨_, rfl⟩
  rw [hq] at HL2 hq1 hX1
  rw [hq]
  obtain ⟨X, hX⟩ : ∃ X, w2.heap.size = X := ⟨_, rfl⟩
  rw [hX] at HX2 hX1
  have HBo : Hid (Both W3 q X W0.heap.size 0 [] (fun i => i = q)) := Lib.hid ⟨HL2.out, ⟨fun i => i = X, RefL.new HX2.out, fun i hi hx => by omega⟩, (fun x hx => by cases hx), (fun i hi => by omega), Nat.le_refl _⟩
  clear hq
  go_upto_region 4 with (fail)
  rw [HW3.out]
  clear hX HW3 HX2 HL2
  have HRA := Lib.hid hR
  have HIA := Lib.hid hI
  have HGL := Lib.hid hgl
  have hg0 := hgl.lt
  clear hR hI hgl
  unfold maxLen at hm
  go_wp2_with fail
  go_loopw [9, 10, 22] (fun _ _ i wr => ∃ (k : Nat) (M : List Li) (D : Nat → Prop), k ≤ l.length ∧ i = .int .i64 k ∧ Hid (Both wr q X W0.heap.size (min k 10) M D) ∧ Hid (Below W0.heap.size W0 wr)) (fun _ _ i _ => l.length - (intOf i).toNat)
  case atStart => exact ⟨0, [], fun i => i = q, Nat.zero_le _, rfl, Lib.hid (by simpa using HBo.out), HB3⟩
  case round =>
    obtain ⟨k, M, D, hk, rfl, HBM, HBL⟩ := hrel
    by_cases hlt : k < l.length
    · obtain ⟨b, o, rfl, hb, hcell⟩ := HRA.out.at_ hlt
      have hin := HIA.out _ (List.getElem_mem hlt)
      generalize l[k] = v at *
      obtain ⟨dd, z, P, ll, cl, raw, bk⟩ := v
      have hbw : Below w.heap.size w wr := HB0.out.trans (HBL.out.mono (by have := HS0.out; omega))
      have hc2 : ∀ (i : Nat) x, (actCs ⟨dd, z, P, ll, cl, raw, bk⟩)[i]? = some x → wr.cell? ⟨b, o + (k * 8 + i), none⟩ = some x := fun i x hx => (hbw.cell (p := ⟨b, o + (k * 8 + i), none⟩) hb).trans (hcell i x hx)
      have d0 := hc2 0 _ rfl
      have d1 := hc2 1 _ rfl
      have d2 := hc2 2 _ rfl
      have d3 := hc2 3 _ rfl
      have d4 := hc2 4 _ rfl
      have d5 := hc2 5 _ rfl
      have d6 := hc2 6 _ rfl
      have d7 := hc2 7 _ rfl
      simp only [Nat.add_zero, ← Nat.add_assoc] at d0 d1 d2 d3 d4 d5 d6 d7
      obtain ⟨Z, hZ⟩ : ∃ Z : Array Value, Z = #[.int .u8 (dd : Int), .int .u32 (z.a : Int), .int .i32 z.d, .int .u8 (z.k : Int), .int .u32 (z.s : Int), .slice P ll.length cl, .bool raw, .int .u8 (bk : Int)] := ⟨_, rfl⟩
      have HN := Lib.hid (Blk.new wr 36 Z)
      have hba := b_alloc wr (.cells Z 36)
      have hB4 := HBM.out.below hba
      have hbl4 := HBL.out.trans (hba.mono HBL.out.size)
      have hgl4 : Laid (wr.alloc (.cells Z 36)) := HGL.out.chg (Chg.of_below (D := fun _ => False) (hbw.trans (hba.mono hbw.size))) (fun h => h)
      have hin4 := hbw.trans (hba.mono hbw.size)
      obtain ⟨W4, hW4⟩ : ∃ W, wr.alloc (.cells Z 36) = W := ⟨_, rfl⟩
      rw [hW4] at HN hB4 hbl4 hgl4 hin4
      have HBM4 := Lib.hid hB4
      have HBL4 := Lib.hid hbl4
      have HGL4 := Lib.hid hgl4
      have HIN4 := Lib.hid hin4
      have HIN := Lib.hid hin
      have HW4 := Lib.hid hW4
      clear hcell hc2 hba hB4 hbl4 hgl4 hin4 hW4 hbw hin
      subst hZ
      go_upto_region 7 with (fail)
      rw [HW4.out]
      clear d0 d1 d2 d3 d4 d5 d6 d7 HW4
      have n0 := HN.out.cell 0
      have n1 := HN.out.cell 1
      have n2 := HN.out.cell 2
      have n3 := HN.out.cell 3
      have n4 := HN.out.cell 4
      have n5 := HN.out.cell 5
      have n6 := HN.out.cell 6
      have n7 := HN.out.cell 7
      simp at n0 n1 n2 n3 n4 n5 n6 n7
      by_cases hk10 : k < 10
      · have hD := Do_any q X D (HBM4.out.ref.choose) M z HIN.out.y dd bk HIN.out.dd HIN.out.bk raw P ll.length cl ll W4 HBM4.out.led HBM4.out.ref.choose_spec.1 HBM4.out.ref.choose_spec.2 (by have := HBM4.out.few; omega) HBM4.out.low ((HIN.out.r.below HIN4.out).up HIN4.out.size) rfl HIN.out.c.1 HIN.out.c.2 HIN.out.l HGL4.out (fun h => by
          have := HBM4.out.off _ h
          have := HS0.out
          omega)
        unfold actC at hD
        have HD := Lib.hid hD
        clear hD
        go_wp2_with fail
        refine HD.out.mono ?_
        intro e w5 hd
        obtain ⟨M5, D5, hB5, hb5, _⟩ := HBM4.out.step hd HBL4.out.size
        obtain ⟨rfl, _⟩ := hd
        have HB5 : Hid (Both w5 q X W0.heap.size (min (k + 1) 10) M5 D5) := Lib.hid (by
          rw [show min (k + 1) 10 = min k 10 + 1 by omega]
          exact hB5)
        have HBL5 := Lib.hid (HBL4.out.trans hb5)
        clear hB5 hb5 n0 n1 n2 n3 n4 n5 n6 n7
        go_wp2_with fail
        go_roundw
        case rel => exact ⟨k + 1, M5, D5, by omega, by go_num, HB5, HBL5⟩
        case measure => simp [intOf]; omega
      · have HB5 : Hid (Both W4 q X W0.heap.size (min (k + 1) 10) M D) := Lib.hid (by
          rw [show min (k + 1) 10 = min k 10 by omega]
          exact HBM4.out)
        go_wp2_with fail
        go_roundw
        case rel => exact ⟨k + 1, M, D, by omega, by go_num, HB5, HBL4⟩
        case measure => simp [intOf]; omega
    · clear HRA HIA
      have hM10 : M.length ≤ 10 := Nat.le_trans HBM.out.few (Nat.min_le_right _ _)
      have hbw : Below w.heap.size w wr := HB0.out.trans (HBL.out.mono (by have := HS0.out; omega))
      have HCp := Lib.hid (Copy_any q D M wr HBM.out.led (by omega))
      have HBW := Lib.hid hbw
      clear hbw
      go_wp2_with fail
      refine HCp.out.mono ?_
      rintro e w3 ⟨cc, Dc, rfl, hlc, hdc, hbc⟩
      have HBM3 := Lib.hid (HBM.out.below hbc)
      have HLC3 := Lib.hid hlc
      have HDC := Lib.hid hdc
      have hsz3 := hbc.size
      have HB03 := Lib.hid (HBL.out.trans (hbc.mono HBL.out.size))
      have HK3 : Hid (Blk w3 w.heap.size 33 #[.int .u32 (y.a : Int), .int .i32 y.d, .int .u8 (y.k : Int), .int .u32 (y.s : Int)]) := Lib.hid (HK0.out.below HB03.out HK0.out.lt)
      have HDr := Lib.hid (HBM.out.led.lt)
      clear hlc hdc hbc HCp HBM
      have n0 := HK3.out.cell 0
      have n1 := HK3.out.cell 1
      have n2 := HK3.out.cell 2
      have n3 := HK3.out.cell 3
      simp at n0 n1 n2 n3
      obtain ⟨K, hK⟩ : ∃ K, 1 + y.k % 7 = K := ⟨_, rfl⟩
      have hK7 : 1 ≤ K ∧ K ≤ 7 := by omega
      have hKi : 1 + (y.k : Int) % 7 = (K : Int) := by omega
      have hky := hy.k
      have hMk := make_two K y.s n hn w3 w3.heap.size rfl
      have HMk := Lib.hid hMk
      clear hMk hK
      go_wp2_with fail
      refine HMk.out.mono ?_
      rintro e w4 ⟨A4, c4, rfl, ho4, hb4⟩
      have hb34 : Below w3.heap.size w3 w4 := (b_alloc w3 _).trans (hb4.mono (by omega))
      have hr4 : Rs legT w4 w4.heap.size A4 (twoL n) := by
        obtain ⟨_, A9, c9, he, _, _, hr9⟩ := ho4.form (by decide)
        injection he with e1
        rw [e1]
        exact hr9
      have hA4 : ∀ p, A4 = some p → w3.heap.size < p.block := fun p hp => by
        subst hp
        have := (ho4.lt p.block rfl).1
        omega
      have hba := b_alloc w4 (.cells #[.int .u32 9, .int .i32 3, .int .u8 (K : Int), .int .u32 (y.s : Int), .slice A4 2 c4] 40)
      have hb35 := hb34.trans (hba.mono hb34.size)
      have HE5 := Lib.hid (Blk.new w4 40 #[.int .u32 9, .int .i32 3, .int .u8 (K : Int), .int .u32 (y.s : Int), .slice A4 2 c4])
      have HR5 := Lib.hid ((hr4.below hba).up hba.size)
      have HBM5 := Lib.hid (HBM3.out.below hb35)
      have HLC5 := Lib.hid (HLC3.out.below hb35)
      have HB05 := Lib.hid (HB03.out.trans (hb35.mono HB03.out.size))
      have HG5 := Lib.hid (HGL.out.chg (Chg.of_below (D := fun _ => False) (HB0.out.trans (HB05.out.mono (by have := HS0.out; omega)))) (fun h => h))
      have hs4 : w3.heap.size ≤ w4.heap.size := hb34.size
      have HA4 := Lib.hid hA4
      obtain ⟨W5, hW5⟩ : ∃ W, w4.alloc (.cells #[.int .u32 9, .int .i32 3, .int .u8 (K : Int), .int .u32 (y.s : Int), .slice A4 2 c4] 40) = W := ⟨_, rfl⟩
      have hs5 : W5.heap.size = w4.heap.size + 1 := by rw [← hW5]; simp
      rw [hW5] at HE5 HR5 HBM5 HLC5 HB05 HG5
      have HW5 := Lib.hid hW5
      clear n0 n1 n2 n3 hKi hba hb35 hW5 hr4 ho4 hb4 hb34 hA4 HMk HK3 HB03 HBM3 HLC3
      have hyI : (exT K y.s).In := ⟨by show 9 < 4294967296; omega, by show (-2147483648 : Int) ≤ 3 ∧ (3 : Int) ≤ 2147483647; omega, by show K < 256; omega, hy.s⟩
      have hP1 := Post_any q D M (exT K y.s) hyI A4 2 c4 (twoL n) W5 HBM5.out.led HR5.out rfl (by omega) (two_in hn) (by omega)
      change Calls _ _ #[_, .agg #[.int .u32 9, .int .i32 3, .int .u8 (K : Int), .int .u32 (y.s : Int), .slice A4 2 c4]] W5 _ at hP1
      have HP1 := Lib.hid hP1
      have n0 := HE5.out.cell 0
      have n1 := HE5.out.cell 1
      have n2 := HE5.out.cell 2
      have n3 := HE5.out.cell 3
      have n4 := HE5.out.cell 4
      simp at n0 n1 n2 n3 n4
      clear hP1
      go_upto_region 12 with (fail)
      rw [HW5.out]
      go_wp2_with fail
      refine HP1.out.mono ?_
      intro e W6 hp6
      have hoff : ∀ i, D i → i < wr.heap.size := HDr.out
      by_cases hok : okW (ctl M) (twoL n)
      · have hpo : postOk M (exT K y.s) (twoL n) := ⟨two_right hn hK7 y.s, low_live HBM5.out.low rfl, low_ok HBM5.out.low hn, hok⟩
        obtain ⟨rfl, hc6, D6, hl6, hd6⟩ := hp6.1 hpo
        have hlow := HBM5.out.low
        have hg00 : 0 < W0.heap.size := by have := HS0.out; omega
        have hR5 : Rest W0 W0.heap.size w4.heap.size A4 c4 K y.s n cc Dc M W5 := ⟨HE5.out, HR5.out, HLC5.out, HB05.out, HG5.out, HB05.out.size⟩
        have hA5 : Apt W0.heap.size w4.heap.size A4 Dc D := fun i hi => by
          have h1 := hoff i hi
          refine ⟨by omega, fun p hp => ?_, fun hd => ?_, HBM5.out.off i (.inl hi)⟩
          · have := HA4.out p hp
            omega
          · have := HDC.out i hd
            omega
        have HR6 := Lib.hid (hR5.chg hc6 hA5 hg00)
        have hA6 := Apt.next hR5 hA5 hd6
        have HA6 := Lib.hid hA6
        have hl6' : Led W6 q D6 (M1t M K y.s n) := hl6
        have hF := HBM5.out.led.fine
        have hP2 := Post_any q D6 (M1t M K y.s n) (exT K y.s) hyI A4 2 c4 (twoL n) W6 hl6' HR6.out.r rfl (by omega) (two_in hn) (by unfold M1t; simp; omega)
        have hnp2 : ¬ postOk (M1t M K y.s n) (exT K y.s) (twoL n) := fun h => by
          have h1 := h.2.1
          rw [live1, if_pos rfl] at h1
          cases h1
        have HF := Lib.hid hF
        have HLOW := Lib.hid hlow
        have HP2 : Hid (Calls Tryz.prog 17 #[.pointer (some ⟨q, 0, none⟩), .agg #[.int .u32 9, .int .i32 3, .int .u8 (K : Int), .int .u32 (y.s : Int), .slice A4 2 c4]] W6 (FaultPost 9 10 W6)) := Lib.hid (hP2.mono fun e w' hp => by
          obtain ⟨v, rfl, _, hf, hb⟩ := hp.2 hnp2
          have hf2 := hf (two_right hn hK7 y.s)
          have hpe : postE (M1t M K y.s n) (exT K y.s) (twoL n) = 10 := by
            unfold postE
            rw [if_neg (by rw [two_right hn hK7 y.s]; decide), live1, if_pos rfl]
            rfl
          rw [hpe] at hf2
          exact ⟨v, rfl, hf2, hb⟩)
        have HL6 := Lib.hid hl6'
        clear hp6 hc6 hl6 hd6 hA6 hl6' hP2 hnp2 hR5 hA5 hoff hF hlow hpo n0 n1 n2 n3 n4 HE5 HR5 HBM5 HLC5 HG5 HB05 HP1 HDr
        have n0 := HR6.out.e.cell 0
        have n1 := HR6.out.e.cell 1
        have n2 := HR6.out.e.cell 2
        have n3 := HR6.out.e.cell 3
        have n4 := HR6.out.e.cell 4
        simp at n0 n1 n2 n3 n4
        have HOK := Lib.hid hok
        clear hok
        go_wp2_with fail
        refine HP2.out.mono ?_
        rintro e W7 ⟨v, rfl, ⟨N, rfl, hN1, hN2⟩, hb7⟩
        have hR7 := HR6.out.below hb7 hg00
        have HL7 := Lib.hid (HL6.out.below hb7)
        have HC7 := Lib.hid (Code_err N _ _ W7 hR7.g hN2)
        have HR7 := Lib.hid hR7
        clear hN1 hN2 hb7 hR7 HP2 HR6 HL6 n0 n1 n2 n3 n4
        go_wp2_with fail
        refine HC7.out.mono ?_
        rintro e W8 ⟨rfl, hb8⟩
        have HR8 := Lib.hid (HR7.out.below hb8 hg00)
        have HL8 := Lib.hid (HL7.out.below hb8)
        have hbl8 := Balance_any q D6 (M1t M K y.s n) 9 1 (by omega) (by omega) W8 HL8.out
        rw [show ofV (bal (M1t M K y.s n) 9) 1 = n by unfold ofV; rw [if_pos (by omega), bal1 HLOW.out, (twoS n).1]] at hbl8
        change Calls _ _ #[_, .int .u32 9, .int .u8 1] W8 _ at hbl8
        have HBl8 := Lib.hid hbl8
        clear hb8 hbl8 HR7 HL7 HC7
        go_wp2_with fail
        refine HBl8.out.mono ?_
        rintro e W9 ⟨rfl, hb9⟩
        have HR9 := Lib.hid (HR8.out.below hb9 hg00)
        have HL9 := Lib.hid (HL8.out.below hb9)
        have hrv := Rev_any q D6 (M1t M K y.s n) (exT K y.s) hyI W9 HL9.out (by unfold M1t; simp; omega)
        change Calls _ _ #[_, .agg #[.int .u32 9, .int .i32 3, .int .u8 (K : Int), .int .u32 (y.s : Int)]] W9 _ at hrv
        have HRv := Lib.hid hrv
        clear hb9 hrv HR8 HL8 HBl8
        have n0 := HR9.out.e.cell 0
        have n1 := HR9.out.e.cell 1
        have n2 := HR9.out.e.cell 2
        have n3 := HR9.out.e.cell 3
        simp at n0 n1 n2 n3
        go_wp2_with fail
        refine HRv.out.mono ?_
        intro e W10 hp10
        obtain ⟨rfl, hc10, D10, hl10, hd10⟩ := hp10.1 _ (rev_ok HLOW.out HF.out hn)
        have hl10' : Led W10 q D10 (M2t M K y.s n) := by
          have e1 : legsAt (M1t M K y.s n) M.length = twoL n := by simp [legsAt, M1t]
          rw [e1] at hl10
          exact hl10
        have hR10 := HR9.out.chg hc10 HA6.out hg00
        have HA10 := Lib.hid (Apt.next HR9.out HA6.out hd10)
        have HL10 := Lib.hid hl10'
        have hrv := Rev_any q D10 (M2t M K y.s n) (exT K y.s) hyI W10 hl10' (by unfold M2t M1t; simp; omega)
        have hno : ∀ i, ¬ revOk (M2t M K y.s n) (exT K y.s) i := fun i h => by
          have h1 := h.1
          rw [live2, if_pos rfl] at h1
          cases h1
        have HRv2 : Hid (Calls Tryz.prog 19 #[.pointer (some ⟨q, 0, none⟩), .agg #[.int .u32 9, .int .i32 3, .int .u8 (K : Int), .int .u32 (y.s : Int)]] W10 (FaultPost 9 3 W10)) := Lib.hid (hrv.mono fun e w' hp => by
          obtain ⟨v, rfl, hf, hb⟩ := hp.2 hno
          rw [live2, if_pos rfl] at hf
          exact ⟨v, rfl, hf, hb⟩)
        have HR10 := Lib.hid hR10
        clear hp10 hc10 hl10 hd10 hl10' hR10 hrv hno HRv HR9 HL9 HA6 n0 n1 n2 n3
        have n0 := HR10.out.e.cell 0
        have n1 := HR10.out.e.cell 1
        have n2 := HR10.out.e.cell 2
        have n3 := HR10.out.e.cell 3
        simp at n0 n1 n2 n3
        go_wp2_with fail
        refine HRv2.out.mono ?_
        rintro e W11 ⟨v, rfl, ⟨N2, rfl, hN1, hN2⟩, hb11⟩
        have hR11 := HR10.out.below hb11 hg00
        have HL11 := Lib.hid (HL10.out.below hb11)
        have HC11 := Lib.hid (Code_err N2 _ _ W11 hR11.g hN2)
        have HR11 := Lib.hid hR11
        clear hN1 hN2 hb11 hR11 HRv2 HR10 HL10 n0 n1 n2 n3
        go_wp2_with fail
        refine HC11.out.mono ?_
        rintro e W12 ⟨rfl, hb12⟩
        have HR12 := Lib.hid (HR11.out.below hb12 hg00)
        have HL12 := Lib.hid (HL11.out.below hb12)
        clear hb12 HR11 HL11 HC11
        go_wp2_with fail
        go_loopw [14] (fun i w9 => ∃ (a : Nat), 1 ≤ a ∧ a ≤ 10 ∧ i = .int .u8 a ∧ Hid (Rest W0 W0.heap.size w4.heap.size A4 c4 K y.s n cc Dc M w9) ∧ Hid (Led w9 q D10 (M2t M K y.s n))) (fun i _ => 10 - (intOf i).toNat)
        case atStart => exact ⟨1, Nat.le_refl _, by omega, rfl, HR12, HL12⟩
        case round =>
          clear HR12 HL12
          obtain ⟨a, ha1, ha10, rfl, HR, HL⟩ := hrel
          by_cases hlt : a < 10
          · obtain ⟨V, hV⟩ : ∃ V, ofV (ctl M) a = V := ⟨_, rfl⟩
            have hc1 := fun W (h : Led W q D10 (M2t M K y.s n)) => Control_any q D10 (M2t M K y.s n) a (by omega) W h
            rw [show ofV (ctl (M2t M K y.s n)) a = V by rw [← hV]; unfold ofV; rw [ctl2]] at hc1
            have hc2 := fun W (h : Led W cc Dc M) => Control_any cc Dc M a (by omega) W h
            rw [hV] at hc2
            have hbl := fun W (h : Led W q D10 (M2t M K y.s n)) => Balance_any q D10 (M2t M K y.s n) 9 a (by omega) (by omega) W h
            rw [show ofV (bal (M2t M K y.s n) 9) a = 0 by unfold ofV; rw [if_pos hlt, bal2 HLOW.out]] at hbl
            change ∀ W, Led W q D10 (M2t M K y.s n) → Calls _ _ #[_, .int .u32 9, .int .u8 (a : Int)] W _ at hbl
            have HC1 := Lib.hid (hc1 _ HL.out)
            have HC2 := Lib.hid hc2
            have HBl := Lib.hid hbl
            clear hc1 hc2 hbl hV
            go_wp2_with fail
            refine HC1.out.mono ?_
            rintro e w13 ⟨rfl, hb13⟩
            have HR13 := Lib.hid (HR.out.below hb13 hg00)
            have HL13 := Lib.hid (HL.out.below hb13)
            have HC2' := Lib.hid (HC2.out w13 HR13.out.lc)
            clear hb13 HC1 HC2
            go_wp2_with fail
            refine HC2'.out.mono ?_
            rintro e w14 ⟨rfl, hb14⟩
            have HR14 := Lib.hid (HR13.out.below hb14 hg00)
            have HL14 := Lib.hid (HL13.out.below hb14)
            have HBl' := Lib.hid (HBl.out w14 HL14.out)
            clear hb14 HC2' HBl
            go_wp2_with fail
            refine HBl'.out.mono ?_
            rintro e w15 ⟨rfl, hb15⟩
            have HR15 := Lib.hid (HR14.out.below hb15 hg00)
            have HL15 := Lib.hid (HL14.out.below hb15)
            clear hb15 HBl' HR HL HR13 HL13 HR14 HL14
            go_wp2_with fail
            go_roundw
            case rel => exact ⟨a + 1, by omega, by omega, by go_num, HR15, HL15⟩
            case measure => simp [intOf]; omega
          · obtain rfl : a = 10 := by omega
            have hl2 : (M2t M K y.s n).length = M.length + 2 := by simp [M2t, M1t]
            have hln := Len_any q D10 (M2t M K y.s n) _ HL.out
            rw [hl2] at hln
            have HLn := Lib.hid hln
            clear hln
            go_wp2_with fail
            refine HLn.out.mono ?_
            rintro e w13 ⟨rfl, hb13⟩
            have HR13 := Lib.hid (HR.out.below hb13 hg00)
            have HL13 := Lib.hid (HL.out.below hb13)
            have HLn2 := Lib.hid (Len_any cc Dc M w13 HR13.out.lc)
            clear hb13 HLn HR HL
            go_wp2_with fail
            refine HLn2.out.mono ?_
            rintro e w14 ⟨rfl, hb14⟩
            have HR14 := Lib.hid (HR13.out.below hb14 hg00)
            have HL14 := Lib.hid (HL13.out.below hb14)
            have hLo := Loan_any q D10 (M2t M K y.s n) 9 (by omega) w14 HL14.out (by omega)
            change Calls _ _ #[_, .int .u32 9] w14 _ at hLo
            have HLo := Lib.hid hLo
            clear hb14 HLn2 HR13 HL13 hLo
            go_wp2_with fail
            refine HLo.out.mono ?_
            rintro e w15 ⟨R, A9, c9, rfl, _, hRi, hb15⟩
            obtain rfl : R = [] := List.eq_nil_iff_forall_not_mem.2 (fun z hz => by
              obtain ⟨hz9, i, hi⟩ := (hRi z).1 hz
              rw [none2 HLOW.out hz9] at hi
              cases hi)
            have HR15 := Lib.hid (HR14.out.below hb15 hg00)
            have HL15 := Lib.hid (HL14.out.below hb15)
            have hP3 := Post_any q D10 (M2t M K y.s n) (exT K y.s) hyI A4 2 c4 (twoL n) w15 HL15.out HR15.out.r rfl (by omega) (two_in hn) (by omega)
            change Calls _ _ #[_, .agg #[.int .u32 9, .int .i32 3, .int .u8 (K : Int), .int .u32 (y.s : Int), .slice A4 2 c4]] w15 _ at hP3
            have HP3 := Lib.hid hP3
            clear hb15 hRi HLo HR14 HL14 hP3
            have n0 := HR15.out.e.cell 0
            have n1 := HR15.out.e.cell 1
            have n2 := HR15.out.e.cell 2
            have n3 := HR15.out.e.cell 3
            have n4 := HR15.out.e.cell 4
            simp at n0 n1 n2 n3 n4
            go_wp2_with fail
            refine HP3.out.mono ?_
            intro e w16 hp16
            obtain ⟨rfl, hc16, _⟩ := hp16.1 (again_ok HLOW.out hn hK7 HOK.out)
            have HR16 := Lib.hid (HR15.out.chg hc16 HA10.out hg00)
            clear hp16 hc16 n0 n1 n2 n3 n4 HR15 HL15
            go_wp2_with fail
            refine fin_tmp rfl (by rfl) ?_
            exact ⟨rfl, HB0.out.trans (HR16.out.b.mono (by have := HS0.out; omega))⟩
      · have hnp : ¬ postOk M (exT K y.s) (twoL n) := fun h => hok h.2.2.2
        obtain ⟨v, rfl, _, hf, hb6⟩ := hp6.2 hnp
        obtain ⟨N, rfl, hN1, hN2⟩ := hf (two_right hn hK7 y.s)
        have hpe : postE M (exT K y.s) (twoL n) = 12 := by
          unfold postE
          rw [if_neg (by rw [two_right hn hK7 y.s]; decide), low_live HBM5.out.low rfl]
          rfl
        rw [hpe] at hN2
        have HC6 := Lib.hid (Code_err N _ _ W6 (HG5.out.chg (Chg.of_below (D := fun _ => False) hb6) (fun h => h)) hN2)
        have HL6 := Lib.hid (HBM5.out.led.below hb6)
        have HLC6 := Lib.hid (HLC5.out.below hb6)
        have HBW6 := Lib.hid (HB0.out.trans ((HB05.out.trans (hb6.mono HB05.out.size)).mono (by have := HS0.out; omega)))
        clear hp6 hN2 hN1 hf hb6 hpe hnp hok n0 n1 n2 n3 n4 hoff
        go_wp2_with fail
        refine HC6.out.mono ?_
        rintro e W7 ⟨rfl, hb7⟩
        have HSm := Lib.hid (SameL_any q cc D Dc M W7 (HL6.out.below hb7) (HLC6.out.below hb7) (by omega))
        have HBW7 := Lib.hid (HBW6.out.trans (hb7.mono HBW6.out.size))
        clear hb7
        go_wp2_with fail
        refine HSm.out.mono ?_
        rintro e W8 ⟨rfl, hb8⟩
        have HBW8 := Lib.hid (HBW7.out.trans (hb8.mono HBW7.out.size))
        clear hb8
        go_wp2_with fail
        refine fin_tmp rfl (by rfl) ?_
        exact ⟨rfl, HBW8.out⟩

theorem law_turns2 (A : Option Addr) (n c : Nat) (l : List ActV) (hl : l.length = n) (y : Ky) (hy : y.In) (m : Int) (hm : -2147483648 ≤ m ∧ m ≤ 2147483647) (w : World) (hR : Rs actT w w.heap.size A l) (hI : ∀ u ∈ l, u.In w) (hgl : Laid w) (hx : n ≤ maxLen) :
    Calls Tryz.prog 5 #[.slice A n c, y.v, .int .i32 m] w (Ret (.bool true) w) := by
  subst hl
  exact law_turns A c l y hy m hm w hR hI hgl hx
end Go.Proofs.YtdnnkdldolhbpaaGreatDoor
