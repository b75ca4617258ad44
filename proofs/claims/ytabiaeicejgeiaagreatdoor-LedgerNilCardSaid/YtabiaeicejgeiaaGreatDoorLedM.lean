/-
  Ledger.Reverse: a line that undoes the live one, or its error. Conditions: the ledger is there.
-/
import Derived.Test.YtabiaeicejgeiaaGreatDoorLedK
import Derived.Test.YtabiaeicejgeiaaGreatDoorLedL
namespace Go.Proofs.YtabiaeicejgeiaaGreatDoor
open Go.ChangeShapes Go.WideShapes Go.ChangeAt Go.RowKit Go.Maps Go.ChangeMaps

def legsAt (M : List Li) (i : Nat) : List (Nat × Int) := match M[i]? with | some x => x.l | none => []
def revOk (M : List Li) (y : Ky) (i : Nat) : Prop := liveL M y = some i ∧ lowB (legsAt M i) = false ∧ okAdd M y.a (negL (legsAt M i))
def RevPost (w : World) (q : Nat) (D : Nat → Prop) (M : List Li) (y : Ky) (e : Ending) (w' : World) : Prop :=
  (∀ i, revOk M y i → e = .returned .nilIface ∧ Chg D w w' ∧ ∃ D', Led w' q D' (M ++ [⟨y, negL (legsAt M i), i + 1⟩]) ∧ ∀ i, D' i → D i ∨ w.heap.size ≤ i) ∧
  ((∀ i, ¬ revOk M y i) → ∃ v, e = .returned v ∧ FaultIs w' w.heap.size v (y.a : Int) (if (liveL M y).isSome then 12 else 3) ∧ Below w.heap.size w w')
theorem rev_no {w w' : World} {q : Nat} {D : Nat → Prop} {M : List Li} {y : Ky} {e : Ending} {v : Value} (h : ∀ i, ¬ revOk M y i) (he : e = .returned v) (h2 : FaultIs w' w.heap.size v (y.a : Int) (if (liveL M y).isSome then 12 else 3)) (hb : Below w.heap.size w w') : RevPost w q D M y e w' :=
  ⟨fun i hi => absurd hi (h i), fun _ => ⟨v, he, h2, hb⟩⟩
theorem negL_in {l : List (Nat × Int)} (h : ∀ g ∈ l, LegIn g) (hl : lowB l = false) : ∀ g ∈ negL l, LegIn g := fun g hg => by
  unfold negL at hg
  obtain ⟨u, hu, rfl⟩ := List.mem_map.1 hg
  obtain ⟨h1, h2, h3⟩ := h u hu
  have h4 : u.2 ≠ -9223372036854775808 := fun e => by
    have : lowB l = true := by
      unfold lowB
      rw [List.any_eq_true]
      exact ⟨u, hu, by simp [e]⟩
    rw [this] at hl
    cases hl
  exact ⟨h1, by show _ ≤ 0 - u.2; omega, by show 0 - u.2 ≤ _; omega⟩
theorem negL_len (l : List (Nat × Int)) : (negL l).length = l.length := by simp [negL]
theorem negL_rise {l : List (Nat × Int)} (h : Rise l) : Rise (negL l) := by
  unfold Rise negL
  rw [List.pairwise_map]
  exact h
theorem negL_acc {l : List (Nat × Int)} (h : ∀ g ∈ l, 1 ≤ g.1 ∧ g.1 ≤ 9) : ∀ g ∈ negL l, 1 ≤ g.1 ∧ g.1 ≤ 9 := fun g hg => by
  unfold negL at hg
  obtain ⟨u, hu, rfl⟩ := List.mem_map.1 hg
  exact h u hu
theorem rev_live {M : List Li} {x : Li} {i : Nat} (hx : x.o = i + 1) (hl : liveL M x.y = some i) : setL (liveL M) x.y none = liveL (M ++ [x]) := by
  funext k
  rw [liveL_rev hx hl]
  rfl
set_option maxRecDepth 100000 in
set_option maxHeartbeats 2000000 in
theorem Rev_nil (y : Ky) (hy : y.In) (w : World) : Calls Tryz.prog 19 #[.pointer none, y.v] w (FaultPost (y.a : Int) 3 w) := by
  obtain ⟨Y, hY⟩ : ∃ Y : Array Value, Y = #[.int .u32 (y.a : Int), .int .i32 y.d, .int .u8 (y.k : Int), .int .u32 (y.s : Int)] := ⟨_, rfl⟩
  have HB2 := Lib.hid (b_alloc w (.cells Y 33))
  have HQ2 := Lib.hid (Blk.new w 33 Y)
  obtain ⟨W2, hW2⟩ : ∃ W, w.alloc (.cells Y 33) = W := ⟨_, rfl⟩
  rw [hW2] at HB2 HQ2
  have HP := Lib.hid (place_nil y W2)
  have HF := Lib.hid (fun W => fault_any y hy.a 3 W)
  subst hY
  have HW := Lib.hid hW2
  clear hW2
  unfold Ky.v placeV at HP
  unfold Ky.v eno14 at HF
  unfold Ky.v
  go_enter Tryz.func19, Tryz.ntmps19
  go_upto_region 1 with (fail)
  rw [HW.out]
  have n0 := HQ2.out.cell 0
  have n1 := HQ2.out.cell 1
  have n2 := HQ2.out.cell 2
  have n3 := HQ2.out.cell 3
  simp at n0 n1 n2 n3
  go_wp2_with fail
  refine HP.out.mono ?_
  rintro e w3 ⟨rfl, hb3⟩
  have HB3 := Lib.hid (HB2.out.trans (hb3.mono HB2.out.size))
  have HQ3 := Lib.hid (HQ2.out.below hb3 HQ2.out.lt)
  clear hb3 n0 n1 n2 n3 HP HB2 HQ2
  have n0 := HQ3.out.cell 0
  have n1 := HQ3.out.cell 1
  have n2 := HQ3.out.cell 2
  have n3 := HQ3.out.cell 3
  simp at n0 n1 n2 n3
  go_wp2_with fail
  refine (HF.out _).mono ?_
  rintro e w4 ⟨v4, rfl, hf, hb⟩
  have HFF := Lib.hid hf
  have HB4 := Lib.hid hb
  clear hf hb n0 n1 n2 n3
  go_wp2_with fail
  go_ret
  obtain ⟨N, h1, h2, h3⟩ := HFF.out
  exact ⟨_, rfl, ⟨N, h1, Nat.le_trans HB3.out.size h2, h3⟩, HB3.out.trans (HB4.out.mono HB3.out.size)⟩
set_option maxRecDepth 100000 in
set_option maxHeartbeats 8000000 in
theorem Rev_any (q : Nat) (D : Nat → Prop) (M : List Li) (y : Ky) (hy : y.In) (w : World) (h : Led w q D M) (hM : M.length ≤ 1000000) :
    Calls Tryz.prog 19 #[.pointer (some ⟨q, 0, none⟩), y.v] w (RevPost w q D M y) := by
  obtain ⟨Y, hY⟩ : ∃ Y : Array Value, Y = #[.int .u32 (y.a : Int), .int .i32 y.d, .int .u8 (y.k : Int), .int .u32 (y.s : Int)] := ⟨_, rfl⟩
  have HB2 := Lib.hid (b_alloc w (.cells Y 33))
  have HQ2 := Lib.hid (Blk.new w 33 Y)
  obtain ⟨W2, hW2⟩ : ∃ W, w.alloc (.cells Y 33) = W := ⟨_, rfl⟩
  rw [hW2] at HB2 HQ2
  have hD := h.lt
  have hs2 := HQ2.out.lt
  have HL2 := Lib.hid (h.below HB2.out)
  have hP := place_any q D M y hy W2 HL2.out
  obtain ⟨ol, hol⟩ : ∃ ol, liveL M y = ol := ⟨_, rfl⟩
  rw [hol] at hP
  have HP := Lib.hid hP
  have HOL := Lib.hid hol
  have HF := Lib.hid (fun k W => fault_any y hy.a k W)
  have HD := Lib.hid hD
  subst hY
  have HW := Lib.hid hW2
  clear hW2 h hP hol hD
  unfold Ky.v at HP HF
  unfold Ky.v
  have n0 := HQ2.out.cell 0
  have n1 := HQ2.out.cell 1
  have n2 := HQ2.out.cell 2
  have n3 := HQ2.out.cell 3
  simp at n0 n1 n2 n3
  go_enter Tryz.func19, Tryz.ntmps19
  go_upto_region 1 with (fail)
  rw [HW.out]
  cases ol with
  | none =>
    unfold placeV at HP
    go_wp2_with fail
    refine HP.out.mono ?_
    rintro e w3 ⟨rfl, hb3⟩
    have HB3 := Lib.hid (HB2.out.trans (hb3.mono HB2.out.size))
    have HQ3 := Lib.hid (HQ2.out.below hb3 HQ2.out.lt)
    clear hb3 n0 n1 n2 n3 HP HB2 HQ2
    have n0 := HQ3.out.cell 0
    have n1 := HQ3.out.cell 1
    have n2 := HQ3.out.cell 2
    have n3 := HQ3.out.cell 3
    simp at n0 n1 n2 n3
    unfold eno14 at HF
    go_wp2_with fail
    refine (HF.out 3 _).mono ?_
    rintro e w4 ⟨v4, rfl, hf, hb⟩
    have HFF := Lib.hid hf
    have HB4 := Lib.hid hb
    clear hf hb n0 n1 n2 n3
    go_wp2_with fail
    go_ret
    obtain ⟨N, h1, h2, h3⟩ := HFF.out
    refine rev_no (fun i hi => ?_) rfl ⟨N, h1, Nat.le_trans HB3.out.size h2, ?_⟩ (HB3.out.trans (HB4.out.mono HB3.out.size))
    · have := hi.1
      rw [HOL.out] at this
      cases this
    · rw [HOL.out]
      exact h3
  | some i =>
    unfold placeV at HP
    go_wp2_with fail
    refine HP.out.mono ?_
    rintro e w3 ⟨rfl, hb3⟩
    have HB3 := Lib.hid (HB2.out.trans (hb3.mono HB2.out.size))
    have HQ3 := Lib.hid (HQ2.out.below hb3 HQ2.out.lt)
    have HL3 := Lib.hid (HL2.out.below hb3)
    clear hb3 n0 n1 n2 n3 HP HB2 HQ2 HL2
    obtain ⟨x, hx, hxy, hxo⟩ := liveL_some HOL.out
    have hlt := (List.getElem?_eq_some_iff.1 hx).1
    have hin := HL3.out.fine.inn x (List.mem_of_getElem? hx)
    have hent := HL3.out.fine.post x (List.mem_of_getElem? hx) hxo
    obtain ⟨g, o, c, A, n, kk, c0, hc, hn, hR, r0, r1, r2, r3, r4, r5⟩ := HL3.out.line hx
    have hT := Turned_any x.y A n kk w3.heap.size x.l w3 hR hn.symm (by have := hin.2.2.2.1; omega) (Nat.le_refl _) hin.2.1
    have hleg : legsAt M i = x.l := by
      unfold legsAt
      rw [hx]
    have HX := Lib.hid hx
    have HXY := Lib.hid hxy
    have HXO := Lib.hid hxo
    have HIN := Lib.hid hin
    have HENT := Lib.hid hent
    have HT := Lib.hid hT
    have HLEG := Lib.hid hleg
    have hlt' : (i : Int) < (M.length : Int) := by omega
    clear hx hin hent hT hR hn hleg hxo hlt
    subst hxy
    unfold entV entC at HT
    go_wp2_with fail
    refine HT.out.mono ?_
    rintro e w4 ⟨t1, t2, t3⟩
    obtain ⟨lo, hlo⟩ : ∃ lo, lowB x.l = lo := ⟨_, rfl⟩
    clear c0 r0 r1 r2 r3 r4 r5 HT
    cases lo with
    | true =>
      obtain ⟨rfl, hb4⟩ := t2 HENT.out hlo
      have HLO := Lib.hid hlo
      have HB4 := Lib.hid (HB3.out.trans (hb4.mono HB3.out.size))
      have HQ4 := Lib.hid (HQ3.out.below hb4 HQ3.out.lt)
      clear hb4 t1 t2 t3 hlo
      have n0 := HQ4.out.cell 0
      have n1 := HQ4.out.cell 1
      have n2 := HQ4.out.cell 2
      have n3 := HQ4.out.cell 3
      simp at n0 n1 n2 n3
      have l4 := HQ4.out.lt
      unfold eno14 at HF
      unfold zeroT
      have HA4 := Lib.hid (b_alloc w4 (.cells #[.int .u32 0, .int .i32 0, .int .u8 0, .int .u32 0, .slice none 0 0] 40))
      obtain ⟨W5, hW5⟩ : ∃ W5, w4.alloc (.cells #[.int .u32 0, .int .i32 0, .int .u8 0, .int .u32 0, .slice none 0 0] 40) = W5 := ⟨_, rfl⟩
      rw [hW5] at HA4
      have HQ5 := Lib.hid (HQ4.out.below HA4.out l4)
      have m0 := HQ5.out.cell 0
      have m1 := HQ5.out.cell 1
      have m2 := HQ5.out.cell 2
      have m3 := HQ5.out.cell 3
      simp at m0 m1 m2 m3
      have HW5 := Lib.hid hW5
      clear hW5 n0 n1 n2 n3
      go_upto_region 5 with (fail)
      rw [HW5.out]
      go_wp2_with fail
      refine (HF.out 12 _).mono ?_
      rintro e w6 ⟨v6, rfl, hf, hb⟩
      have HFF := Lib.hid hf
      have HB6 := Lib.hid hb
      clear hf hb m0 m1 m2 m3
      go_wp2_with fail
      go_ret
      obtain ⟨N, h1, h2, h3⟩ := HFF.out
      have hb5 := HB4.out.trans (HA4.out.mono HB4.out.size)
      refine rev_no (fun j hj => ?_) rfl ⟨N, h1, Nat.le_trans hb5.size h2, ?_⟩ (hb5.trans (HB6.out.mono hb5.size))
      · have e1 := hj.1
        rw [HOL.out] at e1
        cases e1
        have e2 := hj.2.1
        rw [HLEG.out, HLO.out] at e2
        cases e2
      · rw [HOL.out]
        exact h3
    | false =>
      obtain ⟨A4, c4, rfl, ho4, hb4⟩ := t3 HENT.out hlo
      have HLO := Lib.hid hlo
      have HB4 := Lib.hid (HB3.out.trans (hb4.mono HB3.out.size))
      have HQ4 := Lib.hid (HQ3.out.below hb4 HQ3.out.lt)
      have HL4 := Lib.hid (HL3.out.below hb4)
      have HO4 := Lib.hid ho4
      have HS3 := Lib.hid HB3.out.size
      clear hb4 t1 t2 t3 hlo ho4 HL3 HQ3 HB3
      have l4 := HQ4.out.lt
      have HA4 := Lib.hid (b_alloc w4 (.cells #[.int .u32 (x.y.a : Int), .int .i32 x.y.d, .int .u8 (x.y.k : Int), .int .u32 (x.y.s : Int), .slice A4 x.l.length c4] 40))
      have HE5 := Lib.hid (Blk.new w4 40 #[.int .u32 (x.y.a : Int), .int .i32 x.y.d, .int .u8 (x.y.k : Int), .int .u32 (x.y.s : Int), .slice A4 x.l.length c4])
      obtain ⟨W5, hW5⟩ : ∃ W5, w4.alloc (.cells #[.int .u32 (x.y.a : Int), .int .i32 x.y.d, .int .u8 (x.y.k : Int), .int .u32 (x.y.s : Int), .slice A4 x.l.length c4] 40) = W5 := ⟨_, rfl⟩
      rw [hW5] at HA4 HE5
      have HQ5 := Lib.hid (HQ4.out.below HA4.out l4)
      have HL5 := Lib.hid (HL4.out.below HA4.out)
      have HO5 := Lib.hid (HO4.out.below HA4.out)
      have HB5 := Lib.hid (HB4.out.trans (HA4.out.mono HB4.out.size))
      have m0 := HE5.out.cell 0
      have m1 := HE5.out.cell 1
      have m2 := HE5.out.cell 2
      have m3 := HE5.out.cell 3
      have m4 := HE5.out.cell 4
      simp at m0 m1 m2 m3 m4
      have HW5 := Lib.hid hW5
      clear hW5 HQ4 HL4 HO4 HB4 HA4
      have hi1 : IntKind.i64.wrap ((i : Int) + 1) = (i : Int) + 1 := by
        rw [IntKind.wrap_i64]
        omega
      have hO5 := HO5.out
      have hadd := add_any q D M (liveL M) x.y A4 x.l.length c4 (i + 1) (negL x.l) W5 HL5.out (own_lowT hO5 (Nat.zero_le _)) (negL_len _) (HIN.out.2.2.2.1.2) hy (negL_in HIN.out.2.1 HLO.out) (negL_acc HIN.out.2.2.2.2)
        (fun hok => HL5.out.fine.snoc ⟨hy, negL_in HIN.out.2.1 HLO.out, negL_rise HIN.out.2.2.1, by rw [negL_len]; exact HIN.out.2.2.2.1, negL_acc HIN.out.2.2.2.2⟩ hok.1 hok.2 (fun _ => ⟨by simp; omega, x, by simpa using HX.out, HXO.out, rfl⟩) (fun h => by simp at h)) hM
      have HA := Lib.hid hadd
      clear hadd hO5
      unfold linW at HA
      rw [show (((i + 1 : Nat)) : Int) = (i : Int) + 1 from by omega] at HA
      unfold entV entC
      go_upto_region 5 with (fail)
      rw [HW5.out]
      go_wp2_with fail
      refine HA.out.mono ?_
      rintro e w6 ⟨hyes, hno⟩
      by_cases hok : okAdd M x.y.a (negL x.l)
      · obtain ⟨rfl, hcg, D6, hl6, hd6⟩ := hyes hok
        have HCG := Lib.hid hcg
        have HL6 := Lib.hid hl6
        have HD6 := Lib.hid hd6
        have HOK := Lib.hid hok
        have HQ6 := Lib.hid (hcg.blk HQ5.out (fun hh => by have := HD.out _ hh; omega))
        clear hyes hno hcg hl6 hd6 hok HA HQ5 m0 m1 m2 m3 m4
        have n0 := HQ6.out.cell 0
        have n1 := HQ6.out.cell 1
        have n2 := HQ6.out.cell 2
        have n3 := HQ6.out.cell 3
        simp at n0 n1 n2 n3
        obtain ⟨b, inn, hp⟩ := HL6.out.parts (by simp)
        have c1 := hp.cell1
        have l1 := HQ6.out.lt
        have l2 := hp.lt q hp.dq
        have HPP := Lib.hid hp
        clear hp
        obtain ⟨r, hr⟩ : ∃ r, inn x.y.a = some r := by
          cases e : inn x.y.a with
          | some r => exact ⟨r, rfl⟩
          | none =>
            have := HPP.out.live.no x.y e
            rw [HOL.out] at this
            cases this
        have HR := Lib.hid hr
        clear hr
        have k1 : (Instr.lookup 82 (.map (some b)) (.int .u32 (x.y.a : Int)) false).run Tryz.prog w6.drew = .ok (.map (some r)) w6.drew := by
          have := HPP.out.look1 hy.a w6.drew rfl
          rw [HR.out] at this
          exact this
        obtain ⟨w10, hrun2, hm10, ht10⟩ := ((HPP.out.live.at_ _ r HR.out).2.keep (w' := w6.drew) rfl).drop keyKy Tryz.underlying93 (x := x.y) hy 0
        unfold Ky.v at hrun2
        have HM10 := Lib.hid hm10
        have HG10 := Lib.hid ht10.grown
        clear hm10 ht10
        go_wp2_with fail
        go_region
        go_wp2_with fail
        go_ret
        have hG := HG10.out
        have hin := HPP.out.inner (w' := w10) (y := x.y) HR.out none HM10.out (fun i h1 h2 => hG.block i h2 (fun e => h1 (by injection e))) hG.size
        have hled := hin.shut
        rw [rev_live (x := ⟨x.y, negL x.l, i + 1⟩) rfl HOL.out] at hled
        have hd6 : ∀ i, D6 i → D i ∨ w.heap.size ≤ i := fun i hi => by
          rcases HD6.out i hi with h | h | h
          · exact .inl h
          · have h1 := (HO5.out.lt i h).1
            have h2 := HS3.out
            exact .inr (by omega)
          · have h2 := HB5.out.size
            exact .inr (by omega)
        refine ⟨fun j hj => ⟨rfl, ?_, D6, ?_, hd6⟩, fun hh => absurd ⟨HOL.out, by rw [HLEG.out]; exact HLO.out, by rw [HLEG.out]; exact HOK.out⟩ (hh i)⟩
        · have h0 : Chg D w w6 := (Chg.of_below HB5.out).trans HCG.out (fun i h => .inl h)
          exact h0.trans (Chg.turned (D := D6) (show w6.grownBy w10 (some r) from ⟨hG.os, hG.tape, hG.output, hG.size, hG.block⟩) (HPP.out.live.at_ _ r HR.out).1) hd6
        · have e1 := hj.1
          rw [HOL.out] at e1
          cases e1
          rw [HLEG.out]
          exact hled
      · obtain ⟨rfl, hb6⟩ := hno hok
        have HNO := Lib.hid hok
        have HB6 := Lib.hid (HB5.out.trans (hb6.mono HB5.out.size))
        have HQ6 := Lib.hid (HQ5.out.below hb6 HQ5.out.lt)
        clear hyes hno hok HA hb6 m0 m1 m2 m3 m4
        have n0 := HQ6.out.cell 0
        have n1 := HQ6.out.cell 1
        have n2 := HQ6.out.cell 2
        have n3 := HQ6.out.cell 3
        simp at n0 n1 n2 n3
        unfold eno14 at HF
        unfold eno14
        go_wp2_with fail
        refine (HF.out 12 _).mono ?_
        rintro e w7 ⟨v7, rfl, hf, hb7⟩
        have HFF := Lib.hid hf
        have HB7 := Lib.hid hb7
        clear hf hb7 n0 n1 n2 n3
        go_wp2_with fail
        go_ret
        obtain ⟨N, h1, h2, h3⟩ := HFF.out
        refine rev_no (fun j hj => ?_) rfl ⟨N, h1, Nat.le_trans HB6.out.size h2, ?_⟩ (HB6.out.trans (HB7.out.mono HB6.out.size))
        · have e1 := hj.1
          rw [HOL.out] at e1
          cases e1
          have e2 := hj.2.2
          rw [HLEG.out] at e2
          exact HNO.out e2
        · rw [HOL.out]
          exact h3
end Go.Proofs.YtabiaeicejgeiaaGreatDoor
