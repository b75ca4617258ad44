/-
  Ledger.Post: a line more, or its error. Conditions: the ledger is there.
-/
import Derived.Test.YtabiaeicejgeiaaGreatDoorLedI
import Derived.Test.YtabiaeicejgeiaaGreatDoorLedJ
namespace Go.Proofs.YtabiaeicejgeiaaGreatDoor
open Go.ChangeShapes Go.WideShapes Go.ChangeAt Go.RowKit Go.Maps Go.ChangeMaps

theorem eqlK (o : Option Nat) (W : World) : (binOp .eql 93 (.map o) (.map none)).run Tryz.prog W = .ok (.bool o.isNone) W := by
  cases o <;> kernel_rfl
/-- What Post does: which error; else a line more. -/
def postE (M : List Li) (y : Ky) (l : List (Nat × Int)) : Nat := if entB y l = false then 1 else if (liveL M y).isSome then 10 else 12
def postOk (M : List Li) (y : Ky) (l : List (Nat × Int)) : Prop := entB y l = true ∧ liveL M y = none ∧ okAdd M y.a l
theorem LedP.same {w w' : World} {q b : Nat} {D : Nat → Prop} {M : List Li} {L : Ky → Option Nat} {inn : Nat → Option Nat} (h : LedP w q D M L b inn) (hk : ∀ i, D i → w'.heap[i]? = w.heap[i]?) (hs : w.heap.size ≤ w'.heap.size) : LedP w' q D M L b inn := by
  obtain ⟨lv, V, bm, h1, h2, h3, h5, h8, h9, h10⟩ := h.rest
  exact ⟨⟨lv, V, bm, (hk q h.dq).trans h1, h2.same (fun g hg => hk g (h8 g hg)), h3.same hk hs, h5.same hk, h8, h9, h10⟩, h.live.same hk, h.fine, h.dq, fun i hi => Nat.lt_of_lt_of_le (h.lt i hi) hs⟩
theorem LedP.drewN {w : World} {q b : Nat} {D : Nat → Prop} {M : List Li} {L : Ky → Option Nat} {inn : Nat → Option Nat} (h : LedP w q D M L b inn) (n : Nat) : LedP (w.drewN n) q D M L b inn := h.same (fun _ _ => rfl) (Nat.le_refl _)
/-- What the map of loans tells. -/
theorem LedP.cell1 {w : World} {q b : Nat} {D : Nat → Prop} {M : List Li} {L : Ky → Option Nat} {inn : Nat → Option Nat} (h : LedP w q D M L b inn) : w.cell? ⟨q, 1, none⟩ = some (.map (some b)) := by
  obtain ⟨lv, V, bm, h1, _⟩ := h.rest
  have c1 := h1.cell 1
  unfold ledC at c1
  simpa using c1
theorem LedP.look1 {w : World} {q b : Nat} {D : Nat → Prop} {M : List Li} {L : Ky → Option Nat} {inn : Nat → Option Nat} (h : LedP w q D M L b inn) {a : Nat} (ha : a < 4294967296) (w' : World) (hk : w'.heap[b]? = w.heap[b]?) :
    (Instr.lookup 82 (.map (some b)) (.int .u32 (a : Int)) false).run Tryz.prog w' = .ok (.map (inn a)) w' := by
  have := ((h.live.out b rfl).2.1.keep hk).look keyU32 Tryz.underlying82 (zeroM w') (x := a) ha false
  cases e : inn a with
  | none => rw [e] at this; exact this
  | some r => rw [e] at this; exact this
def PostPost (w : World) (q : Nat) (D : Nat → Prop) (M : List Li) (y : Ky) (l : List (Nat × Int)) (e : Ending) (w' : World) : Prop :=
  (postOk M y l → e = .returned .nilIface ∧ Chg D w w' ∧ ∃ D', Led w' q D' (M ++ [⟨y, l, 0⟩]) ∧ ∀ i, D' i → D i ∨ w.heap.size ≤ i) ∧
  (¬ postOk M y l → ∃ v, e = .returned v ∧ (entB y l = false → v = eno14 1) ∧ (entB y l = true → FaultIs w' w.heap.size v (y.a : Int) (postE M y l)) ∧ Below w.heap.size w w')
theorem post_live {M : List Li} {x : Li} (hx : x.o = 0) : setL (liveL M) x.y (some M.length) = liveL (M ++ [x]) := by
  funext k
  rw [liveL_post hx]
  rfl
/-- One block of D has turned. -/
theorem Chg.turned {D : Nat → Prop} {w w' : World} {r : Nat} (h : w.grownBy w' (some r)) (hr : D r) : Chg D w w' :=
  ⟨h.os, h.tape, h.output, h.size, fun i hi hn => h.block i hi (fun e => hn (by injection e with e; rw [e]; exact hr))⟩
theorem post_no {w w' : World} {q : Nat} {D : Nat → Prop} {M : List Li} {y : Ky} {l : List (Nat × Int)} {e : Ending} {v : Value} (h : ¬ postOk M y l) (he : e = .returned v) (h1 : entB y l = false → v = eno14 1) (h2 : entB y l = true → FaultIs w' w.heap.size v (y.a : Int) (postE M y l)) (hb : Below w.heap.size w w') : PostPost w q D M y l e w' :=
  ⟨fun hh => absurd hh h, fun _ => ⟨v, he, h1, h2, hb⟩⟩
theorem no_true {b : Bool} {p : Prop} (h : b = true) (h2 : b = false) : p := by rw [h] at h2; cases h2
set_option maxRecDepth 100000 in
set_option maxHeartbeats 4000000 in
theorem Post_nil (y : Ky) (hy : y.a < 4294967296) (v : Value) (w : World) : Calls Tryz.prog 17 #[.pointer none, entV y v] w (FaultPost (y.a : Int) 3 w) := by
  obtain ⟨X, hX⟩ : ∃ X : Array Value, X = #[.int .u32 (y.a : Int), .int .i32 y.d, .int .u8 (y.k : Int), .int .u32 (y.s : Int), v] := ⟨_, rfl⟩
  obtain ⟨Y, hY⟩ : ∃ Y : Array Value, Y = #[.int .u32 (y.a : Int), .int .i32 y.d, .int .u8 (y.k : Int), .int .u32 (y.s : Int)] := ⟨_, rfl⟩
  have HB2 := Lib.hid ((b_alloc w (.cells X 40)).alloc (by simp) (.cells Y 33))
  have HQ2 : Hid (Blk ((w.alloc (.cells X 40)).alloc (.cells Y 33)) (w.heap.size + 1) 33 Y) := Lib.hid (by
    have h := Blk.new (w.alloc (.cells X 40)) 33 Y
    rw [show (w.alloc (.cells X 40)).heap.size = w.heap.size + 1 by simp] at h
    exact h)
  obtain ⟨W2, hW2⟩ : ∃ W, ((w.alloc (.cells X 40)).alloc (.cells Y 33)) = W := ⟨_, rfl⟩
  rw [hW2] at HB2 HQ2
  have HF := Lib.hid (fault_any y hy 3 W2)
  subst hX hY
  have HW := Lib.hid hW2
  clear hW2
  unfold entV entC
  go_enter Tryz.func17, Tryz.ntmps17
  go_upto_region 2 with (fail)
  rw [HW.out]
  have n0 := HQ2.out.cell 0
  have n1 := HQ2.out.cell 1
  have n2 := HQ2.out.cell 2
  have n3 := HQ2.out.cell 3
  simp at n0 n1 n2 n3
  unfold Ky.v eno14 at HF
  go_wp2_with fail
  refine HF.out.mono ?_
  rintro e w3 ⟨v3, rfl, hf, hb⟩
  have HFF := Lib.hid hf
  have HB3 := Lib.hid hb
  clear hf hb n0 n1 n2 n3
  go_wp2_with fail
  go_ret
  obtain ⟨N, h1, h2, h3⟩ := HFF.out
  exact ⟨_, rfl, ⟨N, h1, Nat.le_trans HB2.out.size h2, h3⟩, HB2.out.trans (HB3.out.mono HB2.out.size)⟩
theorem Fine.inn1 {M : List Li} (_ : Fine M) {y : Ky} {i : Nat} (hl : liveL M y = some i) : ∃ x, M[i]? = some x ∧ x.y = y ∧ x.o = 0 := liveL_some hl
set_option maxRecDepth 100000 in
set_option maxHeartbeats 8000000 in
theorem Post_any (q : Nat) (D : Nat → Prop) (M : List Li) (y : Ky) (hy : y.In) (A : Option Addr) (n c : Nat) (l : List (Nat × Int)) (w : World) (h : Led w q D M) (hR : Rs legT w w.heap.size A l) (hn : l.length = n) (hm : n ≤ 100000) (hI : ∀ u ∈ l, LegIn u) (hM : M.length ≤ 1000000) :
    Calls Tryz.prog 17 #[.pointer (some ⟨q, 0, none⟩), entV y (.slice A n c)] w (PostPost w q D M y l) := by
  obtain ⟨X, hX⟩ : ∃ X : Array Value, X = #[.int .u32 (y.a : Int), .int .i32 y.d, .int .u8 (y.k : Int), .int .u32 (y.s : Int), .slice A n c] := ⟨_, rfl⟩
  obtain ⟨Y, hY⟩ : ∃ Y : Array Value, Y = #[.int .u32 (y.a : Int), .int .i32 y.d, .int .u8 (y.k : Int), .int .u32 (y.s : Int)] := ⟨_, rfl⟩
  have HB2 := Lib.hid ((b_alloc w (.cells X 40)).alloc (by simp) (.cells Y 33))
  have HQ1 := Lib.hid ((Blk.new w 40 X).alloc (.cells Y 33))
  have HQ2 : Hid (Blk ((w.alloc (.cells X 40)).alloc (.cells Y 33)) (w.heap.size + 1) 33 Y) := Lib.hid (by
    have h := Blk.new (w.alloc (.cells X 40)) 33 Y
    rw [show (w.alloc (.cells X 40)).heap.size = w.heap.size + 1 by simp] at h
    exact h)
  obtain ⟨W2, hW2⟩ : ∃ W, ((w.alloc (.cells X 40)).alloc (.cells Y 33)) = W := ⟨_, rfl⟩
  rw [hW2] at HB2 HQ2 HQ1
  have hD := h.lt
  have hs2 := HQ2.out.lt
  have HL2 := Lib.hid (h.below HB2.out)
  have HR2 := Lib.hid ((hR.below HB2.out).more HB2.out.size)
  obtain ⟨qb, hqb⟩ : ∃ qb, entB y l = qb := ⟨_, rfl⟩
  have hRi := Right_any13 y A n c W2.heap.size l W2 HR2.out hn hm (Nat.le_refl _) hI
  rw [hqb] at hRi
  have HRi := Lib.hid hRi
  have HQB := Lib.hid hqb
  have HF := Lib.hid (fun k W => fault_any y hy.a k W)
  have HD := Lib.hid hD
  have HN := Lib.hid hn
  subst hX hY
  have HW := Lib.hid hW2
  clear hW2 h hR hqb hRi hD hn
  unfold entV entC at HRi
  unfold Ky.v at HF
  unfold entV entC
  have n0 := HQ2.out.cell 0
  have n1 := HQ2.out.cell 1
  have n2 := HQ2.out.cell 2
  have n3 := HQ2.out.cell 3
  have e0 := HQ1.out.cell 0
  have e1 := HQ1.out.cell 1
  have e2 := HQ1.out.cell 2
  have e3 := HQ1.out.cell 3
  have e4 := HQ1.out.cell 4
  simp at n0 n1 n2 n3 e0 e1 e2 e3 e4
  go_enter Tryz.func17, Tryz.ntmps17
  go_upto_region 2 with (fail)
  rw [HW.out]
  go_wp2_with fail
  refine HRi.out.mono ?_
  rintro e w3 ⟨rfl, hb3⟩
  have HB3 := Lib.hid (HB2.out.trans (hb3.mono HB2.out.size))
  have HQ3 := Lib.hid (HQ2.out.below hb3 HQ2.out.lt)
  have HE3 := Lib.hid (HQ1.out.below hb3 HQ1.out.lt)
  have HL3 := Lib.hid (HL2.out.below hb3)
  have HR3 := Lib.hid ((HR2.out.below hb3).more hb3.size)
  clear hb3 n0 n1 n2 n3 e0 e1 e2 e3 e4 HRi HQ2 HQ1 HL2 HR2 HW HB2
  cases qb
  · go_wp2_with fail
    go_ret
    exact post_no (fun hh => no_true hh.1 HQB.out) rfl (fun _ => rfl) (fun hh => no_true hh HQB.out) HB3.out
  have n0 := HQ3.out.cell 0
  have n1 := HQ3.out.cell 1
  have n2 := HQ3.out.cell 2
  have n3 := HQ3.out.cell 3
  simp at n0 n1 n2 n3
  have hP := place_any q D M y hy w3 HL3.out
  obtain ⟨ol, hol⟩ : ∃ ol, liveL M y = ol := ⟨_, rfl⟩
  rw [hol] at hP
  have HP := Lib.hid hP
  have HOL := Lib.hid hol
  clear hP hol
  unfold Ky.v at HP
  cases ol with
  | some i =>
    unfold placeV at HP
    go_wp2_with fail
    refine HP.out.mono ?_
    rintro e w4 ⟨rfl, hb4⟩
    have HB4 := Lib.hid (HB3.out.trans (hb4.mono HB3.out.size))
    have HQ4 := Lib.hid (HQ3.out.below hb4 HQ3.out.lt)
    clear hb4 n0 n1 n2 n3 HP
    have n0 := HQ4.out.cell 0
    have n1 := HQ4.out.cell 1
    have n2 := HQ4.out.cell 2
    have n3 := HQ4.out.cell 3
    simp at n0 n1 n2 n3
    unfold eno14 at HF
    go_wp2_with fail
    refine (HF.out 10 _).mono ?_
    rintro e w5 ⟨v5, rfl, hf, hb5⟩
    have HFF := Lib.hid hf
    have HB5 := Lib.hid hb5
    clear hf hb5 n0 n1 n2 n3
    go_wp2_with fail
    go_ret
    obtain ⟨N, h1, h2, h3⟩ := HFF.out
    refine post_no (fun hh => absurd hh.2.1 (by rw [HOL.out]; simp)) rfl (fun hh => no_true HQB.out hh) (fun _ => ⟨N, h1, Nat.le_trans HB4.out.size h2, ?_⟩) (HB4.out.trans (HB5.out.mono HB4.out.size))
    have hp : postE M y l = 10 := by
      unfold postE
      rw [HQB.out, HOL.out]
      rfl
    rw [hp]
    exact h3
  | none =>
    unfold placeV at HP
    go_wp2_with fail
    refine HP.out.mono ?_
    rintro e w4 ⟨rfl, hb4⟩
    have HB4 := Lib.hid (HB3.out.trans (hb4.mono HB3.out.size))
    have HQ4 := Lib.hid (HQ3.out.below hb4 HQ3.out.lt)
    have HE4 := Lib.hid (HE3.out.below hb4 HE3.out.lt)
    have HL4 := Lib.hid (HL3.out.below hb4)
    have HR4 := Lib.hid ((HR3.out.below hb4).more hb4.size)
    clear hb4 n0 n1 n2 n3 HP HQ3 HE3 HL3 HR3
    obtain ⟨A0, c0, hc0, hlc⟩ := HL4.out.lines
    have e0 := HE4.out.cell 0
    have e1 := HE4.out.cell 1
    have e2 := HE4.out.cell 2
    have e3 := HE4.out.cell 3
    have e4 := HE4.out.cell 4
    simp at e0 e1 e2 e3 e4
    have hel := ent_len HQB.out
    have hO := own_any14 y A n c 0 w4.heap.size l w4 HR4.out HN.out (by have := HN.out; omega) hm (Nat.le_refl _)
    have HO := Lib.hid hO
    have HEL := Lib.hid hel
    clear hO hel
    unfold linW at HO
    go_wp2_with fail
    refine HO.out.mono ?_
    rintro e w5 ⟨A5, c5, rfl, ho5, hb5⟩
    have HB5 := Lib.hid (HB4.out.trans (hb5.mono HB4.out.size))
    have HQ5 := Lib.hid (HQ4.out.below hb5 HQ4.out.lt)
    have HL5 := Lib.hid (HL4.out.below hb5)
    have HN5 := Lib.hid (show w.heap.size ≤ w4.heap.size from HB4.out.size)
    have HLG := Lib.hid ho5
    have hadd := add_any q D M (liveL M) y A5 l.length c5 0 l w5 HL5.out (own_lowT ho5 (Nat.zero_le _)) rfl HEL.out.2 hy hI (ent_rise HQB.out).2 (fun hok => HL5.out.fine.snoc ⟨hy, hI, (ent_rise HQB.out).1, HEL.out, (ent_rise HQB.out).2⟩ hok.1 hok.2 (fun h => absurd h (by simp)) (fun _ => HQB.out)) hM
    have HA := Lib.hid hadd
    clear hb5 ho5 hadd hc0 e0 e1 e2 e3 e4 HO HQ4 HE4 HL4 HR4
    unfold linW at HA ⊢
    go_wp2_with fail
    refine HA.out.mono ?_
    rintro e w6 ⟨hyes, hno⟩
    by_cases hok : okAdd M y.a l
    · obtain ⟨rfl, hcg, D6, hl6, hd6⟩ := hyes hok
      have HCG := Lib.hid hcg
      have HL6 := Lib.hid hl6
      have HD6 := Lib.hid hd6
      have HOK := Lib.hid hok
      have HQ6 := Lib.hid (hcg.blk HQ5.out (fun hh => by have := HD.out _ hh; omega))
      clear hyes hno hcg hl6 hd6 hok HA HQ5
      have n0 := HQ6.out.cell 0
      have n1 := HQ6.out.cell 1
      have n2 := HQ6.out.cell 2
      have n3 := HQ6.out.cell 3
      simp at n0 n1 n2 n3
      obtain ⟨b, inn, hp⟩ := HL6.out.parts (by simp)
      have c1 := hp.cell1
      have k1 : ∀ n, (Instr.lookup 82 (.map (some b)) (.int .u32 (y.a : Int)) false).run Tryz.prog (w6.drewN n) = .ok (.map (inn y.a)) (w6.drewN n) := fun n => hp.look1 hy.a _ rfl
      have k2 := fun W => eqlK (inn y.a) W
      have HPP := Lib.hid hp
      clear hp
      go_wp2_with fail
      go_quiet (fail)
      have HP7 := Lib.hid (HPP.out.drewN nq)
      have HQ7 := Lib.hid (HQ6.out.drewN nq)
      have HS7 := Lib.hid (show (w6.drewN nq).heap = w6.heap from rfl)
      have HC7 := Lib.hid (show Below w6.heap.size w6 (w6.drewN nq) from below_drewN (Below.refl _ _) nq)
      obtain ⟨W7, hW7⟩ : ∃ W, w6.drewN nq = W := ⟨_, rfl⟩
      rw [hW7] at HP7 HQ7 HS7 HC7 ⊢
      clear hW7 HPP n0 n1 n2 n3 c1 k1 k2 HQ6
      have n0 := HQ7.out.cell 0
      have n1 := HQ7.out.cell 1
      have n2 := HQ7.out.cell 2
      have n3 := HQ7.out.cell 3
      simp at n0 n1 n2 n3
      have c1 := HP7.out.cell1
      have l1 := HQ7.out.lt
      have l2 := HP7.out.lt q HP7.out.dq
      cases hin : inn y.a with
      | none =>
        have hmm := @run_makeMap Tryz.prog
        obtain ⟨w9, hrun, hm9, ht9⟩ := ((HP7.out.live.out b rfl).2.1.below (w' := (W7.alloc (.map #[] 0)).drew) (below_drewN ((Below.refl _ _).alloc (Nat.le_refl _) _) 1) (HP7.out.lt b (HP7.out.live.out b rfl).1)).store keyU32 Tryz.underlying82 (x := y.a) hy.a (.map (some W7.heap.size))
        unfold u32E at hrun
        have HM9 := Lib.hid hm9
        have HT9 := Lib.hid ht9
        have HIN := Lib.hid hin
        clear hm9 ht9 hin
        go_wp2_with fail
        go_region
        obtain ⟨r, hrr⟩ : ∃ r, W7.heap.size = r := ⟨_, rfl⟩
        have hg9 := HT9.out.grown
        have hnew : MapF w9 Ky.In Ky.v r (fun _ => none) := by
          have h1 := MapF.new W7 Ky.In Ky.v
          rw [hrr] at h1
          refine (h1.keep (w' := (W7.alloc (.map #[] 0)).drew) rfl).keep (hg9.block r (by rw [← hrr]; simp) (fun e => ?_))
          injection e with e
          have := HP7.out.lt b (HP7.out.live.out b rfl).1
          omega
        have hroom := HP7.out.room (w' := w9) (r := r) (a := y.a) HIN.out (Nat.le_of_eq hrr) hnew.lt (by rw [← hrr]; exact HM9.out) hnew (fun i h1 h2 => (hg9.block i (by simp; omega) (fun e => h1 (by injection e))).trans ((b_alloc W7 (.map #[] 0)).block i h2)) (Nat.le_trans (by simp) hg9.size)
        obtain ⟨inn9, hi9⟩ : ∃ g : Nat → Option Nat, (fun x => if x = y.a then some r else inn x) = g := ⟨_, rfl⟩
        rw [hi9] at hroom
        have HP9 := Lib.hid hroom
        have HQ9 := Lib.hid (show Blk w9 (w.heap.size + 1) 33 #[.int .u32 (y.a : Int), .int .i32 y.d, .int .u8 (y.k : Int), .int .u32 (y.s : Int)] from (hg9.block _ (by simp; omega) (fun e => by
          injection e with e
          exact blk_map HQ7.out (HP7.out.live.out b rfl).2.1 e)).trans (((b_alloc W7 (.map #[] 0)).block _ HQ7.out.lt).trans HQ7.out))
        have HR9 := Lib.hid hrr
        have HI9 : Hid (inn9 y.a = some r) := Lib.hid (by rw [← hi9]; simp)
        rw [hrr]
        clear hi9 hrr hg9 hnew hroom n0 n1 n2 n3 c1 l1 l2 hrun hmm
        have n0 := HQ9.out.cell 0
        have n1 := HQ9.out.cell 1
        have n2 := HQ9.out.cell 2
        have n3 := HQ9.out.cell 3
        simp at n0 n1 n2 n3
        have c1 := HP9.out.cell1
        have l1 := HQ9.out.lt
        have l2 := HP9.out.lt q HP9.out.dq
        have k1 : (Instr.lookup 82 (.map (some b)) (.int .u32 (y.a : Int)) false).run Tryz.prog w9.drew = .ok (.map (some r)) w9.drew := by
          have := HP9.out.look1 hy.a w9.drew rfl
          rw [HI9.out] at this
          exact this
        obtain ⟨w10, hrun2, hm10, ht10⟩ := ((HP9.out.live.at_ _ r HI9.out).2.keep (w' := w9.drew) rfl).store keyKy Tryz.underlying93 (x := y) hy (natV M.length)
        unfold Ky.v natV at hrun2
        have HM10 := Lib.hid hm10
        have HG10 := Lib.hid ht10.grown
        clear hm10 ht10
        go_wp2_with fail
        go_region
        go_wp2_with fail
        go_ret
        have hG := HG10.out
        have hin := HP9.out.inner (w' := w10) (y := y) HI9.out (some M.length) HM10.out (fun i h1 h2 => hG.block i h2 (fun e => h1 (by injection e))) hG.size
        have hled := hin.shut
        rw [post_live (x := ⟨y, l, 0⟩) rfl] at hled
        refine ⟨fun _ => ⟨rfl, ?_, _, hled, ?_⟩, fun hh => absurd ⟨HQB.out, HOL.out, HOK.out⟩ hh⟩
        · have h0 : Chg D w w6 := (Chg.of_below HB5.out).trans HCG.out (fun i h => .inl h)
          have hd6 : ∀ i, D6 i → D i ∨ w.heap.size ≤ i := fun i hi => by
            rcases HD6.out i hi with h | h | h
            · exact .inl h
            · have h1 := (HLG.out.lt i h).1
              have h2 := HN5.out
              exact .inr (by omega)
            · have h2 := HB5.out.size
              exact .inr (by omega)
          have h1 : Chg D w W7 := h0.trans (Chg.of_below (D := D6) HC7.out) hd6
          have hg9 := HT9.out.grown
          have h2 : Chg D w w9 := h1.trans (Chg.turned (D := D6) (show W7.grownBy w9 (some b) from ⟨hg9.os, hg9.tape, hg9.output, Nat.le_trans (by simp) hg9.size, fun i hi hn => (hg9.block i (by simp; omega) hn).trans ((b_alloc W7 (.map #[] 0)).block i hi)⟩) (HP7.out.live.out b rfl).1) hd6
          refine h2.trans (Chg.turned (D := fun i => D6 i ∨ i = r) (show w9.grownBy w10 (some r) from ⟨hG.os, hG.tape, hG.output, hG.size, hG.block⟩) (.inr rfl)) (fun i hi => ?_)
          rcases hi with hi | rfl
          · exact hd6 i hi
          · have e1 := HR9.out
            have e2 := h1.size
            exact .inr (by omega)
        · have h0 : Chg D w w6 := (Chg.of_below HB5.out).trans HCG.out (fun i h => .inl h)
          have hd6 : ∀ i, D6 i → D i ∨ w.heap.size ≤ i := fun i hi => by
            rcases HD6.out i hi with h | h | h
            · exact .inl h
            · have h1 := (HLG.out.lt i h).1
              have h2 := HN5.out
              exact .inr (by omega)
            · have h2 := HB5.out.size
              exact .inr (by omega)
          have h1 : Chg D w W7 := h0.trans (Chg.of_below (D := D6) HC7.out) hd6
          intro i hi
          rcases hi with hi | rfl
          · exact hd6 i hi
          · have e1 := HR9.out
            have e2 := h1.size
            exact .inr (by omega)
      | some r =>
        have HIN := Lib.hid hin
        clear hin n0 n1 n2 n3 c1 l1 l2
        have n0 := HQ7.out.cell 0
        have n1 := HQ7.out.cell 1
        have n2 := HQ7.out.cell 2
        have n3 := HQ7.out.cell 3
        simp at n0 n1 n2 n3
        have c1 := HP7.out.cell1
        have l1 := HQ7.out.lt
        have l2 := HP7.out.lt q HP7.out.dq
        have k1 : (Instr.lookup 82 (.map (some b)) (.int .u32 (y.a : Int)) false).run Tryz.prog W7.drew = .ok (.map (some r)) W7.drew := by
          have := HP7.out.look1 hy.a W7.drew rfl
          rw [HIN.out] at this
          exact this
        obtain ⟨w10, hrun2, hm10, ht10⟩ := ((HP7.out.live.at_ _ r HIN.out).2.keep (w' := W7.drew) rfl).store keyKy Tryz.underlying93 (x := y) hy (natV M.length)
        unfold Ky.v natV at hrun2
        have HM10 := Lib.hid hm10
        have HG10 := Lib.hid ht10.grown
        clear hm10 ht10
        go_wp2_with fail
        go_region
        go_wp2_with fail
        go_ret
        have hG := HG10.out
        have hin := HP7.out.inner (w' := w10) (y := y) HIN.out (some M.length) HM10.out (fun i h1 h2 => hG.block i h2 (fun e => h1 (by injection e))) hG.size
        have hled := hin.shut
        rw [post_live (x := ⟨y, l, 0⟩) rfl] at hled
        refine ⟨fun _ => ⟨rfl, ?_, _, hled, ?_⟩, fun hh => absurd ⟨HQB.out, HOL.out, HOK.out⟩ hh⟩
        · have h0 : Chg D w w6 := (Chg.of_below HB5.out).trans HCG.out (fun i h => .inl h)
          have hd6 : ∀ i, D6 i → D i ∨ w.heap.size ≤ i := fun i hi => by
            rcases HD6.out i hi with h | h | h
            · exact .inl h
            · have h1 := (HLG.out.lt i h).1
              have h2 := HN5.out
              exact .inr (by omega)
            · have h2 := HB5.out.size
              exact .inr (by omega)
          have h1 : Chg D w W7 := h0.trans (Chg.of_below (D := D6) HC7.out) hd6
          exact h1.trans (Chg.turned (D := D6) (show W7.grownBy w10 (some r) from ⟨hG.os, hG.tape, hG.output, hG.size, hG.block⟩) (HP7.out.live.at_ _ r HIN.out).1) hd6
        · have h0 : Chg D w w6 := (Chg.of_below HB5.out).trans HCG.out (fun i h => .inl h)
          have hd6 : ∀ i, D6 i → D i ∨ w.heap.size ≤ i := fun i hi => by
            rcases HD6.out i hi with h | h | h
            · exact .inl h
            · have h1 := (HLG.out.lt i h).1
              have h2 := HN5.out
              exact .inr (by omega)
            · have h2 := HB5.out.size
              exact .inr (by omega)
          exact hd6
    · obtain ⟨rfl, hb6⟩ := hno hok
      have HNO := Lib.hid hok
      have HB6 := Lib.hid (HB5.out.trans (hb6.mono HB5.out.size))
      have HQ6 := Lib.hid (HQ5.out.below hb6 HQ5.out.lt)
      clear hyes hno hok HA hb6
      have n0 := HQ6.out.cell 0
      have n1 := HQ6.out.cell 1
      have n2 := HQ6.out.cell 2
      have n3 := HQ6.out.cell 3
      simp at n0 n1 n2 n3
      unfold eno14 at HF
      unfold eno14
      go_wp2_with fail
      refine (HF.out 12 _).mono ?_
      rintro e w7 ⟨v7, rfl, hf, hb7⟩
      have HFF := Lib.hid hf
      have HB7 := Lib.hid hb7
      clear hf hb7 n0 n1 n2 n3
      go_wp2_with fail
      go_ret
      obtain ⟨N, h1, h2, h3⟩ := HFF.out
      refine post_no (fun hh => absurd hh.2.2 HNO.out) rfl (fun hh => no_true HQB.out hh) (fun _ => ⟨N, h1, Nat.le_trans HB6.out.size h2, ?_⟩) (HB6.out.trans (HB7.out.mono HB6.out.size))
      have hp : postE M y l = 12 := by
        unfold postE
        rw [HQB.out, HOL.out]
        rfl
      rw [hp]
      exact h3
end Go.Proofs.YtabiaeicejgeiaaGreatDoor
