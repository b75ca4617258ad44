/-
Ledger.Post: a line more, or its error. Conditions: the ledger is there.
Ledger.Reverse: a line that undoes the live one, or its error. Conditions: the ledger is there.
-/
import Derived.Test.YtdnnkdldolhbpaaGreatDoorLedLX9
namespace Go.Proofs.YtdnnkdldolhbpaaGreatDoor
open Go.ChangeShapes Go.WideShapes Go.ChangeAt Go.RowKit Go.Maps Go.ChangeMaps

theorem eqlK (o : Option Nat) (W : World) : (binOp .eql 93 (.map o) (.map none)).run Tryz.prog W = .ok (.bool o.isNone) W := by
  cases o <;> kernel_rfl
/-- What Post does: which error; else a line more. -/
def postE (M : List Li) (y : Ky) (l : List (Nat × Int)) : Nat := if entB y l = false then 1 else if (liveL M y).isSome then 10 else 12
def postOk (M : List Li) (y : Ky) (l : List (Nat × Int)) : Prop := entB y l = true ∧ liveL M y = none ∧ okAdd M y.a l
theorem LedP.same {w w' : World} {q b : Nat} {D : Nat → Prop} {M : List Li} {L : Ky → Option Nat} {inn : Nat → Option Nat} (h : LedP w q D M L b inn) (hk : ∀ i, D i → w'.heap[i]? = w.heap[i]?) (hs : w.heap.size ≤ w'.heap.size) : LedP w' q D M L b inn := by
  obtain ⟨lv, V, bm, h1, h2, h3, h5, h8, h9, h10⟩ := h.rest
  exact ⟨⟨lv, V, bm, (hk q h.dq).trans h1, h2.same (fun g hg => hk g (h8 g hg)), h3.same hk hs, h5.same hk, h8, h9, h10⟩, h.live.same hk, h.fine, h.dq, fun i hi => Nat.lt_of_lt_of_le (h.lt i hi) hs⟩
theorem LedP.drewN {w : World} {q b : Nat} {D : Nat → Prop} {M : List Li} {L : Ky → Option Nat} {inn : Nat → Option Nat} (h : LedP w q D M L b inn) (n : Nat) : LedP (w.drewN n) q D M L b inn := h.same (fun _ _ => rfl) (Nat.le_refl _)
/-- What the map of loans tells. -/
theorem LedP.cell1 {w : World} {q b : Nat} {D : Nat → Prop} {M : List Li} {L : Ky → Option Nat} {inn : Nat → Option Nat} (h : LedP w q D M L b inn) : w.cell? ⟨q, 1, none⟩ = some (.map (some b)) := by
  obtain ⟨lv, V, bm, h1, _⟩ := h.rest
  have c1 := h1.cell 1
  unfold ledC at c1
  simpa using c1
theorem LedP.look1 {w : World} {q b : Nat} {D : Nat → Prop} {M : List Li} {L : Ky → Option Nat} {inn : Nat → Option Nat} (h : LedP w q D M L b inn) {a : Nat} (ha : a < 4294967296) (w' : World) (hk : w'.heap[b]? = w.heap[b]?) :
    (Instr.lookup 82 (.map (some b)) (.int .u32 (a : Int)) false).run Tryz.prog w' = .ok (.map (inn a)) w' := by
  have := ((h.live.out b rfl).2.1.keep hk).look keyU32 Tryz.underlying82 (zeroM w') (x := a) ha false
  cases e : inn a with
  | none => rw [e] at this; exact this
  | some r => rw [e] at this; exact this
def PostPost (w : World) (q : Nat) (D : Nat → Prop) (M : List Li) (y : Ky) (l : List (Nat × Int)) (e : Ending) (w' : World) : Prop :=
  (postOk M y l → e = .returned .nilIface ∧ Chg D w w' ∧ ∃ D', Led w' q D' (M ++ [⟨y, l, 0⟩]) ∧ ∀ i, D' i → D i ∨ w.heap.size ≤ i) ∧
  (¬ postOk M y l → ∃ v, e = .returned v ∧ (entB y l = false → v = eno14 1) ∧ (entB y l = true → FaultIs w' w.heap.size v (y.a : Int) (postE M y l)) ∧ Below w.heap.size w w')
theorem post_live {M : List Li} {x : Li} (hx : x.o = 0) : setL (liveL M) x.y (some M.length) = liveL (M ++ [x]) := by
  funext k
  rw [liveL_post hx]
  rfl
/-- One block of D has turned. -/
theorem Chg.turned {D : Nat → Prop} {w w' : World} {r : Nat} (h : w.grownBy w' (some r)) (hr : D r) : Chg D w w' :=
  ⟨h.os, h.tape, h.output, h.size, fun i hi hn => h.block i hi (fun e => hn (by injection e with e; rw [e]; exact hr))⟩
theorem post_no {w w' : World} {q : Nat} {D : Nat → Prop} {M : List Li} {y : Ky} {l : List (Nat × Int)} {e : Ending} {v : Value} (h : ¬ postOk M y l) (he : e = .returned v) (h1 : entB y l = false → v = eno14 1) (h2 : entB y l = true → FaultIs w' w.heap.size v (y.a : Int) (postE M y l)) (hb : Below w.heap.size w w') : PostPost w q D M y l e w' :=
  ⟨fun hh => absurd hh h, fun _ => ⟨v, he, h1, h2, hb⟩⟩
theorem no_true {b : Bool} {p : Prop} (h : b = true) (h2 : b = false) : p := by rw [h] at h2; cases h2
set_option maxRecDepth 100000 in
set_option maxHeartbeats 4000000 in
theorem Post_nil (y : Ky) (hy : y.a < 4294967296) (v : Value) (w : World) : Calls Tryz.prog 17 #[.pointer none, entV y v] w (FaultPost (y.a : Int) 3 w) := by
  obtain ⟨X, hX⟩ : ∃ X : Array Value, X = #[.int .u32 (y.a : Int), .int .i32 y.d, .int .u8 (y.k : Int), .int .u32 (y.s : Int), v] := ⟨_, rfl⟩
  obtain ⟨Y, hY⟩ : ∃ Y : Array Value, Y = #[.int .u32 (y.a : Int), .int .i32 y.d, .int .u8 (y.k : Int), .int .u32 (y.s : Int)] := ⟨_, rfl⟩
  have HB2 := Lib.hid ((b_alloc w (.cells X 40)).alloc (by simp) (.cells Y 33))
  have HQ2 : Hid (Blk ((w.alloc (.cells X 40)).alloc (.cells Y 33)) (w.heap.size + 1) 33 Y) := Lib.hid (by
    have h := Blk.new (w.alloc (.cells X 40)) 33 Y
    rw [show (w.alloc (.cells X 40)).heap.size = w.heap.size + 1 by simp] at h
    exact h)
  obtain ⟨W2, hW2⟩ : ∃ W, ((w.alloc (.cells X 40)).alloc (.cells Y 33)) = W := ⟨_, rfl⟩
  rw [hW2] at HB2 HQ2
  have HF := Lib.hid (fault_any y hy 3 W2)
  subst hX hY
  have HW := Lib.hid hW2
  clear hW2
  unfold entV entC
  go_enter Tryz.func17, Tryz.ntmps17
  go_upto_region 2 with (fail)
  rw [HW.out]
  have n0 := HQ2.out.cell 0
  have n1 := HQ2.out.cell 1
  have n2 := HQ2.out.cell 2
  have n3 := HQ2.out.cell 3
  simp at n0 n1 n2 n3
  unfold Ky.v eno14 at HF
  go_wp2_with fail
  refine HF.out.mono ?_
  rintro e w3 ⟨v3, rfl, hf, hb⟩
  have HFF := Lib.hid hf
  have HB3 := Lib.hid hb
  clear hf hb n0 n1 n2 n3
  go_wp2_with fail
  go_ret
  obtain ⟨N, h1, h2, h3⟩ := HFF.out
  exact ⟨_, rfl, ⟨N, h1, Nat.le_trans HB2.out.size h2, h3⟩, HB2.out.trans (HB3.out.mono HB2.out.size)⟩
theorem Fine.inn1 {M : List Li} (_ : Fine M) {y : Ky} {i : Nat} (hl : liveL M y = some i) : ∃ x, M[i]? = some x ∧ x.y = y ∧ x.o = 0 := liveL_some hl
set_option maxRecDepth 100000 in
set_option maxHeartbeats 8000000 in
theorem Post_any (q : Nat) (D : Nat → Prop) (M : List Li) (y : Ky) (hy : y.In) (A : Option Addr) (n c : Nat) (l : List (Nat × Int)) (w : World) (h : Led w q D M) (hR : Rs legT w w.heap.size A l) (hn : l.length = n) (hm : n ≤ 100000) (hI : ∀ u ∈ l, LegIn u) (hM : M.length ≤ 1000000) :
    Calls Tryz.prog 17 #[.pointer (some ⟨q, 0, none⟩), entV y (.slice A n c)] w (PostPost w q D M y l) := by
  obtain ⟨X, hX⟩ : ∃ X : Array Value, X = #[.int .u32 (y.a : Int), .int .i32 y.d, .int .u8 (y.k : Int), .int .u32 (y.s : Int), .slice A n c] := ⟨_, rfl⟩
  obtain ⟨Y, hY⟩ : ∃ Y : Array Value, Y = #[.int .u32 (y.a : Int), .int .i32 y.d, .int .u8 (y.k : Int), .int .u32 (y.s : Int)] := ⟨_, rfl⟩
  have HB2 := Lib.hid ((b_alloc w (.cells X 40)).alloc (by simp) (.cells Y 33))
  have HQ1 := Lib.hid ((Blk.new w 40 X).alloc (.cells Y 33))
  have HQ2 : Hid (Blk ((w.alloc (.cells X 40)).alloc (.cells Y 33)) (w.heap.size + 1) 33 Y) := Lib.hid (by
    have h := Blk.new (w.alloc (.cells X 40)) 33 Y
    rw [show (w.alloc (.cells X 40)).heap.size = w.heap.size + 1 by simp] at h
    exact h)
  obtain ⟨W2, hW2⟩ : ∃ W, ((w.alloc (.cells X 40)).alloc (.cells Y 33)) = W := ⟨_, rfl⟩
  rw [hW2] at HB2 HQ2 HQ1
  have hD := h.lt
  have hs2 := HQ2.out.lt
  have HL2 := Lib.hid (h.below HB2.out)
  have HR2 := Lib.hid ((hR.below HB2.out).more HB2.out.size)
  obtain ⟨qb, hqb⟩ : ∃ qb, entB y l = qb := ⟨_, rfl⟩
  have hRi := Right_any13 y A n c W2.heap.size l W2 HR2.out hn hm (Nat.le_refl _) hI
  rw [hqb] at hRi
  have HRi := Lib.hid hRi
  have HQB := Lib.hid hqb
  have HF := Lib.hid (fun k W => fault_any y hy.a k W)
  have HD := Lib.hid hD
  have HN := Lib.hid hn
  subst hX hY
  have HW := Lib.hid hW2
  clear hW2 h hR hqb hRi hD hn
  unfold entV entC at HRi
  unfold Ky.v at HF
  unfold entV entC
  have n0 := HQ2.out.cell 0
  have n1 := HQ2.out.cell 1
  have n2 := HQ2.out.cell 2
  have n3 := HQ2.out.cell 3
  have e0 := HQ1.out.cell 0
  have e1 := HQ1.out.cell 1
  have e2 := HQ1.out.cell 2
  have e3 := HQ1.out.cell 3
  have e4 := HQ1.out.cell 4
  simp at n0 n1 n2 n3 e0 e1 e2 e3 e4
  go_enter Tryz.func17, Tryz.ntmps17
  go_upto_region 2 with (fail)
  rw [HW.out]
  go_wp2_with fail
  refine HRi.out.mono ?_
  rintro e w3 ⟨rfl, hb3⟩
  have HB3 := Lib.hid (HB2.out.trans (hb3.mono HB2.out.size))
  have HQ3 := Lib.hid (HQ2.out.below hb3 HQ2.out.lt)
  have HE3 := Lib.hid (HQ1.out.below hb3 HQ1.out.lt)
  have HL3 := Lib.hid (HL2.out.below hb3)
  have HR3 := Lib.hid ((HR2.out.below hb3).more hb3.size)
  clear hb3 n0 n1 n2 n3 e0 e1 e2 e3 e4 HRi HQ2 HQ1 HL2 HR2 HW HB2
  cases qb
  · go_wp2_with fail
    go_ret
    exact post_no (fun hh => no_true hh.1 HQB.out) rfl (fun _ => rfl) (fun hh => no_true hh HQB.out) HB3.out
  have n0 := HQ3.out.cell 0
  have n1 := HQ3.out.cell 1
  have n2 := HQ3.out.cell 2
  have n3 := HQ3.out.cell 3
  simp at n0 n1 n2 n3
  have hP := place_any q D M y hy w3 HL3.out
  obtain ⟨ol, hol⟩ : ∃ ol, liveL M y = ol := ⟨_, rfl⟩
  rw [hol] at hP
  have HP := Lib.hid hP
  have HOL := Lib.hid hol
  clear hP hol
  unfold Ky.v at HP
  cases ol with
  | some i =>
    unfold placeV at HP
    go_wp2_with fail
    refine HP.out.mono ?_
    rintro e w4 ⟨rfl, hb4⟩
    have HB4 := Lib.hid (HB3.out.trans (hb4.mono HB3.out.size))
    have HQ4 := Lib.hid (HQ3.out.below hb4 HQ3.out.lt)
    clear hb4 n0 n1 n2 n3 HP
    have n0 := HQ4.out.cell 0
    have n1 := HQ4.out.cell 1
    have n2 := HQ4.out.cell 2
    have n3 := HQ4.out.cell 3
    simp at n0 n1 n2 n3
    unfold eno14 at HF
    go_wp2_with fail
    refine (HF.out 10 _).mono ?_
    rintro e w5 ⟨v5, rfl, hf, hb5⟩
    have HFF := Lib.hid hf
    have HB5 := Lib.hid hb5
    clear hf hb5 n0 n1 n2 n3
    go_wp2_with fail
    go_ret
    obtain ⟨N, h1, h2, h3⟩ := HFF.out
    refine post_no (fun hh => absurd hh.2.1 (by rw [HOL.out]; simp)) rfl (fun hh => no_true HQB.out hh) (fun _ => ⟨N, h1, Nat.le_trans HB4.out.size h2, ?_⟩) (HB4.out.trans (HB5.out.mono HB4.out.size))
    have hp : postE M y l = 10 := by
      unfold postE
      rw [HQB.out, HOL.out]
      rfl
    rw [hp]
    exact h3
  | none =>
    unfold placeV at HP
    go_wp2_with fail
    refine HP.out.mono ?_
    rintro e w4 ⟨rfl, hb4⟩
    have HB4 := Lib.hid (HB3.out.trans (hb4.mono HB3.out.size))
    have HQ4 := Lib.hid (HQ3.out.below hb4 HQ3.out.lt)
    have HE4 := Lib.hid (HE3.out.below hb4 HE3.out.lt)
    have HL4 := Lib.hid (HL3.out.below hb4)
    have HR4 := Lib.hid ((HR3.out.below hb4).more hb4.size)
    clear hb4 n0 n1 n2 n3 HP HQ3 HE3 HL3 HR3
    obtain ⟨A0, c0, hc0, hlc⟩ := HL4.out.lines
    have e0 := HE4.out.cell 0
    have e1 := HE4.out.cell 1
    have e2 := HE4.out.cell 2
    have e3 := HE4.out.cell 3
    have e4 := HE4.out.cell 4
    simp at e0 e1 e2 e3 e4
    have hel := ent_len HQB.out
    have hO := own_any14 y A n c 0 w4.heap.size l w4 HR4.out HN.out (by have := HN.out; omega) hm (Nat.le_refl _)
    have HO := Lib.hid hO
    have HEL := Lib.hid hel
    clear hO hel
    unfold linW at HO
    go_wp2_with fail
    refine HO.out.mono ?_
    rintro e w5 ⟨A5, c5, rfl, ho5, hb5⟩
    have HB5 := Lib.hid (HB4.out.trans (hb5.mono HB4.out.size))
    have HQ5 := Lib.hid (HQ4.out.below hb5 HQ4.out.lt)
    have HL5 := Lib.hid (HL4.out.below hb5)
    have HN5 := Lib.hid (show w.heap.size ≤ w4.heap.size from HB4.out.size)
    have HLG := Lib.hid ho5
    have hadd := add_any q D M (liveL M) y A5 l.length c5 0 l w5 HL5.out (own_lowT ho5 (Nat.zero_le _)) rfl HEL.out.2 hy hI (ent_rise HQB.out).2 (fun hok => HL5.out.fine.snoc ⟨hy, hI, (ent_rise HQB.out).1, HEL.out, (ent_rise HQB.out).2⟩ hok.1 hok.2 (fun h => absurd h (by simp)) (fun _ => HQB.out)) hM
    have HA := Lib.hid hadd
    clear hb5 ho5 hadd hc0 e0 e1 e2 e3 e4 HO HQ4 HE4 HL4 HR4
    unfold linW at HA ⊢
    go_wp2_with fail
    refine HA.out.mono ?_
    rintro e w6 ⟨hyes, hno⟩
    by_cases hok : okAdd M y.a l
    · obtain ⟨rfl, hcg, D6, hl6, hd6⟩ := hyes hok
      have HCG := Lib.hid hcg
      have HL6 := Lib.hid hl6
      have HD6 := Lib.hid hd6
      have HOK := Lib.hid hok
      have HQ6 := Lib.hid (hcg.blk HQ5.out (fun hh => by have := HD.out _ hh; omega))
      clear hyes hno hcg hl6 hd6 hok HA HQ5
      have n0 := HQ6.out.cell 0
      have n1 := HQ6.out.cell 1
      have n2 := HQ6.out.cell 2
      have n3 := HQ6.out.cell 3
      simp at n0 n1 n2 n3
      obtain ⟨b, inn, hp⟩ := HL6.out.parts (by simp)
      have c1 := hp.cell1
      have k1 : ∀ n, (Instr.lookup 82 (.map (some b)) (.int .u32 (y.a : Int)) false).run Tryz.prog (w6.drewN n) = .ok (.map (inn y.a)) (w6.drewN n) := fun n => hp.look1 hy.a _ rfl
      have k2 := fun W => eqlK (inn y.a) W
      have HPP := Lib.hid hp
      clear hp
      go_wp2_with fail
      go_quiet (fail)
      have HP7 := Lib.hid (HPP.out.drewN nq)
      have HQ7 := Lib.hid (HQ6.out.drewN nq)
      have HS7 := Lib.hid (show (w6.drewN nq).heap = w6.heap from rfl)
      have HC7 := Lib.hid (show Below w6.heap.size w6 (w6.drewN nq) from below_drewN (Below.refl _ _) nq)
      obtain ⟨W7, hW7⟩ : ∃ W, w6.drewN nq = W := ⟨_, rfl⟩
      rw [hW7] at HP7 HQ7 HS7 HC7 ⊢
      clear hW7 HPP n0 n1 n2 n3 c1 k1 k2 HQ6
      have n0 := HQ7.out.cell 0
      have n1 := HQ7.out.cell 1
      have n2 := HQ7.out.cell 2
      have n3 := HQ7.out.cell 3
      simp at n0 n1 n2 n3
      have c1 := HP7.out.cell1
      have l1 := HQ7.out.lt
      have l2 := HP7.out.lt q HP7.out.dq
      cases hin : inn y.a with
      | none =>
        have hmm := @run_makeMap Tryz.prog
        obtain ⟨w9, hrun, hm9, ht9⟩ := ((HP7.out.live.out b rfl).2.1.below (w' := (W7.alloc (.map #[] 0)).drew) (below_drewN ((Below.refl _ _).alloc (Nat.le_refl _) _) 1) (HP7.out.lt b (HP7.out.live.out b rfl).1)).store keyU32 Tryz.underlying82 (x := y.a) hy.a (.map (some W7.heap.size))
        unfold u32E at hrun
        have HM9 := Lib.hid hm9
        have HT9 := Lib.hid ht9
        have HIN := Lib.hid hin
        clear hm9 ht9 hin
        go_wp2_with fail
        go_region
        obtain ⟨r, hrr⟩ : ∃ r, W7.heap.size = r := ⟨_, rfl⟩
        have hg9 := HT9.out.grown
        have hnew : MapF w9 Ky.In Ky.v r (fun _ => none) := by
          have h1 := MapF.new W7 Ky.In Ky.v
          rw [hrr] at h1
          refine (h1.keep (w' := (W7.alloc (.map #[] 0)).drew) rfl).keep (hg9.block r (by rw [← hrr]; simp) (fun e => ?_))
          injection e with e
          have := HP7.out.lt b (HP7.out.live.out b rfl).1
          omega
        have hroom := HP7.out.room (w' := w9) (r := r) (a := y.a) HIN.out (Nat.le_of_eq hrr) hnew.lt (by rw [← hrr]; exact HM9.out) hnew (fun i h1 h2 => (hg9.block i (by simp; omega) (fun e => h1 (by injection e))).trans ((b_alloc W7 (.map #[] 0)).block i h2)) (Nat.le_trans (by simp) hg9.size)
        obtain ⟨inn9, hi9⟩ : ∃ g : Nat → Option Nat, (fun x => if x = y.a then some r else inn x) = g := ⟨_, rfl⟩
        rw [hi9] at hroom
        have HP9 := Lib.hid hroom
        have HQ9 := Lib.hid (show Blk w9 (w.heap.size + 1) 33 #[.int .u32 (y.a : Int), .int .i32 y.d, .int .u8 (y.k : Int), .int .u32 (y.s : Int)] from (hg9.block _ (by simp; omega) (fun e => by
          injection e with e
          exact blk_map HQ7.out (HP7.out.live.out b rfl).2.1 e)).trans (((b_alloc W7 (.map #[] 0)).block _ HQ7.out.lt).trans HQ7.out))
        have HR9 := Lib.hid hrr
        have HI9 : Hid (inn9 y.a = some r) := Lib.hid (by rw [← hi9]; simp)
        rw [hrr]
        clear hi9 hrr hg9 hnew hroom n0 n1 n2 n3 c1 l1 l2 hrun hmm
        have n0 := HQ9.out.cell 0
        have n1 := HQ9.out.cell 1
        have n2 := HQ9.out.cell 2
        have n3 := HQ9.out.cell 3
        simp at n0 n1 n2 n3
        have c1 := HP9.out.cell1
        have l1 := HQ9.out.lt
        have l2 := HP9.out.lt q HP9.out.dq
        have k1 : (Instr.lookup 82 (.map (some b)) (.int .u32 (y.a : Int)) false).run Tryz.prog w9.drew = .ok (.map (some r)) w9.drew := by
          have := HP9.out.look1 hy.a w9.drew rfl
          rw [HI9.out] at this
          exact this
        obtain ⟨w10, hrun2, hm10, ht10⟩ := ((HP9.out.live.at_ _ r HI9.out).2.keep (w' := w9.drew) rfl).store keyKy Tryz.underlying93 (x := y) hy (natV M.length)
        unfold Ky.v natV at hrun2
        have HM10 := Lib.hid hm10
        have HG10 := Lib.hid ht10.grown
        clear hm10 ht10
        go_wp2_with fail
        go_region
        go_wp2_with fail
        go_ret
        have hG := HG10.out
        have hin := HP9.out.inner (w' := w10) (y := y) HI9.out (some M.length) HM10.out (fun i h1 h2 => hG.block i h2 (fun e => h1 (by injection e))) hG.size
        have hled := hin.shut
        rw [post_live (x := ⟨y, l, 0⟩) rfl] at hled
        refine ⟨fun _ => ⟨rfl, ?_, _, hled, ?_⟩, fun hh => absurd ⟨HQB.out, HOL.out, HOK.out⟩ hh⟩
        · have h0 : Chg D w w6 := (Chg.of_below HB5.out).trans HCG.out (fun i h => .inl h)
          have hd6 : ∀ i, D6 i → D i ∨ w.heap.size ≤ i := fun i hi => by
            rcases HD6.out i hi with h | h | h
            · exact .inl h
            · have h1 := (HLG.out.lt i h).1
              have h2 := HN5.out
              exact .inr (by omega)
            · have h2 := HB5.out.size
              exact .inr (by omega)
          have h1 : Chg D w W7 := h0.trans (Chg.of_below (D := D6) HC7.out) hd6
          have hg9 := HT9.out.grown
          have h2 : Chg D w w9 := h1.trans (Chg.turned (D := D6) (show W7.grownBy w9 (some b) from ⟨hg9.os, hg9.tape, hg9.output, Nat.le_trans (by simp) hg9.size, fun i hi hn => (hg9.block i (by simp; omega) hn).trans ((b_alloc W7 (.map #[] 0)).block i hi)⟩) (HP7.out.live.out b rfl).1) hd6
          refine h2.trans (Chg.turned (D := fun i => D6 i ∨ i = r) (show w9.grownBy w10 (some r) from ⟨hG.os, hG.tape, hG.output, hG.size, hG.block⟩) (.inr rfl)) (fun i hi => ?_)
          rcases hi with hi | rfl
          · exact hd6 i hi
          · have e1 := HR9.out
            have e2 := h1.size
            exact .inr (by omega)
        · have h0 : Chg D w w6 := (Chg.of_below HB5.out).trans HCG.out (fun i h => .inl h)
          have hd6 : ∀ i, D6 i → D i ∨ w.heap.size ≤ i := fun i hi => by
            rcases HD6.out i hi with h | h | h
            · exact .inl h
            · have h1 := (HLG.out.lt i h).1
              have h2 := HN5.out
              exact .inr (by omega)
            · have h2 := HB5.out.size
              exact .inr (by omega)
          have h1 : Chg D w W7 := h0.trans (Chg.of_below (D := D6) HC7.out) hd6
          intro i hi
          rcases hi with hi | rfl
          · exact hd6 i hi
          · have e1 := HR9.out
            have e2 := h1.size
            exact .inr (by omega)
      | some r =>
        have HIN := Lib.hid hin
        clear hin n0 n1 n2 n3 c1 l1 l2
        have n0 := HQ7.out.cell 0
        have n1 := HQ7.out.cell 1
        have n2 := HQ7.out.cell 2
        have n3 := HQ7.out.cell 3
        simp at n0 n1 n2 n3
        have c1 := HP7.out.cell1
        have l1 := HQ7.out.lt
        have l2 := HP7.out.lt q HP7.out.dq
        have k1 : (Instr.lookup 82 (.map (some b)) (.int .u32 (y.a : Int)) false).run Tryz.prog W7.drew = .ok (.map (some r)) W7.drew := by
          have := HP7.out.look1 hy.a W7.drew rfl
          rw [HIN.out] at this
          exact this
        obtain ⟨w10, hrun2, hm10, ht10⟩ := ((HP7.out.live.at_ _ r HIN.out).2.keep (w' := W7.drew) rfl).store keyKy Tryz.underlying93 (x := y) hy (natV M.length)
        unfold Ky.v natV at hrun2
        have HM10 := Lib.hid hm10
        have HG10 := Lib.hid ht10.grown
        clear hm10 ht10
        go_wp2_with fail
        go_region
        go_wp2_with fail
        go_ret
        have hG := HG10.out
        have hin := HP7.out.inner (w' := w10) (y := y) HIN.out (some M.length) HM10.out (fun i h1 h2 => hG.block i h2 (fun e => h1 (by injection e))) hG.size
        have hled := hin.shut
        rw [post_live (x := ⟨y, l, 0⟩) rfl] at hled
        refine ⟨fun _ => ⟨rfl, ?_, _, hled, ?_⟩, fun hh => absurd ⟨HQB.out, HOL.out, HOK.out⟩ hh⟩
        · have h0 : Chg D w w6 := (Chg.of_below HB5.out).trans HCG.out (fun i h => .inl h)
          have hd6 : ∀ i, D6 i → D i ∨ w.heap.size ≤ i := fun i hi => by
            rcases HD6.out i hi with h | h | h
            · exact .inl h
            · have h1 := (HLG.out.lt i h).1
              have h2 := HN5.out
              exact .inr (by omega)
            · have h2 := HB5.out.size
              exact .inr (by omega)
          have h1 : Chg D w W7 := h0.trans (Chg.of_below (D := D6) HC7.out) hd6
          exact h1.trans (Chg.turned (D := D6) (show W7.grownBy w10 (some r) from ⟨hG.os, hG.tape, hG.output, hG.size, hG.block⟩) (HP7.out.live.at_ _ r HIN.out).1) hd6
        · have h0 : Chg D w w6 := (Chg.of_below HB5.out).trans HCG.out (fun i h => .inl h)
          have hd6 : ∀ i, D6 i → D i ∨ w.heap.size ≤ i := fun i hi => by
            rcases HD6.out i hi with h | h | h
            · exact .inl h
            · have h1 := (HLG.out.lt i h).1
              have h2 := HN5.out
              exact .inr (by omega)
            · have h2 := HB5.out.size
              exact .inr (by omega)
          exact hd6
    · obtain ⟨rfl, hb6⟩ := hno hok
      have HNO := Lib.hid hok
      have HB6 := Lib.hid (HB5.out.trans (hb6.mono HB5.out.size))
      have HQ6 := Lib.hid (HQ5.out.below hb6 HQ5.out.lt)
      clear hyes hno hok HA hb6
      have n0 := HQ6.out.cell 0
      have n1 := HQ6.out.cell 1
      have n2 := HQ6.out.cell 2
      have n3 := HQ6.out.cell 3
      simp at n0 n1 n2 n3
      unfold eno14 at HF
      unfold eno14
      go_wp2_with fail
      refine (HF.out 12 _).mono ?_
      rintro e w7 ⟨v7, rfl, hf, hb7⟩
      have HFF := Lib.hid hf
      have HB7 := Lib.hid hb7
      clear hf hb7 n0 n1 n2 n3
      go_wp2_with fail
      go_ret
      obtain ⟨N, h1, h2, h3⟩ := HFF.out
      refine post_no (fun hh => absurd hh.2.2 HNO.out) rfl (fun hh => no_true HQB.out hh) (fun _ => ⟨N, h1, Nat.le_trans HB6.out.size h2, ?_⟩) (HB6.out.trans (HB7.out.mono HB6.out.size))
      have hp : postE M y l = 12 := by
        unfold postE
        rw [HQB.out, HOL.out]
        rfl
      rw [hp]
      exact h3
end Go.Proofs.YtdnnkdldolhbpaaGreatDoor
namespace Go.Proofs.YtdnnkdldolhbpaaGreatDoor
open Go.ChangeShapes Go.WideShapes Go.ChangeAt Go.RowKit Go.Maps Go.ChangeMaps

def legsAt (M : List Li) (i : Nat) : List (Nat × Int) := match M[i]? with | some x => x.l | none => []
def revOk (M : List Li) (y : Ky) (i : Nat) : Prop := liveL M y = some i ∧ lowB (legsAt M i) = false ∧ okAdd M y.a (negL (legsAt M i))
def RevPost (w : World) (q : Nat) (D : Nat → Prop) (M : List Li) (y : Ky) (e : Ending) (w' : World) : Prop :=
  (∀ i, revOk M y i → e = .returned .nilIface ∧ Chg D w w' ∧ ∃ D', Led w' q D' (M ++ [⟨y, negL (legsAt M i), i + 1⟩]) ∧ ∀ i, D' i → D i ∨ w.heap.size ≤ i) ∧
  ((∀ i, ¬ revOk M y i) → ∃ v, e = .returned v ∧ FaultIs w' w.heap.size v (y.a : Int) (if (liveL M y).isSome then 12 else 3) ∧ Below w.heap.size w w')
theorem rev_no {w w' : World} {q : Nat} {D : Nat → Prop} {M : List Li} {y : Ky} {e : Ending} {v : Value} (h : ∀ i, ¬ revOk M y i) (he : e = .returned v) (h2 : FaultIs w' w.heap.size v (y.a : Int) (if (liveL M y).isSome then 12 else 3)) (hb : Below w.heap.size w w') : RevPost w q D M y e w' :=
  ⟨fun i hi => absurd hi (h i), fun _ => ⟨v, he, h2, hb⟩⟩
theorem negL_in {l : List (Nat × Int)} (h : ∀ g ∈ l, LegIn g) (hl : lowB l = false) : ∀ g ∈ negL l, LegIn g := fun g hg => by
  unfold negL at hg
  obtain ⟨u, hu, rfl⟩ := List.mem_map.1 hg
  obtain ⟨h1, h2, h3⟩ := h u hu
  have h4 : u.2 ≠ -9223372036854775808 := fun e => by
    have : lowB l = true := by
      unfold lowB
      rw [List.any_eq_true]
      exact ⟨u, hu, by simp [e]⟩
    rw [this] at hl
    cases hl
  exact ⟨h1, by show _ ≤ 0 - u.2; omega, by show 0 - u.2 ≤ _; omega⟩
theorem negL_len (l : List (Nat × Int)) : (negL l).length = l.length := by simp [negL]
theorem negL_rise {l : List (Nat × Int)} (h : Rise l) : Rise (negL l) := by
  unfold Rise negL
  rw [List.pairwise_map]
  exact h
theorem negL_acc {l : List (Nat × Int)} (h : ∀ g ∈ l, 1 ≤ g.1 ∧ g.1 ≤ 9) : ∀ g ∈ negL l, 1 ≤ g.1 ∧ g.1 ≤ 9 := fun g hg => by
  unfold negL at hg
  obtain ⟨u, hu, rfl⟩ := List.mem_map.1 hg
  exact h u hu
theorem rev_live {M : List Li} {x : Li} {i : Nat} (hx : x.o = i + 1) (hl : liveL M x.y = some i) : setL (liveL M) x.y none = liveL (M ++ [x]) := by
  funext k
  rw [liveL_rev hx hl]
  rfl
set_option maxRecDepth 100000 in
set_option maxHeartbeats 2000000 in
theorem Rev_nil (y : Ky) (hy : y.In) (w : World) : Calls Tryz.prog 19 #[.pointer none, y.v] w (FaultPost (y.a : Int) 3 w) := by
  obtain ⟨Y, hY⟩ : ∃ Y : Array Value, Y = #[.int .u32 (y.a : Int), .int .i32 y.d, .int .u8 (y.k : Int), .int .u32 (y.s : Int)] := ⟨_, rfl⟩
  have HB2 := Lib.hid (b_alloc w (.cells Y 33))
  have HQ2 := Lib.hid (Blk.new w 33 Y)
  obtain ⟨W2, hW2⟩ : ∃ W, w.alloc (.cells Y 33) = W := ⟨_, rfl⟩
  rw [hW2] at HB2 HQ2
  have HP := Lib.hid (place_nil y W2)
  have HF := Lib.hid (fun W => fault_any y hy.a 3 W)
  subst hY
  have HW := Lib.hid hW2
  clear hW2
  unfold Ky.v placeV at HP
  unfold Ky.v eno14 at HF
  unfold Ky.v
  go_enter Tryz.func19, Tryz.ntmps19
  go_upto_region 1 with (fail)
  rw [HW.out]
  have n0 := HQ2.out.cell 0
  have n1 := HQ2.out.cell 1
  have n2 := HQ2.out.cell 2
  have n3 := HQ2.out.cell 3
  simp at n0 n1 n2 n3
  go_wp2_with fail
  refine HP.out.mono ?_
  rintro e w3 ⟨rfl, hb3⟩
  have HB3 := Lib.hid (HB2.out.trans (hb3.mono HB2.out.size))
  have HQ3 := Lib.hid (HQ2.out.below hb3 HQ2.out.lt)
  clear hb3 n0 n1 n2 n3 HP HB2 HQ2
  have n0 := HQ3.out.cell 0
  have n1 := HQ3.out.cell 1
  have n2 := HQ3.out.cell 2
  have n3 := HQ3.out.cell 3
  simp at n0 n1 n2 n3
  go_wp2_with fail
  refine (HF.out _).mono ?_
  rintro e w4 ⟨v4, rfl, hf, hb⟩
  have HFF := Lib.hid hf
  have HB4 := Lib.hid hb
  clear hf hb n0 n1 n2 n3
  go_wp2_with fail
  go_ret
  obtain ⟨N, h1, h2, h3⟩ := HFF.out
  exact ⟨_, rfl, ⟨N, h1, Nat.le_trans HB3.out.size h2, h3⟩, HB3.out.trans (HB4.out.mono HB3.out.size)⟩
set_option maxRecDepth 100000 in
set_option maxHeartbeats 8000000 in
theorem Rev_any (q : Nat) (D : Nat → Prop) (M : List Li) (y : Ky) (hy : y.In) (w : World) (h : Led w q D M) (hM : M.length ≤ 1000000) :
    Calls Tryz.prog 19 #[.pointer (some ⟨q, 0, none⟩), y.v] w (RevPost w q D M y) := by
  obtain ⟨Y, hY⟩ : ∃ Y : Array Value, Y = #[.int .u32 (y.a : Int), .int .i32 y.d, .int .u8 (y.k : Int), .int .u32 (y.s : Int)] := ⟨_, rfl⟩
  have HB2 := Lib.hid (b_alloc w (.cells Y 33))
  have HQ2 := Lib.hid (Blk.new w 33 Y)
  obtain ⟨W2, hW2⟩ : ∃ W, w.alloc (.cells Y 33) = W := ⟨_, rfl⟩
  rw [hW2] at HB2 HQ2
  have hD := h.lt
  have hs2 := HQ2.out.lt
  have HL2 := Lib.hid (h.below HB2.out)
  have hP := place_any q D M y hy W2 HL2.out
  obtain ⟨ol, hol⟩ : ∃ ol, liveL M y = ol := ⟨_, rfl⟩
  rw [hol] at hP
  have HP := Lib.hid hP
  have HOL := Lib.hid hol
  have HF := Lib.hid (fun k W => fault_any y hy.a k W)
  have HD := Lib.hid hD
  subst hY
  have HW := Lib.hid hW2
  clear hW2 h hP hol hD
  unfold Ky.v at HP HF
  unfold Ky.v
  have n0 := HQ2.out.cell 0
  have n1 := HQ2.out.cell 1
  have n2 := HQ2.out.cell 2
  have n3 := HQ2.out.cell 3
  simp at n0 n1 n2 n3
  go_enter Tryz.func19, Tryz.ntmps19
  go_upto_region 1 with (fail)
  rw [HW.out]
  cases ol with
  | none =>
    unfold placeV at HP
    go_wp2_with fail
    refine HP.out.mono ?_
    rintro e w3 ⟨rfl, hb3⟩
    have HB3 := Lib.hid (HB2.out.trans (hb3.mono HB2.out.size))
    have HQ3 := Lib.hid (HQ2.out.below hb3 HQ2.out.lt)
    clear hb3 n0 n1 n2 n3 HP HB2 HQ2
    have n0 := HQ3.out.cell 0
    have n1 := HQ3.out.cell 1
    have n2 := HQ3.out.cell 2
    have n3 := HQ3.out.cell 3
    simp at n0 n1 n2 n3
    unfold eno14 at HF
    go_wp2_with fail
    refine (HF.out 3 _).mono ?_
    rintro e w4 ⟨v4, rfl, hf, hb⟩
    have HFF := Lib.hid hf
    have HB4 := Lib.hid hb
    clear hf hb n0 n1 n2 n3
    go_wp2_with fail
    go_ret
    obtain ⟨N, h1, h2, h3⟩ := HFF.out
    refine rev_no (fun i hi => ?_) rfl ⟨N, h1, Nat.le_trans HB3.out.size h2, ?_⟩ (HB3.out.trans (HB4.out.mono HB3.out.size))
    · have := hi.1
      rw [HOL.out] at this
      cases this
    · rw [HOL.out]
      exact h3
  | some i =>
    unfold placeV at HP
    go_wp2_with fail
    refine HP.out.mono ?_
    rintro e w3 ⟨rfl, hb3⟩
    have HB3 := Lib.hid (HB2.out.trans (hb3.mono HB2.out.size))
    have HQ3 := Lib.hid (HQ2.out.below hb3 HQ2.out.lt)
    have HL3 := Lib.hid (HL2.out.below hb3)
    clear hb3 n0 n1 n2 n3 HP HB2 HQ2 HL2
    obtain ⟨x, hx, hxy, hxo⟩ := liveL_some HOL.out
    have hlt := (List.getElem?_eq_some_iff.1 hx).1
    have hin := HL3.out.fine.inn x (List.mem_of_getElem? hx)
    have hent := HL3.out.fine.post x (List.mem_of_getElem? hx) hxo
    obtain ⟨g, o, c, A, n, kk, c0, hc, hn, hR, r0, r1, r2, r3, r4, r5⟩ := HL3.out.line hx
    have hT := Turned_any x.y A n kk w3.heap.size x.l w3 hR hn.symm (by have := hin.2.2.2.1; omega) (Nat.le_refl _) hin.2.1
    have hleg : legsAt M i = x.l := by
      unfold legsAt
      rw [hx]
    have HX := Lib.hid hx
    have HXY := Lib.hid hxy
    have HXO := Lib.hid hxo
    have HIN := Lib.hid hin
    have HENT := Lib.hid hent
    have HT := Lib.hid hT
    have HLEG := Lib.hid hleg
    have hlt' : (i : Int) < (M.length : Int) := by omega
    clear hx hin hent hT hR hn hleg hxo hlt
    subst hxy
    unfold entV entC at HT
    go_wp2_with fail
    refine HT.out.mono ?_
    rintro e w4 ⟨t1, t2, t3⟩
    obtain ⟨lo, hlo⟩ : ∃ lo, lowB x.l = lo := ⟨_, rfl⟩
    clear c0 r0 r1 r2 r3 r4 r5 HT
    cases lo with
    | true =>
      obtain ⟨rfl, hb4⟩ := t2 HENT.out hlo
      have HLO := Lib.hid hlo
      have HB4 := Lib.hid (HB3.out.trans (hb4.mono HB3.out.size))
      have HQ4 := Lib.hid (HQ3.out.below hb4 HQ3.out.lt)
      clear hb4 t1 t2 t3 hlo
      have n0 := HQ4.out.cell 0
      have n1 := HQ4.out.cell 1
      have n2 := HQ4.out.cell 2
      have n3 := HQ4.out.cell 3
      simp at n0 n1 n2 n3
      have l4 := HQ4.out.lt
      unfold eno14 at HF
      unfold zeroT
      have HA4 := Lib.hid (b_alloc w4 (.cells #[.int .u32 0, .int .i32 0, .int .u8 0, .int .u32 0, .slice none 0 0] 40))
      obtain ⟨W5, hW5⟩ : ∃ W5, w4.alloc (.cells #[.int .u32 0, .int .i32 0, .int .u8 0, .int .u32 0, .slice none 0 0] 40) = W5 := ⟨_, rfl⟩
      rw [hW5] at HA4
      have HQ5 := Lib.hid (HQ4.out.below HA4.out l4)
      have m0 := HQ5.out.cell 0
      have m1 := HQ5.out.cell 1
      have m2 := HQ5.out.cell 2
      have m3 := HQ5.out.cell 3
      simp at m0 m1 m2 m3
      have HW5 := Lib.hid hW5
      clear hW5 n0 n1 n2 n3
      go_upto_region 5 with (fail)
      rw [HW5.out]
      go_wp2_with fail
      refine (HF.out 12 _).mono ?_
      rintro e w6 ⟨v6, rfl, hf, hb⟩
      have HFF := Lib.hid hf
      have HB6 := Lib.hid hb
      clear hf hb m0 m1 m2 m3
      go_wp2_with fail
      go_ret
      obtain ⟨N, h1, h2, h3⟩ := HFF.out
      have hb5 := HB4.out.trans (HA4.out.mono HB4.out.size)
      refine rev_no (fun j hj => ?_) rfl ⟨N, h1, Nat.le_trans hb5.size h2, ?_⟩ (hb5.trans (HB6.out.mono hb5.size))
      · have e1 := hj.1
        rw [HOL.out] at e1
        cases e1
        have e2 := hj.2.1
        rw [HLEG.out, HLO.out] at e2
        cases e2
      · rw [HOL.out]
        exact h3
    | false =>
      obtain ⟨A4, c4, rfl, ho4, hb4⟩ := t3 HENT.out hlo
      have HLO := Lib.hid hlo
      have HB4 := Lib.hid (HB3.out.trans (hb4.mono HB3.out.size))
      have HQ4 := Lib.hid (HQ3.out.below hb4 HQ3.out.lt)
      have HL4 := Lib.hid (HL3.out.below hb4)
      have HO4 := Lib.hid ho4
      have HS3 := Lib.hid HB3.out.size
      clear hb4 t1 t2 t3 hlo ho4 HL3 HQ3 HB3
      have l4 := HQ4.out.lt
      have HA4 := Lib.hid (b_alloc w4 (.cells #[.int .u32 (x.y.a : Int), .int .i32 x.y.d, .int .u8 (x.y.k : Int), .int .u32 (x.y.s : Int), .slice A4 x.l.length c4] 40))
      have HE5 := Lib.hid (Blk.new w4 40 #[.int .u32 (x.y.a : Int), .int .i32 x.y.d, .int .u8 (x.y.k : Int), .int .u32 (x.y.s : Int), .slice A4 x.l.length c4])
      obtain ⟨W5, hW5⟩ : ∃ W5, w4.alloc (.cells #[.int .u32 (x.y.a : Int), .int .i32 x.y.d, .int .u8 (x.y.k : Int), .int .u32 (x.y.s : Int), .slice A4 x.l.length c4] 40) = W5 := ⟨_, rfl⟩
      rw [hW5] at HA4 HE5
      have HQ5 := Lib.hid (HQ4.out.below HA4.out l4)
      have HL5 := Lib.hid (HL4.out.below HA4.out)
      have HO5 := Lib.hid (HO4.out.below HA4.out)
      have HB5 := Lib.hid (HB4.out.trans (HA4.out.mono HB4.out.size))
      have m0 := HE5.out.cell 0
      have m1 := HE5.out.cell 1
      have m2 := HE5.out.cell 2
      have m3 := HE5.out.cell 3
      have m4 := HE5.out.cell 4
      simp at m0 m1 m2 m3 m4
      have HW5 := Lib.hid hW5
      clear hW5 HQ4 HL4 HO4 HB4 HA4
      have hi1 : IntKind.i64.wrap ((i : Int) + 1) = (i : Int) + 1 := by
        rw [IntKind.wrap_i64]
        omega
      have hO5 := HO5.out
      have hadd := add_any q D M (liveL M) x.y A4 x.l.length c4 (i + 1) (negL x.l) W5 HL5.out (own_lowT hO5 (Nat.zero_le _)) (negL_len _) (HIN.out.2.2.2.1.2) hy (negL_in HIN.out.2.1 HLO.out) (negL_acc HIN.out.2.2.2.2)
        (fun hok => HL5.out.fine.snoc ⟨hy, negL_in HIN.out.2.1 HLO.out, negL_rise HIN.out.2.2.1, by rw [negL_len]; exact HIN.out.2.2.2.1, negL_acc HIN.out.2.2.2.2⟩ hok.1 hok.2 (fun _ => ⟨by simp; omega, x, by simpa using HX.out, HXO.out, rfl⟩) (fun h => by simp at h)) hM
      have HA := Lib.hid hadd
      clear hadd hO5
      unfold linW at HA
      rw [show (((i + 1 : Nat)) : Int) = (i : Int) + 1 from by omega] at HA
      unfold entV entC
      go_upto_region 5 with (fail)
      rw [HW5.out]
      go_wp2_with fail
      refine HA.out.mono ?_
      rintro e w6 ⟨hyes, hno⟩
      by_cases hok : okAdd M x.y.a (negL x.l)
      · obtain ⟨rfl, hcg, D6, hl6, hd6⟩ := hyes hok
        have HCG := Lib.hid hcg
        have HL6 := Lib.hid hl6
        have HD6 := Lib.hid hd6
        have HOK := Lib.hid hok
        have HQ6 := Lib.hid (hcg.blk HQ5.out (fun hh => by have := HD.out _ hh; omega))
        clear hyes hno hcg hl6 hd6 hok HA HQ5 m0 m1 m2 m3 m4
        have n0 := HQ6.out.cell 0
        have n1 := HQ6.out.cell 1
        have n2 := HQ6.out.cell 2
        have n3 := HQ6.out.cell 3
        simp at n0 n1 n2 n3
        obtain ⟨b, inn, hp⟩ := HL6.out.parts (by simp)
        have c1 := hp.cell1
        have l1 := HQ6.out.lt
        have l2 := hp.lt q hp.dq
        have HPP := Lib.hid hp
        clear hp
        obtain ⟨r, hr⟩ : ∃ r, inn x.y.a = some r := by
          cases e : inn x.y.a with
          | some r => exact ⟨r, rfl⟩
          | none =>
            have := HPP.out.live.no x.y e
            rw [HOL.out] at this
            cases this
        have HR := Lib.hid hr
        clear hr
        have k1 : (Instr.lookup 82 (.map (some b)) (.int .u32 (x.y.a : Int)) false).run Tryz.prog w6.drew = .ok (.map (some r)) w6.drew := by
          have := HPP.out.look1 hy.a w6.drew rfl
          rw [HR.out] at this
          exact this
        obtain ⟨w10, hrun2, hm10, ht10⟩ := ((HPP.out.live.at_ _ r HR.out).2.keep (w' := w6.drew) rfl).drop keyKy Tryz.underlying93 (x := x.y) hy 0
        unfold Ky.v at hrun2
        have HM10 := Lib.hid hm10
        have HG10 := Lib.hid ht10.grown
        clear hm10 ht10
        go_wp2_with fail
        go_region
        go_wp2_with fail
        go_ret
        have hG := HG10.out
        have hin := HPP.out.inner (w' := w10) (y := x.y) HR.out none HM10.out (fun i h1 h2 => hG.block i h2 (fun e => h1 (by injection e))) hG.size
        have hled := hin.shut
        rw [rev_live (x := ⟨x.y, negL x.l, i + 1⟩) rfl HOL.out] at hled
        have hd6 : ∀ i, D6 i → D i ∨ w.heap.size ≤ i := fun i hi => by
          rcases HD6.out i hi with h | h | h
          · exact .inl h
          · have h1 := (HO5.out.lt i h).1
            have h2 := HS3.out
            exact .inr (by omega)
          · have h2 := HB5.out.size
            exact .inr (by omega)
        refine ⟨fun j hj => ⟨rfl, ?_, D6, ?_, hd6⟩, fun hh => absurd ⟨HOL.out, by rw [HLEG.out]; exact HLO.out, by rw [HLEG.out]; exact HOK.out⟩ (hh i)⟩
        · have h0 : Chg D w w6 := (Chg.of_below HB5.out).trans HCG.out (fun i h => .inl h)
          exact h0.trans (Chg.turned (D := D6) (show w6.grownBy w10 (some r) from ⟨hG.os, hG.tape, hG.output, hG.size, hG.block⟩) (HPP.out.live.at_ _ r HR.out).1) hd6
        · have e1 := hj.1
          rw [HOL.out] at e1
          cases e1
          rw [HLEG.out]
          exact hled
      · obtain ⟨rfl, hb6⟩ := hno hok
        have HNO := Lib.hid hok
        have HB6 := Lib.hid (HB5.out.trans (hb6.mono HB5.out.size))
        have HQ6 := Lib.hid (HQ5.out.below hb6 HQ5.out.lt)
        clear hyes hno hok HA hb6 m0 m1 m2 m3 m4
        have n0 := HQ6.out.cell 0
        have n1 := HQ6.out.cell 1
        have n2 := HQ6.out.cell 2
        have n3 := HQ6.out.cell 3
        simp at n0 n1 n2 n3
        unfold eno14 at HF
        unfold eno14
        go_wp2_with fail
        refine (HF.out 12 _).mono ?_
        rintro e w7 ⟨v7, rfl, hf, hb7⟩
        have HFF := Lib.hid hf
        have HB7 := Lib.hid hb7
        clear hf hb7 n0 n1 n2 n3
        go_wp2_with fail
        go_ret
        obtain ⟨N, h1, h2, h3⟩ := HFF.out
        refine rev_no (fun j hj => ?_) rfl ⟨N, h1, Nat.le_trans HB6.out.size h2, ?_⟩ (HB6.out.trans (HB7.out.mono HB6.out.size))
        · have e1 := hj.1
          rw [HOL.out] at e1
          cases e1
          have e2 := hj.2.2
          rw [HLEG.out] at e2
          exact HNO.out e2
        · rw [HOL.out]
          exact h3
end Go.Proofs.YtdnnkdldolhbpaaGreatDoor
