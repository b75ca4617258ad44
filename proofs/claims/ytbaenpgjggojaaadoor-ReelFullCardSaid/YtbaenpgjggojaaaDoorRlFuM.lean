/-
ReelFull, walked. Conditions: numbers of their kinds; errors.errorType starts as the program's text lays it.
-/
import Derived.Test.YtbaenpgjggojaaaDoorRlPgM
import Derived.Test.YtbaenpgjggojaaaDoorCodeCM
namespace Go.Proofs.YtbaenpgjggojaaaDoor
open Go.ChangeShapes Go.WideShapes Go.RowKit

theorem makeB16 (n : Nat) (hn : n ≤ 100000) (u : World) :
    (Instr.makeSlice 23 (.int .u16 (n : Int)) (.int .u16 (n : Int))).run Tryd.prog u = .ok (.slice (some ⟨u.heap.size, 0, none⟩) n n) (u.alloc (.cells (madeCells #[.int .u8 0] n) 5)) := by
  obtain ⟨i0, hi, hz0, hz1, hz2⟩ := info_parts infoB
  have h := run_make (P := Tryd.prog) u 23 5 i0 (.int .u8 0) Tryd.underlying23 hi hz0 .u16 .u16 (n : Int) (n : Int) (by omega) (Int.le_refl _) (by rw [hz2]; omega) (by omega)
  simpa [hz1, Value.cells] using h
/-- k bytes of a kind, noughts behind them. -/
def fillL (b : UInt8) (k m : Nat) : List UInt8 := List.replicate k b ++ List.replicate (m - k) 0
theorem fill_set (b : UInt8) (k m : Nat) (h : k < m) : ((fillL b k m).map enc8).toArray.setIfInBounds k (.int .u8 (b.toNat : Int)) = ((fillL b (k + 1) m).map enc8).toArray := by
  unfold fillL
  rw [List.setIfInBounds_toArray, show (Value.int .u8 (b.toNat : Int)) = enc8 b from rfl, ← List.map_set, List.set_append_right _ _ (by simp), List.length_replicate, Nat.sub_self, show m - k = (m - (k + 1)) + 1 from by omega, List.replicate_succ, List.set_cons_zero, List.replicate_succ', List.append_assoc]
  rfl
theorem used_rep (n : Nat) (p : List UInt8) : usedN (List.replicate n p) = n * pagesN p.length := by
  unfold usedN
  rw [List.map_replicate]
  induction n with
  | zero => simp
  | succ n ih => rw [List.replicate_succ, List.sum_cons, ih, Nat.succ_mul, Nat.add_comm]
section
variable {w : World} {N M B : Nat}
set_option maxRecDepth 100000 in
set_option maxHeartbeats 8000000 in
theorem RFull_any (_hn : N < 256) (_hm : M < 65536) (hb : B < 256) (hlw : Laid w) :
    Calls Tryd.prog 4 #[.int .u8 (N : Int), .int .u16 (M : Int), .int .u8 (B : Int)] w fun e w' => e = .returned (.bool true) ∧ Below w.heap.size w w' := by
  have cA := awake15 w
  obtain ⟨h, hh⟩ : ∃ h, 2 + N % 10 = h := ⟨_, rfl⟩
  have hh2 : 2 ≤ h ∧ h ≤ 11 := by omega
  have e1 : (N : Int) % 10 = (h : Int) - 2 := by omega
  have e2 : (2 : Int) + ((h : Int) - 2) = (h : Int) := by omega
  have hhb : (h : Int) ≤ 11 := by omega
  have hhc : (2 : Int) ≤ (h : Int) := by omega
  obtain ⟨m, hmm⟩ : ∃ m, M % 900 = m := ⟨_, rfl⟩
  have hm9 : m < 900 := by omega
  have e3 : (M : Int) % 900 = (m : Int) := by omega
  have hmb : (m : Int) < 900 := by omega
  obtain ⟨b, hbb⟩ : ∃ b : UInt8, b.toNat = B := ⟨UInt8.ofNat B, by simp [UInt8.toNat_ofNat']; omega⟩
  subst hbb
  have HL := Lib.hid hlw
  have HN := Lib.hid (And.intro hh2 hm9)
  clear _hn _hm hb hlw hh hmm hh2
  go_enter Tryd.func4, Tryd.ntmps4
  go_wp2_with fail
  refine cA.mono ?_
  rintro e w1 ⟨rfl, hb1⟩
  clear cA
  have HB1 := Lib.hid hb1
  clear hb1
  have cN := New_dr (2 + 2 * h) (by omega) (by omega) w1
  rw [show ((2 + 2 * h : Nat) : Int) = 2 + 2 * (h : Int) from by omega] at cN
  go_wp2_with fail
  refine cN.mono ?_
  rintro e w2 ⟨d, o2, rfl, hd2, hb2⟩
  have hfl : (List.replicate (2 + 2 * h) zeros).length = 2 + 2 * h := List.length_replicate
  obtain ⟨fl, hfle⟩ : ∃ f, List.replicate (2 + 2 * h) zeros = f := ⟨_, rfl⟩
  rw [hfle] at hd2 hfl
  have HB2 := Lib.hid (And.intro (HB1.out.trans (hb2.mono HB1.out.size)) (And.intro hd2 (And.intro hfl (And.intro HB1.out hb2))))
  clear cN hd2 hb2 hfl hfle e1 e2
  have hmk := makeB16 m (by omega) w2
  obtain ⟨q, hq⟩ : ∃ q, w2.heap.size = q := ⟨_, rfl⟩
  have hb3 : Below w2.heap.size w2 (w2.alloc (.cells (madeCells #[.int .u8 0] m) 5)) := (Below.refl _ _).alloc (Nat.le_refl _) _
  have hk3 : Blk (w2.alloc (.cells (madeCells #[.int .u8 0] m) 5)) w2.heap.size 5 ((fillL b 0 m).map enc8).toArray := by
    have e : madeCells #[(.int .u8 0 : Value)] m = ((fillL b 0 m).map enc8).toArray := by
      apply Array.toList_inj.1
      rw [toList_madeCells_one]
      unfold fillL
      simp
      exact .inr rfl
    rw [e]
    exact Blk.new w2 _ _
  obtain ⟨w3, hw3⟩ : ∃ W, w2.alloc (.cells (madeCells #[.int .u8 0] m) 5) = W := ⟨_, rfl⟩
  rw [hw3] at hmk hb3 hk3
  rw [hq] at hmk hk3
  have H3 := Lib.hid (And.intro hk3 (And.intro hb3 hq))
  clear hw3 hk3 hb3 hq
  go_wp2_with fail
  go_loopw [11, 34] (fun _ i wr => ∃ k : Nat, k ≤ m ∧ i = .int .i64 (k : Int) ∧ Blk wr q 5 ((fillL b k m).map enc8).toArray ∧ Below w2.heap.size w2 wr) (fun _ i _ => m - (intOf i).toNat)
  case atStart => exact ⟨0, Nat.zero_le _, rfl, H3.out.1, H3.out.2.1⟩
  case round =>
    obtain ⟨k, hk, rfl, hbk, hbw⟩ := hrel
    by_cases hlt : k < m
    · have hlt2 : (k : Int) < (m : Int) := by omega
      have s1 := hbk.frozen k
      obtain ⟨u0, s0⟩ : ∃ u, wr.cell? ⟨q, k, none⟩ = some u := by
        rw [hbk.cell k, List.getElem?_toArray]
        exact ⟨_, List.getElem?_eq_getElem (by unfold fillL; simp; omega)⟩
      have hn2 := hbk.set_ k (.int .u8 (b.toNat : Int))
      rw [fill_set b k m hlt] at hn2
      have HR := Lib.hid (And.intro hn2 (hbw.setCell (p := ⟨q, k, none⟩) (by rw [H3.out.2.2]; exact Nat.le_refl _) (.int .u8 (b.toNat : Int))))
      clear hn2 hbk hbw hlt
      go_wp2_with fail
      go_roundw
      case rel => exact ⟨k + 1, by omega, congrArg (Value.int .i64) (by omega), HR.out.1, HR.out.2⟩
      case measure => simp [intOf]; omega
    · have hlt2 : ¬ (k : Int) < (m : Int) := by omega
      have hkn : k = m := by omega
      subst hkn
      have hfill : fillL b k k = List.replicate k b := by unfold fillL; simp
      rw [hfill] at hbk
      have H4 := Lib.hid (And.intro hbk hbw)
      have cP := RPages_any k (by omega) wr
      have hpb := pages_bounds k
      obtain ⟨K, hK⟩ : ∃ K, pagesN k = K := ⟨_, rfl⟩
      rw [hK] at cP hpb
      have hKb : (K : Int) ≤ 5 := by omega
      have hKb1 : (1 : Int) ≤ (K : Int) := by omega
      have HK := Lib.hid (And.intro hK hpb)
      clear hbk hbw hlt hfill hK hpb
      go_wp2_with fail
      refine cP.mono ?_
      rintro e wP ⟨rfl, rfl⟩
      clear cP
      have hd4 := HB2.out.2.1.below H4.out.2
      have cM := Make_dr (base := w1.heap.size) (o := o2) (fl := fl) (ws := []) (av := fun i => i = q) (b := List.replicate k b) (m := k) (q := k) (A := some ⟨q, 0, none⟩) hd4 (by rw [HB2.out.2.2.1]; omega) (by decide) (rdq_blk H4.out.1) (fun i hi h => by have := HB2.out.2.1.lt i h; have := H3.out.2.2; omega) (by simp) (Nat.le_refl _) (by omega)
      have hhalf : halfN fl.length = h := by rw [HB2.out.2.2.1]; unfold halfN; omega
      rw [hhalf] at cM
      have HH := Lib.hid hhalf
      by_cases hKh : h < K
      · have hF : fitsN k (h : Int) = 6 := by
          unfold fitsN
          rw [if_neg (by omega), if_pos (by rw [HK.out.1]; omega)]
        rw [hF] at cM
        have hg1 : (h : Int) < (K : Int) := by omega
        clear hd4 hhalf hF hKh
        go_wp2_with fail
        refine cM.mono ?_
        rintro e w5 (⟨h1, -⟩ | ⟨-, -, rfl, hb5⟩ | ⟨-, h1, -⟩)
        · have := HB2.out.2.2.1; have := HN.out; omega
        · have hbF := HB2.out.1.trans ((H4.out.2.mono HB2.out.1.size).trans (hb5.mono (Nat.le_trans HB2.out.1.size H4.out.2.size)))
          have c6 := Code_errno 6 w5 (HL.out.below hbF)
          have hd5 := HB2.out.2.1.below (H4.out.2.trans (hb5.mono H4.out.2.size))
          have cD := fun W (hW : Below w5.heap.size w5 W) => Dirty_dr (hd5.below hW)
          have HBF := Lib.hid hbF
          clear cM hd5 hbF hb5
          rw [errV_pos (by decide)]
          go_wp2_with fail
          refine c6.mono ?_
          rintro e w6 ⟨rfl, hb6⟩
          have cD6 := cD w6 hb6
          have HBF6 := Lib.hid (HBF.out.trans (hb6.mono HBF.out.size))
          clear c6 cD hb6
          go_wp2_with fail
          refine cD6.mono ?_
          rintro e w7 ⟨rfl, hw7⟩
          have hw7 := hw7
          subst hw7
          clear cD6
          go_wp2_with fail
          go_ret
          exact ⟨rfl, HBF6.out⟩
        · exact absurd h1 (by decide)
      · have hF : fitsN k (h : Int) = 0 := by
          unfold fitsN
          rw [if_neg (by omega), if_neg (by rw [HK.out.1]; omega)]
        have hg1 : ¬ (h : Int) < (K : Int) := by omega
        have hgd : decide (h < K) = false := decide_eq_false hKh
        have hP : (List.replicate k b).length = k := List.length_replicate
        obtain ⟨P, hPe⟩ : ∃ P, List.replicate k b = P := ⟨_, rfl⟩
        rw [hPe] at hP
        have hk4 := H4.out.1
        rw [hPe] at hk4
        have cM := make_sg (base := w1.heap.size) (o := o2) (fl := fl) (ws := []) (av := fun i => i = q) (b := P) (m := k) (q := k) (A := some ⟨q, 0, none⟩) hd4 (by have := HB2.out.2.2.2.2.size; have := H4.out.2.size; omega) (by rw [HB2.out.2.2.1]; have := HN.out; omega) (by rw [HB2.out.2.2.1]; have := HN.out; omega) (by decide) (rdq_blk hk4) (fun i hi h => by have := HB2.out.2.1.lt i h; have := H3.out.2.2; omega) hP (Nat.le_refl _) (by omega) (by rw [hhalf]; exact hF)
        obtain ⟨Q, hQ⟩ : ∃ Q, h / K = Q := ⟨_, rfl⟩
        obtain ⟨R, hR⟩ : ∃ R, h % K = R := ⟨_, rfl⟩
        have hq1 : (h : Int).tdiv (K : Int) = (Q : Int) := by rw [Int.tdiv_eq_ediv_of_nonneg (by omega), ← hQ]; exact (Int.natCast_ediv h K).symm
        have hq2 : (h : Int).tmod (K : Int) = (R : Int) := by rw [Int.tmod_eq_emod_of_nonneg (by omega), ← hR]; exact (Int.natCast_emod h K).symm
        have hq3 : (h : Int) / (K : Int) = (Q : Int) := by rw [← hQ]; exact (Int.natCast_ediv h K).symm
        have hq0 : ¬ (K : Int) = 0 := by omega
        have hQm : Q * K + R = h := by rw [← hQ, ← hR, Nat.mul_comm]; exact Nat.div_add_mod h K
        have hQ1 : 1 ≤ Q := by rw [← hQ]; exact Nat.div_pos (by omega) (by omega)
        have hRK : R < K := by rw [← hR]; exact Nat.mod_lt _ (by omega)
        have hQb : (Q : Int) ≤ 11 := by rw [← hQ]; have := Nat.div_le_self h K; omega
        have HQ := Lib.hid (And.intro hQm (And.intro hQ1 (And.intro hRK (And.intro hP (And.intro hk4 hF)))))
        have hge := HB2.out.2.1.ge
        have HQ2 := Lib.hid hge
        have hqn : ¬ K = 0 := by omega
        have hqw : IntKind.i64.wrap (Q : Int) = (Q : Int) := by rw [IntKind.wrap_i64]; omega
        have HQN := Lib.hid (And.intro hqn hqw)
        clear hqn hqw
        clear hd4 hhalf hF hKh hQ hR hPe hQm hQ1 hRK hk4 hP hge
        go_wp2_with fail
        refine cM.mono ?_
        rintro e w5 ⟨r, own5, fl5, rfl, hr5, hl5, sg5, ks5⟩
        have hl5 : fl5.length = 2 + 2 * h := hl5.trans HB2.out.2.2.1
        have hh5 : halfN fl5.length = h := by rw [hl5]; unfold halfN; omega
        have hbw : Below w.heap.size w wP := HB2.out.1.trans (H4.out.2.mono HB2.out.1.size)
        have hw1 := HB2.out.2.2.2.1.size
        have hb5 : Below w.heap.size w w5 := kept_below ks5.1 hbw hbw.size (fun i hi => Nat.le_trans hw1 (HQ2.out i hi))
        have hqo : ¬ o2 q := fun e => by have := HB2.out.2.1.lt q e; have := H3.out.2.2; omega
        have hql := HQ.out.2.2.2.2.1.lt
        have hk5 : Blk w5 q 5 (P.map enc8).toArray := (ks5.1.block q hql hqo).trans HQ.out.2.2.2.2.1
        have HR5 := Lib.hid (And.intro sg5 (And.intro hb5 (And.intro hk5 (And.intro (fun e => hqo (ks5.2 q hql e)) (And.intro hl5 hh5)))))
        clear cM hr5 hl5 hh5 hbw hw1 hb5 hqo hql hk5 sg5 ks5
        go_wp2_with fail
        go_loopw [72] (fun i wr => ∃ j : Nat, j + 1 ≤ Q ∧ i = .int .i64 (j : Int) ∧ ∃ own ws, Sg wr w1.heap.size d r 1 own fl5 ws (List.replicate (j + 1) P) ∧ ws.length ≤ 5 * j ∧ Blk wr q 5 (P.map enc8).toArray ∧ ¬ own q ∧ Below w.heap.size w wr) (fun i _ => Q - (intOf i).toNat)
        case atStart => exact ⟨0, HQ.out.2.1, rfl, own5, [], HR5.out.1, by simp, HR5.out.2.2.1, HR5.out.2.2.2.1, HR5.out.2.1⟩
        case round =>
          obtain ⟨j, hj, rfl, own, ws, sg, hws, hkq, hoq, hbw⟩ := hrel
          have hPl := HQ.out.2.2.2.1
          have hus : usedN (List.replicate (j + 1) P) = (j + 1) * K := by rw [used_rep, hPl, HK.out.1]
          have hjb : (j : Int) ≤ 11 := by omega
          by_cases hlt : j + 1 < Q
          · have hlt2 : (j : Int) < (Q : Int) - 1 := by omega
            have hmu := Nat.mul_le_mul_right K (show j + 2 ≤ Q by omega)
            have e2 : (j + 2) * K = (j + 1) * K + K := by rw [show j + 2 = (j + 1) + 1 from rfl, Nat.succ_mul (j + 1)]
            have cA := sg.append (by simp; omega) (by omega) (rdq_blk hkq) (fun i hi h => hoq (hi ▸ h)) hPl (Nat.le_refl _) (by omega) (by
              rw [HR5.out.2.2.2.2.2, hus]
              unfold fitsN
              have := HQ.out.1
              rw [if_neg (by omega), if_neg (by rw [HK.out.1]; omega)])
            have HJ := Lib.hid (And.intro sg (And.intro hws (And.intro hkq (And.intro hoq hbw))))
            clear sg hws hkq hoq hbw hus hlt hmu e2 hPl
            go_wp2_with fail
            refine cA.mono ?_
            rintro e w6 ⟨rfl, own6, sg6, ks6⟩
            have hge := HJ.out.1.rl.ge HJ.out.1.far
            have hw1 := HB2.out.2.2.2.1.size
            have hb6 : Below w.heap.size w w6 := kept_below ks6.1 HJ.out.2.2.2.2 HJ.out.2.2.2.2.size (fun i hi => Nat.le_trans hw1 (hge i hi))
            have hql := HJ.out.2.2.1.lt
            have hk6 : Blk w6 q 5 (P.map enc8).toArray := (ks6.1.block q hql HJ.out.2.2.2.1).trans HJ.out.2.2.1
            have HS := Lib.hid (And.intro sg6 (And.intro hb6 (And.intro hk6 (fun e => HJ.out.2.2.2.1 (ks6.2 q hql e)))))
            clear cA sg6 ks6 hge hw1 hb6 hql hk6
            go_wp2_with fail
            go_roundw
            case rel => exact ⟨j + 1, by omega, congrArg (Value.int .i64) (by omega), own6, _, by rw [List.replicate_succ' (n := j + 1)]; exact HS.out.1, by rw [addW_len, HQ.out.2.2.2.1, HK.out.1]; have := HJ.out.2.1; omega, HS.out.2.2.1, HS.out.2.2.2, HS.out.2.1⟩
            case measure => simp [intOf]; omega
          · have hlt2 : ¬ (j : Int) < (Q : Int) - 1 := by omega
            have hjQ : j + 1 = Q := by omega
            rw [hjQ] at sg hus
            clear hlt
            have HJ := Lib.hid (And.intro sg (And.intro hkq (And.intro hoq (And.intro hbw hus))))
            obtain ⟨o9, hd9, -⟩ := sg.dr
            have cD := Dirty_dr hd9
            have hDb : (ws.length : Int) ≤ 100 := by omega
            obtain ⟨D, hD⟩ : ∃ D, ws.length = D := ⟨_, rfl⟩
            rw [hD] at cD hDb
            have hqn := HQN.out.1
            have hqw := HQN.out.2
            have gA : ∀ W, Below wr.heap.size wr W → Calls Tryd.prog 23 #[.pointer (some ⟨r, 0, none⟩), .slice (some ⟨q, 0, none⟩) k k] W fun e w' => e = .returned (.iface 38 (.int .i64 6)) ∧ Below W.heap.size W w' := fun W hb => by
              have h9 := (HJ.out.1.below hb).full (F := 6) (by omega) (rdq_blk (HJ.out.2.1.below hb HJ.out.2.1.lt)) (fun i hi h => HJ.out.2.2.1 (hi ▸ h)) hPl (Nat.le_refl k) (by omega) (by
                rw [HR5.out.2.2.2.2.2, HJ.out.2.2.2.2]
                unfold fitsN
                have := HQ.out.1
                have := HQ.out.2.2.1
                rw [if_neg (by omega), if_pos (by rw [HK.out.1]; omega)]) (by decide)
              rw [errV_pos (by decide)] at h9
              exact h9
            have gC : ∀ W, Below wr.heap.size wr W → Calls Tryd.prog 13 #[.iface 38 (.int .i64 6)] W fun e w' => e = .returned (.int .i64 6) ∧ Below W.heap.size W w' := fun W hb => Code_errno 6 W (HL.out.below (HJ.out.2.2.2.1.trans (hb.mono HJ.out.2.2.2.1.size)))
            have gD : ∀ W, Below wr.heap.size wr W → Calls Tryd.prog 22 #[.pointer (some ⟨d, 0, none⟩)] W fun e w' => e = .returned (.int .i64 (D : Int)) ∧ Below W.heap.size W w' := fun W hb => (Dirty_dr (hd9.below hb)).mono fun e w' ⟨h1, h2⟩ => ⟨by rw [h1, hD], by rw [h2]; exact Below.refl _ _⟩
            have gN : ∀ W, Below wr.heap.size wr W → Calls Tryd.prog 19 #[.pointer (some ⟨r, 0, none⟩)] W fun e w' => e = .returned (.int .i64 (Q : Int)) ∧ Below W.heap.size W w' := fun W hb => ((HJ.out.1.below hb).count).mono fun e w' ⟨h1, h2⟩ => ⟨by rw [h1, List.length_replicate], by rw [h2]; exact Below.refl _ _⟩
            have gR : ∀ W, Below wr.heap.size wr W → Calls Tryd.prog 14 #[.pointer (some ⟨r, 0, none⟩)] W fun e w' => e = .returned (.int .i64 (R : Int)) ∧ Below W.heap.size W w' := fun W hb => ((HJ.out.1.below hb).room).mono fun e w' ⟨h1, m9, h2⟩ => ⟨by
              rw [h1, HR5.out.2.2.2.2.2, HJ.out.2.2.2.2]
              have := HQ.out.1
              exact congrArg (fun x => Ending.returned (Value.int .i64 x)) (by omega), by rw [h2]; exact below_drewN (Below.refl _ _) _⟩
            have gP : ∀ W, Below wr.heap.size wr W → Calls Tryd.prog 24 #[.int .i64 (k : Int)] W fun e w' => e = .returned (.int .i64 (K : Int)) ∧ Below W.heap.size W w' := fun W hb => (Pages_any k (by omega) W).mono fun e w' ⟨h1, h2⟩ => ⟨by rw [h1, HK.out.1], by rw [h2]; exact Below.refl _ _⟩
            have cT := fun W (hb : Below wr.heap.size wr W) => (HJ.out.1.below hb).turn (by decide) (by omega) (rdq_blk (HJ.out.2.1.below hb HJ.out.2.1.lt)) (fun i hi h => HJ.out.2.2.1 (hi ▸ h)) hPl (Nat.le_refl k) (by omega) (by rw [HR5.out.2.2.2.2.2]; exact HQ.out.2.2.2.2.2)
            have HQN2 := Lib.hid (And.intro hqn hqw)
            clear sg hkq hoq hbw hus hqn hqw
            go_wp2_with fail
            refine cD.mono ?_
            rintro e w7 ⟨rfl, hw7⟩
            subst hw7
            clear cD
            go_wp2_with fail
            have hqn := HQN2.out.1
            have hqw := HQN2.out.2
            refine wp_region_flow [some 81, some 82, some 83, some 84, some 85, some 86, some 87, some 88, some 89, some 90, some 91, some 92, some 93, some 94, some 95, some 96, some 97, some 98, some 99, some 100, some 101, some 102, some 103, some 104, some 105, some 106, some 107, some 108, some 109, some 110, some 111, some 112, some 113, some 114] (fun i => ([.is (.pointer (some ⟨r, 0, none⟩)), .is (.slice (some ⟨q, 0, none⟩) k k), .is (.iface 38 (.int .i64 6)), .is (.int .i64 6), .is (.bool false), .is (.bool false), .is (.pointer (some ⟨d, 0, none⟩)), .is (.int .i64 (D : Int)), .is (.int .i64 (D : Int)), .is (.bool false), .is (.bool false), .is (.bool false), .is (.pointer (some ⟨r, 0, none⟩)), .is (.int .i64 (Q : Int)), .is (.int .i64 (h : Int)), .is (.int .i64 (K : Int)), .is (.int .i64 (Q : Int)), .is (.bool false), .is (.bool false), .is (.bool false), .is (.pointer (some ⟨r, 0, none⟩)), .is (.int .i64 (R : Int)), .is (.int .i64 (h : Int)), .is (.int .i64 (K : Int)), .is (.int .i64 (R : Int)), .is (.bool false), .is (.bool false), .is (.bool false), .is (.slice (some ⟨q, 0, none⟩) k k), .is (.int .i64 (k : Int)), .is (.int .i64 (K : Int)), .is (.int .i64 (K : Int)), .is (.bool false), .is (.bool false)] : List Flw).getD i .any) (by kernel_rfl) (by kernel_rfl) rfl ?_ ?_
            · skip
              refine ⟨step_free rfl (fun aF wF hs hb => ?_), ?_⟩
              · obtain ⟨x0, -⟩ := hs
                have e0 : aF.eval (.tmp 13) = .pointer (some ⟨r, 0, none⟩) := x0
                exact opC_move e0 ⟨rfl, below_same wF⟩
              refine ⟨step_free rfl (fun aF wF hs hb => ?_), ?_⟩
              · obtain ⟨x0, -⟩ := hs
                have e0 : aF.eval (.tmp 10) = .slice (some ⟨q, 0, none⟩) k k := x0
                exact opC_move e0 ⟨rfl, below_same wF⟩
              refine ⟨step_free rfl (fun aF wF hs hb => ?_), ?_⟩
              · obtain ⟨x0, x1, -⟩ := hs
                have e0 : aF.eval (.tmp 81) = .pointer (some ⟨r, 0, none⟩) := x0
                have e1 : aF.eval (.tmp 82) = .slice (some ⟨q, 0, none⟩) k k := x1
                exact opC_call (args := #[.pointer (some ⟨r, 0, none⟩), .slice (some ⟨q, 0, none⟩) k k]) (enters_of Tryd.func23 (by kernel_rfl) rfl) (by simp [e0, e1]) (gA wF hb) (fun _ h => ⟨rfl, h⟩)
              refine ⟨step_free rfl (fun aF wF hs hb => ?_), ?_⟩
              · obtain ⟨x0, -⟩ := hs
                have e0 : aF.eval (.tmp 83) = .iface 38 (.int .i64 6) := x0
                exact opC_call (args := #[.iface 38 (.int .i64 6)]) (enters_of Tryd.func13 (by kernel_rfl) rfl) (by simp [e0]) (gC wF hb) (fun _ h => ⟨rfl, h⟩)
              refine ⟨step_free rfl (fun aF wF hs hb => ?_), ?_⟩
              · obtain ⟨x0, -⟩ := hs
                have e0 : aF.eval (.tmp 84) = .int .i64 6 := x0
                refine opC_value (v := .bool false) ?_ ⟨rfl, below_same wF⟩
                have t0 := ev_of e0
                simp [execOp, go_sem, t0]
              refine ⟨step_free rfl (fun aF wF hs hb => ?_), ?_⟩
              · obtain ⟨x0, -⟩ := hs
                have e0 : aF.eval (.tmp 85) = .bool false := x0
                exact opC_move e0 ⟨rfl, below_same wF⟩
              refine ⟨step_yes 5 86 rfl rfl (fun _ _ h => h) (fun aF wF hs hb => ?_), ?_⟩
              · obtain ⟨x0, -⟩ := hs
                have e0 : aF.eval (.tmp 8) = .pointer (some ⟨d, 0, none⟩) := x0
                exact opC_move e0 ⟨rfl, below_same wF⟩
              refine ⟨step_yes 5 86 rfl rfl (fun _ _ h => h) (fun aF wF hs hb => ?_), ?_⟩
              · obtain ⟨x0, -⟩ := hs
                have e0 : aF.eval (.tmp 87) = .pointer (some ⟨d, 0, none⟩) := x0
                exact opC_call (args := #[.pointer (some ⟨d, 0, none⟩)]) (enters_of Tryd.func22 (by kernel_rfl) rfl) (by simp [e0]) (gD wF hb) (fun _ h => ⟨rfl, h⟩)
              refine ⟨step_yes 5 86 rfl rfl (fun _ _ h => h) (fun aF wF hs hb => ?_), ?_⟩
              · obtain ⟨x0, -⟩ := hs
                have e0 : aF.eval (.tmp 15) = .int .i64 (D : Int) := x0
                exact opC_move e0 ⟨rfl, below_same wF⟩
              refine ⟨step_yes 5 86 rfl rfl (fun _ _ h => h) (fun aF wF hs hb => ?_), ?_⟩
              · obtain ⟨x0, x1, -⟩ := hs
                have e0 : aF.eval (.tmp 88) = .int .i64 (D : Int) := x0
                have e1 : aF.eval (.tmp 89) = .int .i64 (D : Int) := x1
                refine opC_value (v := .bool false) ?_ ⟨rfl, below_same wF⟩
                have t0 := ev_of e0
                have t1 := ev_of e1
                simp [execOp, go_sem, t0, t1]
              refine ⟨step_free rfl (fun aF wF hs hb => ?_), ?_⟩
              · obtain ⟨x0, x1, -⟩ := hs
                have e0 : aF.eval (.tmp 86) = .bool false := x0
                have e1 : aF.eval (.tmp 90) = .bool false := x1
                refine opC_value (v := .bool false) ?_ ⟨rfl, below_same wF⟩
                have t0 := ev_of e0
                have t1 := ev_of e1
                simp [execOp, go_sem, t0, t1]
              refine ⟨step_free rfl (fun aF wF hs hb => ?_), ?_⟩
              · obtain ⟨x0, -⟩ := hs
                have e0 : aF.eval (.tmp 91) = .bool false := x0
                exact opC_move e0 ⟨rfl, below_same wF⟩
              refine ⟨step_yes 11 92 rfl rfl (fun _ _ h => h) (fun aF wF hs hb => ?_), ?_⟩
              · obtain ⟨x0, -⟩ := hs
                have e0 : aF.eval (.tmp 13) = .pointer (some ⟨r, 0, none⟩) := x0
                exact opC_move e0 ⟨rfl, below_same wF⟩
              refine ⟨step_yes 11 92 rfl rfl (fun _ _ h => h) (fun aF wF hs hb => ?_), ?_⟩
              · obtain ⟨x0, -⟩ := hs
                have e0 : aF.eval (.tmp 93) = .pointer (some ⟨r, 0, none⟩) := x0
                exact opC_call (args := #[.pointer (some ⟨r, 0, none⟩)]) (enters_of Tryd.func19 (by kernel_rfl) rfl) (by simp [e0]) (gN wF hb) (fun _ h => ⟨rfl, h⟩)
              refine ⟨step_yes 11 92 rfl rfl (fun _ _ h => h) (fun aF wF hs hb => ?_), ?_⟩
              · obtain ⟨x0, -⟩ := hs
                have e0 : aF.eval (.tmp 7) = .int .i64 (h : Int) := x0
                exact opC_move e0 ⟨rfl, below_same wF⟩
              refine ⟨step_yes 11 92 rfl rfl (fun _ _ h => h) (fun aF wF hs hb => ?_), ?_⟩
              · obtain ⟨x0, -⟩ := hs
                have e0 : aF.eval (.tmp 12) = .int .i64 (K : Int) := x0
                exact opC_move e0 ⟨rfl, below_same wF⟩
              refine ⟨step_yes 11 92 rfl rfl (fun _ _ h => h) (fun aF wF hs hb => ?_), ?_⟩
              · obtain ⟨x0, x1, -⟩ := hs
                have e0 : aF.eval (.tmp 95) = .int .i64 (h : Int) := x0
                have e1 : aF.eval (.tmp 96) = .int .i64 (K : Int) := x1
                refine opC_value (v := .int .i64 (Q : Int)) ?_ ⟨rfl, below_same wF⟩
                have t0 := ev_of e0
                have t1 := ev_of e1
                simp [execOp, go_sem, t0, t1, hq1, hqn, hqw]
              refine ⟨step_yes 11 92 rfl rfl (fun _ _ h => h) (fun aF wF hs hb => ?_), ?_⟩
              · obtain ⟨x0, x1, -⟩ := hs
                have e0 : aF.eval (.tmp 94) = .int .i64 (Q : Int) := x0
                have e1 : aF.eval (.tmp 97) = .int .i64 (Q : Int) := x1
                refine opC_value (v := .bool false) ?_ ⟨rfl, below_same wF⟩
                have t0 := ev_of e0
                have t1 := ev_of e1
                simp [execOp, go_sem, t0, t1]
              refine ⟨step_free rfl (fun aF wF hs hb => ?_), ?_⟩
              · obtain ⟨x0, x1, -⟩ := hs
                have e0 : aF.eval (.tmp 92) = .bool false := x0
                have e1 : aF.eval (.tmp 98) = .bool false := x1
                refine opC_value (v := .bool false) ?_ ⟨rfl, below_same wF⟩
                have t0 := ev_of e0
                have t1 := ev_of e1
                simp [execOp, go_sem, t0, t1]
              refine ⟨step_free rfl (fun aF wF hs hb => ?_), ?_⟩
              · obtain ⟨x0, -⟩ := hs
                have e0 : aF.eval (.tmp 99) = .bool false := x0
                exact opC_move e0 ⟨rfl, below_same wF⟩
              refine ⟨step_yes 19 100 rfl rfl (fun _ _ h => h) (fun aF wF hs hb => ?_), ?_⟩
              · obtain ⟨x0, -⟩ := hs
                have e0 : aF.eval (.tmp 13) = .pointer (some ⟨r, 0, none⟩) := x0
                exact opC_move e0 ⟨rfl, below_same wF⟩
              refine ⟨step_yes 19 100 rfl rfl (fun _ _ h => h) (fun aF wF hs hb => ?_), ?_⟩
              · obtain ⟨x0, -⟩ := hs
                have e0 : aF.eval (.tmp 101) = .pointer (some ⟨r, 0, none⟩) := x0
                exact opC_call (args := #[.pointer (some ⟨r, 0, none⟩)]) (enters_of Tryd.func14 (by kernel_rfl) rfl) (by simp [e0]) (gR wF hb) (fun _ h => ⟨rfl, h⟩)
              refine ⟨step_yes 19 100 rfl rfl (fun _ _ h => h) (fun aF wF hs hb => ?_), ?_⟩
              · obtain ⟨x0, -⟩ := hs
                have e0 : aF.eval (.tmp 7) = .int .i64 (h : Int) := x0
                exact opC_move e0 ⟨rfl, below_same wF⟩
              refine ⟨step_yes 19 100 rfl rfl (fun _ _ h => h) (fun aF wF hs hb => ?_), ?_⟩
              · obtain ⟨x0, -⟩ := hs
                have e0 : aF.eval (.tmp 12) = .int .i64 (K : Int) := x0
                exact opC_move e0 ⟨rfl, below_same wF⟩
              refine ⟨step_yes 19 100 rfl rfl (fun _ _ h => h) (fun aF wF hs hb => ?_), ?_⟩
              · obtain ⟨x0, x1, -⟩ := hs
                have e0 : aF.eval (.tmp 103) = .int .i64 (h : Int) := x0
                have e1 : aF.eval (.tmp 104) = .int .i64 (K : Int) := x1
                refine opC_value (v := .int .i64 (R : Int)) ?_ ⟨rfl, below_same wF⟩
                have t0 := ev_of e0
                have t1 := ev_of e1
                simp [execOp, go_sem, t0, t1, hq2, hqn]
              refine ⟨step_yes 19 100 rfl rfl (fun _ _ h => h) (fun aF wF hs hb => ?_), ?_⟩
              · obtain ⟨x0, x1, -⟩ := hs
                have e0 : aF.eval (.tmp 102) = .int .i64 (R : Int) := x0
                have e1 : aF.eval (.tmp 105) = .int .i64 (R : Int) := x1
                refine opC_value (v := .bool false) ?_ ⟨rfl, below_same wF⟩
                have t0 := ev_of e0
                have t1 := ev_of e1
                simp [execOp, go_sem, t0, t1]
              refine ⟨step_free rfl (fun aF wF hs hb => ?_), ?_⟩
              · obtain ⟨x0, x1, -⟩ := hs
                have e0 : aF.eval (.tmp 100) = .bool false := x0
                have e1 : aF.eval (.tmp 106) = .bool false := x1
                refine opC_value (v := .bool false) ?_ ⟨rfl, below_same wF⟩
                have t0 := ev_of e0
                have t1 := ev_of e1
                simp [execOp, go_sem, t0, t1]
              refine ⟨step_free rfl (fun aF wF hs hb => ?_), ?_⟩
              · obtain ⟨x0, -⟩ := hs
                have e0 : aF.eval (.tmp 107) = .bool false := x0
                exact opC_move e0 ⟨rfl, below_same wF⟩
              refine ⟨step_yes 27 108 rfl rfl (fun _ _ h => h) (fun aF wF hs hb => ?_), ?_⟩
              · obtain ⟨x0, -⟩ := hs
                have e0 : aF.eval (.tmp 10) = .slice (some ⟨q, 0, none⟩) k k := x0
                exact opC_move e0 ⟨rfl, below_same wF⟩
              refine ⟨step_yes 27 108 rfl rfl (fun _ _ h => h) (fun aF wF hs hb => ?_), ?_⟩
              · obtain ⟨x0, -⟩ := hs
                have e0 : aF.eval (.tmp 109) = .slice (some ⟨q, 0, none⟩) k k := x0
                refine opC_value (v := .int .i64 (k : Int)) ?_ ⟨rfl, below_same wF⟩
                have t0 := ev_of e0
                simp [go_sem, t0]
              refine ⟨step_yes 27 108 rfl rfl (fun _ _ h => h) (fun aF wF hs hb => ?_), ?_⟩
              · obtain ⟨x0, -⟩ := hs
                have e0 : aF.eval (.tmp 110) = .int .i64 (k : Int) := x0
                exact opC_call (args := #[.int .i64 (k : Int)]) (enters_of Tryd.func24 (by kernel_rfl) rfl) (by simp [e0]) (gP wF hb) (fun _ h => ⟨rfl, h⟩)
              refine ⟨step_yes 27 108 rfl rfl (fun _ _ h => h) (fun aF wF hs hb => ?_), ?_⟩
              · obtain ⟨x0, -⟩ := hs
                have e0 : aF.eval (.tmp 12) = .int .i64 (K : Int) := x0
                exact opC_move e0 ⟨rfl, below_same wF⟩
              refine ⟨step_yes 27 108 rfl rfl (fun _ _ h => h) (fun aF wF hs hb => ?_), ?_⟩
              · obtain ⟨x0, x1, -⟩ := hs
                have e0 : aF.eval (.tmp 111) = .int .i64 (K : Int) := x0
                have e1 : aF.eval (.tmp 112) = .int .i64 (K : Int) := x1
                refine opC_value (v := .bool false) ?_ ⟨rfl, below_same wF⟩
                have t0 := ev_of e0
                have t1 := ev_of e1
                simp [execOp, go_sem, t0, t1]
              refine ⟨step_free rfl (fun aF wF hs hb => ?_), ?_⟩
              · obtain ⟨x0, x1, -⟩ := hs
                have e0 : aF.eval (.tmp 108) = .bool false := x0
                have e1 : aF.eval (.tmp 113) = .bool false := x1
                refine opC_value (v := .bool false) ?_ ⟨rfl, below_same wF⟩
                have t0 := ev_of e0
                have t1 := ev_of e1
                simp [execOp, go_sem, t0, t1]
              exact trivial
            · intro fv w9 hf hb9
              have e114 : fv 33 = .bool false := hf 33 114 rfl
              simp only [putF, Act.put, List.setIfInBounds_toArray, List.set_cons_zero, List.set_cons_succ]
              rw [e114]
              have cT9 := cT w9 hb9
              have HB9 := Lib.hid hb9
              clear hqn hqw hf hb9 e114 gA gC gD gN gR gP cT
              go_wp2_with fail
              refine cT9.mono ?_
              rintro e wA ⟨rfl, ownA, flA, hlA, sgA, ksA⟩
              have cN := sgA.count
              have cR := sgA.room
              have cG := fun n => (sgA.below (below_drewN (Below.refl _ _) n)).gen
              have hroom : ((halfN flA.length : Nat) : Int) - (usedN [P] : Nat) = (h : Int) - (K : Int) := by
                rw [hlA, HR5.out.2.2.2.2.2, show usedN [P] = pagesN P.length from by unfold usedN; simp, HQ.out.2.2.2.1, HK.out.1]
              rw [hroom] at cR
              have hbA : Below w.heap.size w wA := by
                have hb9 := HJ.out.2.2.2.1.trans (HB9.out.mono HJ.out.2.2.2.1.size)
                have hge := HJ.out.1.rl.ge HJ.out.1.far
                have hw1 := HB2.out.2.2.2.1.size
                exact kept_below ksA.1 hb9 hb9.size (fun i hi => Nat.le_trans hw1 (hge i hi))
              have HBA := Lib.hid hbA
              clear cT9 sgA ksA hbA hroom
              go_wp2_with fail
              refine cN.mono ?_
              rintro e wB ⟨rfl, hwB⟩
              subst hwB
              clear cN
              go_wp2_with fail
              refine cR.mono ?_
              rintro e wC ⟨rfl, n9, rfl⟩
              have cG9 := cG n9
              clear cR cG
              go_wp2_with fail
              refine cG9.mono ?_
              rintro e wD ⟨rfl, hwD⟩
              subst hwD
              clear cG9
              go_wp2_with fail
              go_ret
              exact ⟨rfl, below_drewN HBA.out _⟩
end
end Go.Proofs.YtbaenpgjggojaaaDoor
