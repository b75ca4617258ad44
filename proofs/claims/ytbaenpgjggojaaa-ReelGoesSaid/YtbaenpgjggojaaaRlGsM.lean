/-
ReelGoes, walked. Conditions: the lists are there.
-/
import Derived.Test.YtbaenpgjggojaaaRlGoM
namespace Go.Proofs.Ytbaenpgjggojaaa
open Go.ChangeShapes Go.WideShapes Go.RowKit

section
variable {w : World} {N n1 c1 n2 c2 : Nat} {A1 A2 : Option Addr} {rs1 : List Rw} {bl : List Bool}
/-- Between two rounds. -/
def GoRel (w w1 : World) (d k : Nat) (vr va : Value) (W : World) : Prop :=
  ∃ r own fl ws Ls A c vals, vr = .pointer (some ⟨r, 0, none⟩) ∧ va = .slice A (k + 1) c ∧ Sg W w1.heap.size d r 1 own fl ws Ls ∧ fl.length = 120 ∧ Ls.length = k + 1 ∧ usedN Ls ≤ 1 + 3 * k ∧ ws.length ≤ 200 + 3 * k ∧
    Gath w.heap.size own A c vals Ls W ∧ Below w.heap.size w W
theorem pages_mid (n : Nat) (h : n ≤ 700) : pagesN n ≤ 3 ∧ 1 ≤ pagesN n := by unfold pagesN; omega
theorem Rl.rlt {W : World} {base d r g : Nat} {own : Nat → Prop} {fl : List (List UInt8)} {ws : List (Nat × List UInt8)} {Ls : List (List UInt8)} (h : Rl W base d r g own fl ws Ls) : r < W.heap.size := by
  obtain ⟨o, R, c, vals, hd, hh, -⟩ := h
  exact hh.1.lt
theorem Sg.kept {W W' : World} {base d r g : Nat} {own K : Nat → Prop} {fl : List (List UInt8)} {ws : List (Nat × List UInt8)} {Ls : List (List UInt8)} (h : Sg W base d r g own fl ws Ls) (hk : Kept K W W') (hn : ∀ i, own i → ¬ K i) : Sg W' base d r g own fl ws Ls := by
  obtain ⟨o, R, c, vals, hd, hh, hoff, e⟩ := h.rl
  subst e
  refine ⟨⟨o, R, c, vals, hd.keep hk fun i hi => hn i (.inl hi), hh.keepO hk ⟨hn r (.inr (.inl rfl)), fun q hq => hn q (.inr (.inr (.inl hq))), fun v hv q hq => hn q (.inr (.inr (.inr ⟨v, hv, hq⟩)))⟩, hoff, rfl⟩, h.good, h.far, h.few, h.cnt⟩
/-- Behind the cut. -/
def ZR (w w1 : World) (d k : Nat) (P : List UInt8) (A5 : Option Addr) (c5 : Nat) (r : Nat) (own : Nat → Prop) (fl : List (List UInt8)) (ws : List (Nat × List UInt8)) (Ls : List (List UInt8)) (A : Option Addr) (c : Nat) (vals : List Value) (W : World) : Prop :=
  Sg W w1.heap.size d r 1 own fl ws Ls ∧ fl.length = 120 ∧ Ls.length = k + 1 ∧ usedN Ls ≤ 1 + 3 * k ∧ ws.length ≤ 200 + 3 * k ∧
    Gath w.heap.size own A c vals Ls W ∧ Below w.heap.size w W ∧ OwnB W w.heap.size (.slice A5 P.length c5) P.length P ∧ (∀ q, (Value.slice A5 P.length c5).ownBlock = some q → ¬ own q ∧ (Value.slice A Ls.length c).ownBlock ≠ some q) ∧ P.length ≤ 700 ∧ P.length ≤ c5
theorem go_z {w1 W W5 : World} {d k : Nat} {P : List UInt8} {A5 : Option Addr} {c5 : Nat} {r : Nat} {own : Nat → Prop} {fl : List (List UInt8)} {ws : List (Nat × List UInt8)} {Ls : List (List UInt8)} {A : Option Addr} {c : Nat} {vals : List Value} (sg : Sg W w1.heap.size d r 1 own fl ws Ls) (h1 : fl.length = 120) (h2 : Ls.length = k + 1) (h3 : usedN Ls ≤ 1 + 3 * k) (h4 : ws.length ≤ 200 + 3 * k)
    (hga : Gath w.heap.size own A c vals Ls W) (hbw : Below w.heap.size w W) (hb : Below W.heap.size W W5) (hP : OwnB W5 W.heap.size (.slice A5 P.length c5) P.length P) (hl : P.length ≤ 700) (hc : P.length ≤ c5) : ZR w w1 d k P A5 c5 r own fl ws Ls A c vals W5 := by
  refine ⟨sg.below hb, h1, h2, h3, h4, hga.below hb, hbw.trans (hb.mono hbw.size), hP.low hbw.size, fun q hq => ?_, hl, hc⟩
  have := World.ownsRow.lt hP q hq
  exact ⟨fun e => by have := sg.rl.lt q e; omega, fun e => by have := World.ownsRow.lt hga.1 q e; omega⟩
theorem z_act {w1 W W6 W7 : World} {d k r7 : Nat} {P : List UInt8} {A5 : Option Addr} {c5 : Nat} {r : Nat} {own own6 o6 own7 : Nat → Prop} {fl fl7 : List (List UInt8)} {ws ws7 : List (Nat × List UInt8)} {Ls : List (List UInt8)} {A : Option Addr} {c : Nat} {vals : List Value} (h : ZR w w1 d k P A5 c5 r own fl ws Ls A c vals W) (hw1 : w.heap.size ≤ w1.heap.size)
    (k6 : Ks W own W6 own6) (ho6 : ∀ i, o6 i → own6 i) (sg7 : Sg W7 w1.heap.size d r7 1 own7 fl7 ws7 Ls) (k7 : Ks W6 o6 W7 own7) (hl7 : fl7.length = 120) (hw7 : ws7.length ≤ 200) :
    ZR w w1 d k P A5 c5 r7 own7 fl7 ws7 Ls A c vals W7 := by
  obtain ⟨sg, h1, h2, h3, h4, hga, hbw, hP, hPo, hl, hc⟩ := h
  have k67 : Ks W6 own6 W7 own7 := ⟨k7.1.mono ho6, fun i hi h => ho6 i (k7.2 i hi h)⟩
  have kk := k6.trans k67
  exact ⟨sg7, hl7, h2, h3, by omega, hga.keep kk, kept_below kk.1 hbw hbw.size (fun i hi => Nat.le_trans hw1 (sg.rl.ge sg.far i hi)), ownB_kept hP kk.1 (fun q hq => (hPo q hq).1), fun q hq => ⟨fun e => (hPo q hq).1 (kk.2 q (World.ownsRow.lt hP q hq).2 e), (hPo q hq).2⟩, hl, hc⟩
theorem z_more {w1 W6 W9 : World} {d k r : Nat} {P : List UInt8} {A5 : Option Addr} {c5 : Nat} {v9 : Value} {own6 : Nat → Prop} {fl : List (List UInt8)} {ws : List (Nat × List UInt8)} {Ls : List (List UInt8)} {A : Option Addr} {c : Nat} {vals : List Value}
    (sg6 : Sg W6 w1.heap.size d r 1 own6 fl ws (Ls ++ [P])) (h1 : fl.length = 120) (h2 : Ls.length = k + 1) (h3 : usedN Ls ≤ 1 + 3 * k) (h4 : ws.length ≤ 203 + 3 * k) (hl : P.length ≤ 700) (hga6 : Gath w.heap.size own6 A c vals Ls W6) (hb6 : Below w.heap.size w W6) (hP6 : OwnB W6 w.heap.size (.slice A5 P.length c5) P.length P) (hPo6 : ∀ q, (Value.slice A5 P.length c5).ownBlock = some q → ¬ own6 q ∧ (Value.slice A Ls.length c).ownBlock ≠ some q)
    (hown9 : OwnR W9 w.heap.size v9 (k + 1 + 1) (vals ++ [.slice A5 P.length c5])) (hg9 : (W6.alloc (.cells #[.slice A5 P.length c5] 35)).grownBy W9 (Value.slice A (k + 1) c).ownBlock)
    (hloc9 : v9.ownBlock = (Value.slice A (k + 1) c).ownBlock ∨ v9.ownBlock = some (W6.alloc (.cells #[.slice A5 P.length c5] 35)).heap.size) : ∃ A9 c9, v9 = .slice A9 (k + 1 + 1) c9 ∧ GoRel w w1 d (k + 1) (.pointer (some ⟨r, 0, none⟩)) v9 W9 := by
  rw [← h2] at hown9 hg9 hloc9
  obtain ⟨A9, c9, rfl, hga9, hk9⟩ := hga6.more sg6.rl.lt hP6 hPo6 hown9 hg9 hloc9
  refine ⟨A9, c9, by rw [h2], r, own6, fl, ws, Ls ++ [P], A9, c9, _, rfl, by rw [h2], sg6.kept hk9 (fun i hi e => hga6.2.2.1 i e hi), h1, by simp [h2], ?_, by omega, hga9, kept_below hk9 hb6 hb6.size fun i hi => (World.ownsRow.lt hga6.1 i hi).1⟩
  rw [usedN_snoc]
  have := pages_mid P.length hl
  omega
set_option maxRecDepth 100000 in
set_option maxHeartbeats 8000000 in
theorem RGoes_any (_hn : N < 256) (hl1 : rs1.length = n1) (hc1 : n1 ≤ maxLen) (hC1 : Cs w w.heap.size A1 (rs1.map Rw.val)) (hI1 : RwsIn w w.heap.size rs1) (hl2 : bl.length = n2) (hc2 : n2 ≤ maxLen) (hR2 : Rb w w.heap.size A2 bl) :
    Calls Try.prog 4 #[.slice A1 n1 c1, .slice A2 n2 c2, .int .u8 (N : Int)] w fun e w' => e = .returned (.bool true) ∧ Below w.heap.size w w' := by
  have cA := awake15 w
  have hnb1 : (n1 : Int) ≤ 9223372036854775807 := by unfold maxLen at hc1; omega
  have hnb2 : (n2 : Int) ≤ 9223372036854775807 := by unfold maxLen at hc2; omega
  have HL1 := Lib.hid (And.intro hl1 (And.intro hC1 hI1))
  have HL2 := Lib.hid (And.intro hl2 hR2)
  obtain ⟨T, hT⟩ : ∃ T, N % 12 = T := ⟨_, rfl⟩
  have hTi : (N : Int) % 12 = (T : Int) := by omega
  have hTb : (T : Int) ≤ 11 := by omega
  clear hl1 hc1 hC1 hI1 hl2 hc2 hR2 hT _hn
  go_enter Try.func4, Try.ntmps4
  go_wp2_with fail
  refine cA.mono ?_
  rintro e w1 ⟨rfl, hb1⟩
  have HB1 := Lib.hid hb1
  have cN := New_dr 120 (by decide) (by decide) w1
  clear cA hb1
  go_wp2_with fail
  refine cN.mono ?_
  rintro e w2 ⟨d, o2, rfl, hd2, hb2⟩
  have hlen : (List.replicate 120 zeros).length = 120 := List.length_replicate
  have cM := make_sg (base := w1.heap.size) (o := o2) (b := []) (m := 0) (q := 0) (A := none) (av := fun _ => False) hd2 hb2.size (by rw [hlen]; decide) (by rw [hlen]; decide) (by decide) (rdq_nil _ _ _) (fun i hi _ => hi) rfl (Nat.le_refl _) (by decide) (by rw [hlen]; decide +kernel)
  have hge := hd2.ge
  have HB2 := Lib.hid (And.intro (HB1.out.trans (hb2.mono HB1.out.size)) (And.intro hge hlen))
  clear cN hd2 hb2 hlen hge
  go_wp2_with fail
  refine cM.mono ?_
  rintro e w3 ⟨r, own3, fl3, rfl, hr3, hl3, sg3, ks3⟩
  have hb3 : Below w.heap.size w w3 := kept_below ks3.1 HB2.out.1 HB2.out.1.size (fun i hi => Nat.le_trans HB1.out.size (HB2.out.2.1 i hi))
  have hga := Gath.one w3 own3 sg3.rl.lt
  have hb4 : Below w3.heap.size w3 (w3.alloc (.cells #[.slice none 0 0] 35)) := (Below.refl _ _).alloc (Nat.le_refl _) _
  have H3 : Hid (GoRel w w1 d 0 (.pointer (some ⟨r, 0, none⟩)) (.slice (some ⟨w3.heap.size, 0, none⟩) 1 1) (w3.alloc (.cells #[.slice none 0 0] 35))) := Lib.hid ⟨r, own3, fl3, [], [[]], _, _, _, rfl, rfl, sg3.below hb4, hl3.trans HB2.out.2.2, rfl, by decide, by simp, hga.low hb3.size, hb3.trans (hb4.mono hb3.size)⟩
  clear cM hr3 hl3 sg3 ks3 hb3 hga hb4
  have HW1 := Lib.hid (HB2.out.1.size)
  go_wp2_with fail
  go_loopw [9, 10, 11, 12, 13, 32] (fun vr _ va _ _ i wr => ∃ k : Nat, k ≤ n1 ∧ k ≤ 12 ∧ i = .int .i64 (k : Int) ∧ GoRel w w1 d k vr va wr) (fun _ _ _ _ _ i _ => 13 - (intOf i).toNat)
  case atStart => exact ⟨0, Nat.zero_le _, by omega, rfl, H3.out⟩
  case round =>
    obtain ⟨k, hk, hk12, rfl, hgo⟩ := hrel
    have hkb : (k : Int) ≤ 12 := by omega
    have hbw : Below w.heap.size w wr := by
      obtain ⟨r, own, fl, ws, Ls, A, c, vals, -, -, -, -, -, -, -, -, h⟩ := hgo
      exact h
    by_cases hlt : k < n1
    · have hlt2 : (k : Int) < (n1 : Int) := by omega
      obtain ⟨bp, qp, hAp, hbq, hcp⟩ := (HL1.out.2.1.below hbw).at_ (k := k) (by rw [List.length_map, HL1.out.1]; exact hlt)
      rw [List.getElem_map] at hcp
      obtain ⟨p, hp⟩ : ∃ p, rs1[k]'(by rw [HL1.out.1]; exact hlt) = p := ⟨_, rfl⟩
      obtain ⟨hpl, hpm, hpr⟩ := HL1.out.2.2 p (by rw [← hp]; exact List.getElem_mem _)
      rw [hp] at hcp
      have hcp : wr.cell? ⟨bp, qp + k, none⟩ = some (.slice p.A p.l.length p.c) := hcp
      subst hAp
      by_cases h12 : k < 12
      · have h122 : ¬ (12 : Int) ≤ (k : Int) := by omega
        have HGO := Lib.hid hgo
        by_cases hk2 : k < n2
        · have hk22 : (k : Int) < (n2 : Int) := by omega
          obtain ⟨bv, hbv⟩ : ∃ b, bl[k]? = some b := ⟨_, List.getElem?_eq_getElem (by rw [HL2.out.1]; exact hk2)⟩
          obtain ⟨bb, qb, hAb, hbb, hcb⟩ := HL2.out.2 (by rw [HL2.out.1]; omega)
          have hcb := (hbw.cell (p := ⟨bb, qb + k, none⟩) hbb).trans (hcb k bv hbv)
          subst hAb
          have cC := cut_any p.A p.l.length p.c w.heap.size p.l bv wr (hpr.below hbw) rfl (by unfold maxLen at hpm; omega) hbw.size
          clear hgo hbw hlt h12 hp hpl hpm hpr hk2 hbv
          go_wp2_with fail
          refine cC.mono ?_
          rintro e w5 ⟨v, rfl, hov, hb5⟩
          obtain ⟨-, A5, c5, rfl, hc5, -, -⟩ := own_form hov
          have hPl := cutLs_len p.l bv
          obtain ⟨P, hP⟩ : ∃ P, cutLs p.l bv = P := ⟨_, rfl⟩
          rw [hP] at hov hc5 hPl ⊢
          obtain ⟨r, own, fl, ws, Ls, A, c, vals, rfl, rfl, sg, hfl, hLs, hus, hws, hga, hbw⟩ := HGO.out
          have hz := go_z sg hfl hLs hus hws hga hbw hb5 hov hPl hc5
          have HZ := Lib.hid hz
          clear sg hfl hLs hus hws hga hbw hb5 hov hPl hc5 hP cC
          by_cases hkT : k = T
          · have sgF := hz.1.flush
            clear hz
            subst hkT
            have hkk : ((k : Int) == (k : Int)) = true := by simp
            go_wp2_with fail
            refine sgF.mono ?_
            rintro e w6' ⟨rfl, own6', sg6', ks6'⟩
            obtain ⟨o6, hd6, hs6⟩ := sg6'.dr
            have cO := open_sg (base := w1.heap.size) hd6 (by have := sg6'.far; have := sg6'.rl.rlt; omega) sg6'.good (by rw [app_length, HZ.out.2.1]; decide) (by rw [HZ.out.2.2.1]; omega) (by simp)
            have HV := Lib.hid (And.intro ks6' hs6)
            clear sgF sg6' ks6' hd6 hs6
            go_wp2_with fail
            refine cO.mono ?_
            rintro e w7 ⟨r7, own7, fl7, ws7, rfl, -, hl7, hw7, sg7, ks7⟩
            have hz7 := z_act HZ.out HB1.out.size HV.out.1 HV.out.2 sg7 ks7 (by rw [hl7, app_length]; exact HZ.out.2.1) (by rw [app_length, HZ.out.2.1] at hw7; simp at hw7; omega)
            clear HZ
            have HZ := Lib.hid hz7
            clear cO hl7 hw7 sg7 ks7 hz7 HV
            obtain ⟨sg, hfl, hLs, hus, hws, hga, hbw, hP, hPo, hPl, hPc⟩ := HZ.out
            have cAp := sg.append (by rw [hLs]; omega) (by omega) (RdQ.of_own hP) (fun i hi h => (hPo i hi).1 h) rfl hPc (by omega) (by
              rw [hfl]
              have := pages_mid P.length hPl
              unfold fitsN
              rw [if_neg (by omega), if_neg (by rw [show halfN 120 = 59 from rfl]; omega)])
            clear sg hfl hLs hus hws hga hbw hP hPo hPl hPc
            go_wp2_with fail
            refine cAp.mono ?_
            rintro e w6 ⟨rfl, own6, sg6, ks6⟩
            obtain ⟨sg, hfl, hLs, hus, hws, hga, hbw, hP, hPo, hPl, hPc⟩ := HZ.out
            have hb6 : Below w.heap.size w w6 := kept_below ks6.1 hbw hbw.size (fun i hi => Nat.le_trans HB1.out.size (sg.rl.ge sg.far i hi))
            have hga6 := hga.keep ks6
            have hP6 := ownB_kept hP ks6.1 fun i hi => (hPo i hi).1
            have hPo6 : ∀ i, (Value.slice A5 P.length c5).ownBlock = some i → ¬ own6 i ∧ (Value.slice A Ls.length c).ownBlock ≠ some i := fun i hi => ⟨fun h => (hPo i hi).1 (ks6.2 i (World.ownsRow.lt hP i hi).2 h), (hPo i hi).2⟩
            have cb : (w6.alloc (.cells #[.slice A5 P.length c5] 35)).cell? ⟨w6.heap.size, 0, none⟩ = some (.slice A5 P.length c5) := (Blk.new w6 35 #[.slice A5 P.length c5]).cell 0
            have hoR := hga6.1.alloc (.cells #[.slice A5 P.length c5] 35)
            rw [hLs] at hoR
            have HX := Lib.hid (And.intro sg6 (And.intro hga6 (And.intro hb6 (And.intro hP6 (And.intro hPo6 (And.intro cb hoR))))))
            clear cAp sg sg6 ks6 hga hbw hP hPo hPl hPc hLs hus hws hfl hb6 hga6 hP6 hPo6 cb hoR
            go_wp2_with (with_reducible refine wpList_appendL9 (o := ⟨some 73, _, _, _, _, _⟩) rfl (.tmp 70) (.tmp 72) rfl w.heap.size (.slice A (k + 1) c) (k + 1) vals ?h1 HX.out.2.2.2.2.2.2 w6.heap.size (.slice A5 P.length c5) ?h2 HX.out.2.2.2.2.2.1 rfl ?h3 ?h4 ?_)
            case h1 => rfl
            case h2 => rfl
            case h3 => omega
            case h4 => simp; have := HX.out.2.2.1.size; omega
            intro v9 w9 hown9 hg9 hloc9
            obtain ⟨sg, hfl, hLs, hus, hws, hga, hbw, hP, hPo, hPl, hPc⟩ := HZ.out
            obtain ⟨A9, c9, rfl, hgo9⟩ := z_more HX.out.1 hfl hLs hus (by rw [addW_len]; have := pages_mid P.length hPl; omega) hPl HX.out.2.1 HX.out.2.2.1 HX.out.2.2.2.1 HX.out.2.2.2.2.1 hown9 hg9 (by rw [World.size_alloc]; exact hloc9)
            have HR := Lib.hid hgo9
            clear hown9 hg9 hloc9 hgo9 sg hfl hLs hus hws hga hbw hP hPo hPl hPc
            go_wp2_with fail
            go_roundw
            case rel => exact ⟨k + 1, by omega, by omega, congrArg (Value.int .i64) (by omega), HR.out⟩
            case measure => simp [intOf]; omega
          · clear hz
            have hkk : ((k : Int) == (T : Int)) = false := by rw [beq_eq_false_iff_ne]; omega
            obtain ⟨sg, hfl, hLs, hus, hws, hga, hbw, hP, hPo, hPl, hPc⟩ := HZ.out
            have cAp := sg.append (by rw [hLs]; omega) (by omega) (RdQ.of_own hP) (fun i hi h => (hPo i hi).1 h) rfl hPc (by omega) (by
              rw [hfl]
              have := pages_mid P.length hPl
              unfold fitsN
              rw [if_neg (by omega), if_neg (by rw [show halfN 120 = 59 from rfl]; omega)])
            clear sg hfl hLs hus hws hga hbw hP hPo hPl hPc
            go_wp2_with fail
            refine cAp.mono ?_
            rintro e w6 ⟨rfl, own6, sg6, ks6⟩
            obtain ⟨sg, hfl, hLs, hus, hws, hga, hbw, hP, hPo, hPl, hPc⟩ := HZ.out
            have hb6 : Below w.heap.size w w6 := kept_below ks6.1 hbw hbw.size (fun i hi => Nat.le_trans HB1.out.size (sg.rl.ge sg.far i hi))
            have hga6 := hga.keep ks6
            have hP6 := ownB_kept hP ks6.1 fun i hi => (hPo i hi).1
            have hPo6 : ∀ i, (Value.slice A5 P.length c5).ownBlock = some i → ¬ own6 i ∧ (Value.slice A Ls.length c).ownBlock ≠ some i := fun i hi => ⟨fun h => (hPo i hi).1 (ks6.2 i (World.ownsRow.lt hP i hi).2 h), (hPo i hi).2⟩
            have cb : (w6.alloc (.cells #[.slice A5 P.length c5] 35)).cell? ⟨w6.heap.size, 0, none⟩ = some (.slice A5 P.length c5) := (Blk.new w6 35 #[.slice A5 P.length c5]).cell 0
            have hoR := hga6.1.alloc (.cells #[.slice A5 P.length c5] 35)
            rw [hLs] at hoR
            have HX := Lib.hid (And.intro sg6 (And.intro hga6 (And.intro hb6 (And.intro hP6 (And.intro hPo6 (And.intro cb hoR))))))
            clear cAp sg sg6 ks6 hga hbw hP hPo hPl hPc hLs hus hws hfl hb6 hga6 hP6 hPo6 cb hoR
            go_wp2_with (with_reducible refine wpList_appendL9 (o := ⟨some 73, _, _, _, _, _⟩) rfl (.tmp 70) (.tmp 72) rfl w.heap.size (.slice A (k + 1) c) (k + 1) vals ?h1 HX.out.2.2.2.2.2.2 w6.heap.size (.slice A5 P.length c5) ?h2 HX.out.2.2.2.2.2.1 rfl ?h3 ?h4 ?_)
            case h1 => rfl
            case h2 => rfl
            case h3 => omega
            case h4 => simp; have := HX.out.2.2.1.size; omega
            intro v9 w9 hown9 hg9 hloc9
            obtain ⟨sg, hfl, hLs, hus, hws, hga, hbw, hP, hPo, hPl, hPc⟩ := HZ.out
            obtain ⟨A9, c9, rfl, hgo9⟩ := z_more HX.out.1 hfl hLs hus (by rw [addW_len]; have := pages_mid P.length hPl; omega) hPl HX.out.2.1 HX.out.2.2.1 HX.out.2.2.2.1 HX.out.2.2.2.2.1 hown9 hg9 (by rw [World.size_alloc]; exact hloc9)
            have HR := Lib.hid hgo9
            clear hown9 hg9 hloc9 hgo9 sg hfl hLs hus hws hga hbw hP hPo hPl hPc
            go_wp2_with fail
            go_roundw
            case rel => exact ⟨k + 1, by omega, by omega, congrArg (Value.int .i64) (by omega), HR.out⟩
            case measure => simp [intOf]; omega
        · have hk22 : ¬ (k : Int) < (n2 : Int) := by omega
          have cC := cut_any p.A p.l.length p.c w.heap.size p.l false wr (hpr.below hbw) rfl (by unfold maxLen at hpm; omega) hbw.size
          clear hgo hbw hlt h12 hp hpl hpm hpr hk2
          go_wp2_with fail
          refine cC.mono ?_
          rintro e w5 ⟨v, rfl, hov, hb5⟩
          obtain ⟨-, A5, c5, rfl, hc5, -, -⟩ := own_form hov
          have hPl := cutLs_len p.l false
          obtain ⟨P, hP⟩ : ∃ P, cutLs p.l false = P := ⟨_, rfl⟩
          rw [hP] at hov hc5 hPl ⊢
          obtain ⟨r, own, fl, ws, Ls, A, c, vals, rfl, rfl, sg, hfl, hLs, hus, hws, hga, hbw⟩ := HGO.out
          have hz := go_z sg hfl hLs hus hws hga hbw hb5 hov hPl hc5
          have HZ := Lib.hid hz
          clear sg hfl hLs hus hws hga hbw hb5 hov hPl hc5 hP cC
          by_cases hkT : k = T
          · have sgF := hz.1.flush
            clear hz
            subst hkT
            have hkk : ((k : Int) == (k : Int)) = true := by simp
            go_wp2_with fail
            refine sgF.mono ?_
            rintro e w6' ⟨rfl, own6', sg6', ks6'⟩
            obtain ⟨o6, hd6, hs6⟩ := sg6'.dr
            have cO := open_sg (base := w1.heap.size) hd6 (by have := sg6'.far; have := sg6'.rl.rlt; omega) sg6'.good (by rw [app_length, HZ.out.2.1]; decide) (by rw [HZ.out.2.2.1]; omega) (by simp)
            have HV := Lib.hid (And.intro ks6' hs6)
            clear sgF sg6' ks6' hd6 hs6
            go_wp2_with fail
            refine cO.mono ?_
            rintro e w7 ⟨r7, own7, fl7, ws7, rfl, -, hl7, hw7, sg7, ks7⟩
            have hz7 := z_act HZ.out HB1.out.size HV.out.1 HV.out.2 sg7 ks7 (by rw [hl7, app_length]; exact HZ.out.2.1) (by rw [app_length, HZ.out.2.1] at hw7; simp at hw7; omega)
            clear HZ
            have HZ := Lib.hid hz7
            clear cO hl7 hw7 sg7 ks7 hz7 HV
            obtain ⟨sg, hfl, hLs, hus, hws, hga, hbw, hP, hPo, hPl, hPc⟩ := HZ.out
            have cAp := sg.append (by rw [hLs]; omega) (by omega) (RdQ.of_own hP) (fun i hi h => (hPo i hi).1 h) rfl hPc (by omega) (by
              rw [hfl]
              have := pages_mid P.length hPl
              unfold fitsN
              rw [if_neg (by omega), if_neg (by rw [show halfN 120 = 59 from rfl]; omega)])
            clear sg hfl hLs hus hws hga hbw hP hPo hPl hPc
            go_wp2_with fail
            refine cAp.mono ?_
            rintro e w6 ⟨rfl, own6, sg6, ks6⟩
            obtain ⟨sg, hfl, hLs, hus, hws, hga, hbw, hP, hPo, hPl, hPc⟩ := HZ.out
            have hb6 : Below w.heap.size w w6 := kept_below ks6.1 hbw hbw.size (fun i hi => Nat.le_trans HB1.out.size (sg.rl.ge sg.far i hi))
            have hga6 := hga.keep ks6
            have hP6 := ownB_kept hP ks6.1 fun i hi => (hPo i hi).1
            have hPo6 : ∀ i, (Value.slice A5 P.length c5).ownBlock = some i → ¬ own6 i ∧ (Value.slice A Ls.length c).ownBlock ≠ some i := fun i hi => ⟨fun h => (hPo i hi).1 (ks6.2 i (World.ownsRow.lt hP i hi).2 h), (hPo i hi).2⟩
            have cb : (w6.alloc (.cells #[.slice A5 P.length c5] 35)).cell? ⟨w6.heap.size, 0, none⟩ = some (.slice A5 P.length c5) := (Blk.new w6 35 #[.slice A5 P.length c5]).cell 0
            have hoR := hga6.1.alloc (.cells #[.slice A5 P.length c5] 35)
            rw [hLs] at hoR
            have HX := Lib.hid (And.intro sg6 (And.intro hga6 (And.intro hb6 (And.intro hP6 (And.intro hPo6 (And.intro cb hoR))))))
            clear cAp sg sg6 ks6 hga hbw hP hPo hPl hPc hLs hus hws hfl hb6 hga6 hP6 hPo6 cb hoR
            go_wp2_with (with_reducible refine wpList_appendL9 (o := ⟨some 73, _, _, _, _, _⟩) rfl (.tmp 70) (.tmp 72) rfl w.heap.size (.slice A (k + 1) c) (k + 1) vals ?h1 HX.out.2.2.2.2.2.2 w6.heap.size (.slice A5 P.length c5) ?h2 HX.out.2.2.2.2.2.1 rfl ?h3 ?h4 ?_)
            case h1 => rfl
            case h2 => rfl
            case h3 => omega
            case h4 => simp; have := HX.out.2.2.1.size; omega
            intro v9 w9 hown9 hg9 hloc9
            obtain ⟨sg, hfl, hLs, hus, hws, hga, hbw, hP, hPo, hPl, hPc⟩ := HZ.out
            obtain ⟨A9, c9, rfl, hgo9⟩ := z_more HX.out.1 hfl hLs hus (by rw [addW_len]; have := pages_mid P.length hPl; omega) hPl HX.out.2.1 HX.out.2.2.1 HX.out.2.2.2.1 HX.out.2.2.2.2.1 hown9 hg9 (by rw [World.size_alloc]; exact hloc9)
            have HR := Lib.hid hgo9
            clear hown9 hg9 hloc9 hgo9 sg hfl hLs hus hws hga hbw hP hPo hPl hPc
            go_wp2_with fail
            go_roundw
            case rel => exact ⟨k + 1, by omega, by omega, congrArg (Value.int .i64) (by omega), HR.out⟩
            case measure => simp [intOf]; omega
          · clear hz
            have hkk : ((k : Int) == (T : Int)) = false := by rw [beq_eq_false_iff_ne]; omega
            obtain ⟨sg, hfl, hLs, hus, hws, hga, hbw, hP, hPo, hPl, hPc⟩ := HZ.out
            have cAp := sg.append (by rw [hLs]; omega) (by omega) (RdQ.of_own hP) (fun i hi h => (hPo i hi).1 h) rfl hPc (by omega) (by
              rw [hfl]
              have := pages_mid P.length hPl
              unfold fitsN
              rw [if_neg (by omega), if_neg (by rw [show halfN 120 = 59 from rfl]; omega)])
            clear sg hfl hLs hus hws hga hbw hP hPo hPl hPc
            go_wp2_with fail
            refine cAp.mono ?_
            rintro e w6 ⟨rfl, own6, sg6, ks6⟩
            obtain ⟨sg, hfl, hLs, hus, hws, hga, hbw, hP, hPo, hPl, hPc⟩ := HZ.out
            have hb6 : Below w.heap.size w w6 := kept_below ks6.1 hbw hbw.size (fun i hi => Nat.le_trans HB1.out.size (sg.rl.ge sg.far i hi))
            have hga6 := hga.keep ks6
            have hP6 := ownB_kept hP ks6.1 fun i hi => (hPo i hi).1
            have hPo6 : ∀ i, (Value.slice A5 P.length c5).ownBlock = some i → ¬ own6 i ∧ (Value.slice A Ls.length c).ownBlock ≠ some i := fun i hi => ⟨fun h => (hPo i hi).1 (ks6.2 i (World.ownsRow.lt hP i hi).2 h), (hPo i hi).2⟩
            have cb : (w6.alloc (.cells #[.slice A5 P.length c5] 35)).cell? ⟨w6.heap.size, 0, none⟩ = some (.slice A5 P.length c5) := (Blk.new w6 35 #[.slice A5 P.length c5]).cell 0
            have hoR := hga6.1.alloc (.cells #[.slice A5 P.length c5] 35)
            rw [hLs] at hoR
            have HX := Lib.hid (And.intro sg6 (And.intro hga6 (And.intro hb6 (And.intro hP6 (And.intro hPo6 (And.intro cb hoR))))))
            clear cAp sg sg6 ks6 hga hbw hP hPo hPl hPc hLs hus hws hfl hb6 hga6 hP6 hPo6 cb hoR
            go_wp2_with (with_reducible refine wpList_appendL9 (o := ⟨some 73, _, _, _, _, _⟩) rfl (.tmp 70) (.tmp 72) rfl w.heap.size (.slice A (k + 1) c) (k + 1) vals ?h1 HX.out.2.2.2.2.2.2 w6.heap.size (.slice A5 P.length c5) ?h2 HX.out.2.2.2.2.2.1 rfl ?h3 ?h4 ?_)
            case h1 => rfl
            case h2 => rfl
            case h3 => omega
            case h4 => simp; have := HX.out.2.2.1.size; omega
            intro v9 w9 hown9 hg9 hloc9
            obtain ⟨sg, hfl, hLs, hus, hws, hga, hbw, hP, hPo, hPl, hPc⟩ := HZ.out
            obtain ⟨A9, c9, rfl, hgo9⟩ := z_more HX.out.1 hfl hLs hus (by rw [addW_len]; have := pages_mid P.length hPl; omega) hPl HX.out.2.1 HX.out.2.2.1 HX.out.2.2.2.1 HX.out.2.2.2.2.1 hown9 hg9 (by rw [World.size_alloc]; exact hloc9)
            have HR := Lib.hid hgo9
            clear hown9 hg9 hloc9 hgo9 sg hfl hLs hus hws hga hbw hP hPo hPl hPc
            go_wp2_with fail
            go_roundw
            case rel => exact ⟨k + 1, by omega, by omega, congrArg (Value.int .i64) (by omega), HR.out⟩
            case measure => simp [intOf]; omega
      · have h122 : (12 : Int) ≤ (k : Int) := by omega
        have HF := Lib.hid hgo
        clear hgo hbw hlt h12 hp hpl hpm hpr
        obtain ⟨r, own, fl, ws, Ls, A, c, vals, rfl, rfl, sg, hfl, hLs, hus, hws, hga, hbw⟩ := HF.out
        obtain ⟨o8, hd8, hs8, hoth⟩ := sg.others
        have cO := open_sg (base := w1.heap.size) hd8 (by have := sg.far; have := sg.rl.rlt; omega) sg.good (by rw [hfl]; decide) (by rw [hLs]; omega) (by omega)
        have HT := Lib.hid (And.intro hs8 (And.intro hoth (And.intro hga (And.intro hbw (And.intro hLs (sg.rl.ge sg.far))))))
        have hkL : (k : Int) + 1 = ((Ls.length : Nat) : Int) := by rw [hLs]; omega
        clear sg hfl hus hws hga hbw hd8 hs8 hoth HF
        go_wp2_with fail
        refine cO.mono ?_
        rintro e w8 ⟨r8, own8, fl8, ws8, rfl, -, -, -, sg8, ks8⟩
        have cR1 := HT.out.2.1 w8 ks8.1
        have hksG : Ks _ own w8 own := ⟨ks8.1.mono HT.out.1, fun _ _ h => h⟩
        have hga8 := HT.out.2.2.1.keep hksG
        have hb8 : Below w.heap.size w w8 := kept_below ks8.1 HT.out.2.2.2.1 HT.out.2.2.2.1.size (fun i hi => Nat.le_trans HB1.out.size (HT.out.2.2.2.2.2 i (HT.out.1 i hi)))
        obtain ⟨rsA, hLA, hlsA⟩ := hga8.lst
        have HG := Lib.hid (And.intro sg8 (And.intro hga8 (And.intro hb8 (And.intro hLA hlsA))))
        clear cO sg8 ks8 hksG hga8 hb8 hLA hlsA
        go_wp2_with fail
        refine cR1.mono ?_
        rintro e w9 ⟨q9, vs9, rfl, -, hrec9, hb9⟩
        obtain ⟨rs9, hL9, hls9⟩ := recs_lst hrec9 (by rw [HT.out.2.2.2.2.1]; omega)
        have hsm : ∀ (rs : List Rw), lsOf rs = Ls → ∀ r ∈ rs, r.l.length ≤ 1000000 := fun rs h r hr => by
          have hm : r.l ∈ lsOf rs := List.mem_map_of_mem hr
          rw [h] at hm
          have := HG.out.1.good.2.2.2.2.2.2.2.1 _ hm
          omega
        have hnL : Ls.length ≤ 1000000 := by rw [HT.out.2.2.2.2.1]; omega
        have cS := RSame_any hL9 (HG.out.2.2.2.1.below hb9) hnL hnL (hsm _ hls9) (hsm _ HG.out.2.2.2.2)
        rw [decide_eq_true (hls9.trans HG.out.2.2.2.2.symm), HT.out.2.2.2.2.1] at cS
        have H9 := Lib.hid (And.intro hb9 (And.intro hsm hnL))
        rw [HT.out.2.2.2.2.1]
        clear cR1 hrec9 hb9 hL9 hls9 hsm hnL
        go_wp2_with fail
        refine cS.mono ?_
        rintro e wA ⟨rfl, hbA⟩
        have hb8A := H9.out.1.trans (hbA.mono H9.out.1.size)
        have cR2 := (HG.out.1.below hb8A).records
        have HA := Lib.hid hb8A
        clear cS hbA hb8A
        go_wp2_with fail
        refine cR2.mono ?_
        rintro e wB ⟨qB, vsB, rfl, -, hrecB, hbB⟩
        obtain ⟨rsB, hLB, hlsB⟩ := recs_lst hrecB (by rw [HT.out.2.2.2.2.1]; omega)
        have hb8B := HA.out.trans (hbB.mono HA.out.size)
        have cS := RSame_any hLB (HG.out.2.2.2.1.below hb8B) H9.out.2.2 H9.out.2.2 (H9.out.2.1 _ hlsB) (H9.out.2.1 _ HG.out.2.2.2.2)
        rw [decide_eq_true (hlsB.trans HG.out.2.2.2.2.symm), HT.out.2.2.2.2.1] at cS
        have HBB := Lib.hid hb8B
        rw [HT.out.2.2.2.2.1]
        clear cR2 hrecB hbB hLB hlsB hb8B
        go_wp2_with fail
        refine cS.mono ?_
        rintro e wC ⟨rfl, hbC⟩
        have hb8C := HBB.out.trans (hbC.mono HBB.out.size)
        have cG := (HG.out.1.below hb8C).gen
        have HC := Lib.hid (HG.out.2.2.1.trans (hb8C.mono HG.out.2.2.1.size))
        clear cS hbC hb8C
        go_wp2_with fail
        refine cG.mono ?_
        rintro e wD ⟨rfl, hwD⟩
        subst hwD
        clear cG
        go_wp2_with fail
        go_ret
        exact ⟨rfl, HC.out⟩
    · have hlt2 : ¬ (k : Int) < (n1 : Int) := by omega
      have HF := Lib.hid hgo
      clear hgo hbw hlt
      obtain ⟨r, own, fl, ws, Ls, A, c, vals, rfl, rfl, sg, hfl, hLs, hus, hws, hga, hbw⟩ := HF.out
      obtain ⟨o8, hd8, hs8, hoth⟩ := sg.others
      have cO := open_sg (base := w1.heap.size) hd8 (by have := sg.far; have := sg.rl.rlt; omega) sg.good (by rw [hfl]; decide) (by rw [hLs]; omega) (by omega)
      have HT := Lib.hid (And.intro hs8 (And.intro hoth (And.intro hga (And.intro hbw (And.intro hLs (sg.rl.ge sg.far))))))
      have hkL : (k : Int) + 1 = ((Ls.length : Nat) : Int) := by rw [hLs]; omega
      clear sg hfl hus hws hga hbw hd8 hs8 hoth HF
      go_wp2_with fail
      refine cO.mono ?_
      rintro e w8 ⟨r8, own8, fl8, ws8, rfl, -, -, -, sg8, ks8⟩
      have cR1 := HT.out.2.1 w8 ks8.1
      have hksG : Ks _ own w8 own := ⟨ks8.1.mono HT.out.1, fun _ _ h => h⟩
      have hga8 := HT.out.2.2.1.keep hksG
      have hb8 : Below w.heap.size w w8 := kept_below ks8.1 HT.out.2.2.2.1 HT.out.2.2.2.1.size (fun i hi => Nat.le_trans HB1.out.size (HT.out.2.2.2.2.2 i (HT.out.1 i hi)))
      obtain ⟨rsA, hLA, hlsA⟩ := hga8.lst
      have HG := Lib.hid (And.intro sg8 (And.intro hga8 (And.intro hb8 (And.intro hLA hlsA))))
      clear cO sg8 ks8 hksG hga8 hb8 hLA hlsA
      go_wp2_with fail
      refine cR1.mono ?_
      rintro e w9 ⟨q9, vs9, rfl, -, hrec9, hb9⟩
      obtain ⟨rs9, hL9, hls9⟩ := recs_lst hrec9 (by rw [HT.out.2.2.2.2.1]; omega)
      have hsm : ∀ (rs : List Rw), lsOf rs = Ls → ∀ r ∈ rs, r.l.length ≤ 1000000 := fun rs h r hr => by
        have hm : r.l ∈ lsOf rs := List.mem_map_of_mem hr
        rw [h] at hm
        have := HG.out.1.good.2.2.2.2.2.2.2.1 _ hm
        omega
      have hnL : Ls.length ≤ 1000000 := by rw [HT.out.2.2.2.2.1]; omega
      have cS := RSame_any hL9 (HG.out.2.2.2.1.below hb9) hnL hnL (hsm _ hls9) (hsm _ HG.out.2.2.2.2)
      rw [decide_eq_true (hls9.trans HG.out.2.2.2.2.symm), HT.out.2.2.2.2.1] at cS
      have H9 := Lib.hid (And.intro hb9 (And.intro hsm hnL))
      rw [HT.out.2.2.2.2.1]
      clear cR1 hrec9 hb9 hL9 hls9 hsm hnL
      go_wp2_with fail
      refine cS.mono ?_
      rintro e wA ⟨rfl, hbA⟩
      have hb8A := H9.out.1.trans (hbA.mono H9.out.1.size)
      have cR2 := (HG.out.1.below hb8A).records
      have HA := Lib.hid hb8A
      clear cS hbA hb8A
      go_wp2_with fail
      refine cR2.mono ?_
      rintro e wB ⟨qB, vsB, rfl, -, hrecB, hbB⟩
      obtain ⟨rsB, hLB, hlsB⟩ := recs_lst hrecB (by rw [HT.out.2.2.2.2.1]; omega)
      have hb8B := HA.out.trans (hbB.mono HA.out.size)
      have cS := RSame_any hLB (HG.out.2.2.2.1.below hb8B) H9.out.2.2 H9.out.2.2 (H9.out.2.1 _ hlsB) (H9.out.2.1 _ HG.out.2.2.2.2)
      rw [decide_eq_true (hlsB.trans HG.out.2.2.2.2.symm), HT.out.2.2.2.2.1] at cS
      have HBB := Lib.hid hb8B
      rw [HT.out.2.2.2.2.1]
      clear cR2 hrecB hbB hLB hlsB hb8B
      go_wp2_with fail
      refine cS.mono ?_
      rintro e wC ⟨rfl, hbC⟩
      have hb8C := HBB.out.trans (hbC.mono HBB.out.size)
      have cG := (HG.out.1.below hb8C).gen
      have HC := Lib.hid (HG.out.2.2.1.trans (hb8C.mono HG.out.2.2.1.size))
      clear cS hbC hb8C
      go_wp2_with fail
      refine cG.mono ?_
      rintro e wD ⟨rfl, hwD⟩
      subst hwD
      clear cG
      go_wp2_with fail
      go_ret
      exact ⟨rfl, HC.out⟩
end
end Go.Proofs.Ytbaenpgjggojaaa
