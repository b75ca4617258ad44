/-
ReelNil, walked. Conditions: numbers of their kinds; the lists are there; errors.errorType starts as the program's text lays it.
-/
import Derived.Test.YtbaenpgjggojaaaDoorRlSnM
import Derived.Test.YtbaenpgjggojaaaDoorCodeCM
namespace Go.Proofs.YtbaenpgjggojaaaDoor
open Go.ChangeShapes Go.WideShapes Go.RowKit

set_option maxRecDepth 20000 in
theorem Append_nil (A : Option Addr) (n c : Nat) (w : World) : Calls Tryd.prog 23 #[.pointer none, .slice A n c] w fun e w' => e = .returned (errV 3) ∧ Below w.heap.size w w' := by
  refine (callsIn_wide (n := 6)).1 ?_
  refine callsIn_of_wp_marks Tryd.func23 rfl trivial ?_ rfl
  simp only [Tryd.ntmps23, List.size_toArray, List.length_cons, List.length_nil, Nat.reduceAdd, Nat.reduceSub, Array.replicate_succ, Array.replicate_zero, List.push_toArray, List.append_toArray, List.nil_append, List.cons_append]
  refine wpIn_wide.2 ?_
  have hw2 : Below w.heap.size w ((w.alloc (.cells #[.pointer none] 35)).alloc (.cells #[.nilIface] 27)) := ((Below.refl _ w).alloc (Nat.le_refl _) _).alloc (by simp) _
  have k2 : Blk ((w.alloc (.cells #[.pointer none] 35)).alloc (.cells #[.nilIface] 27)) w.heap.size 35 #[.pointer none] := (Blk.new w _ _).alloc _
  have k4 : Blk ((w.alloc (.cells #[.pointer none] 35)).alloc (.cells #[.nilIface] 27)) (w.heap.size + 1) 27 #[.nilIface] := by
    have h := Blk.new (w.alloc (.cells #[.pointer none] 35)) 27 #[.nilIface]
    rwa [World.size_alloc] at h
  have kc2 := k2.cell 0
  have kf4 := k4.frozen 0
  have kN : Blk ((w.alloc (.cells #[.pointer none] 35)).alloc (.cells #[errV 3] 27)) (w.heap.size + 1) 27 #[errV 3] := by
    have h := Blk.new (w.alloc (.cells #[.pointer none] 35)) 27 #[errV 3]
    rwa [World.size_alloc] at h
  have kNc := kN.cell 0
  have hw3 : Below w.heap.size w ((w.alloc (.cells #[.pointer none] 35)).alloc (.cells #[errV 3] 27)) := ((Below.refl _ w).alloc (Nat.le_refl _) _).alloc (by simp) _
  have HW := Lib.hid (And.intro hw3 kNc)
  clear hw2 hw3 k2 k4 kN kNc
  go_wp2_with fail
  exact ⟨_, results_cellB _ _ (w.heap.size + 1) (errV 3) rfl HW.out.2, rfl, HW.out.1⟩
theorem own_beyond {w : World} {base n m c : Nat} {A : Option Addr} {l : List UInt8} (h : OwnB w base (.slice A n c) m l) : ∀ b q, A = some ⟨b, q, none⟩ → base ≤ b := fun b q e => by
  subst e
  exact (World.ownsRow.lt h b rfl).1
/-- Records of one, in memory. -/
theorem recs_one {W : World} {base d r g : Nat} {own : Nat → Prop} {fl : List (List UInt8)} {ws : List (Nat × List UInt8)} {P : List UInt8} (sg : Sg W base d r g own fl ws [P]) :
    Calls Tryd.prog 18 #[.pointer (some ⟨r, 0, none⟩)] W fun e w' => ∃ q A c, e = .returned (.slice (some ⟨q, 0, none⟩) 1 1) ∧ Below W.heap.size W w' ∧ w'.cell? ⟨q, 0, none⟩ = some (.slice A P.length c) ∧ OwnB w' W.heap.size (.slice A P.length c) P.length P := by
  refine sg.records.mono ?_
  rintro e w' ⟨q, vs, rfl, hq, ⟨h1, h2, h3⟩, hb⟩
  obtain ⟨v, hv⟩ : ∃ v, vs[0]? = some v := ⟨_, List.getElem?_eq_getElem (by rw [h2]; simp)⟩
  have ho := (h3 0 v P hv rfl).1
  obtain ⟨-, A, c, rfl, -, -, -⟩ := own_form ho
  exact ⟨q, A, c, rfl, hb, by rw [h1.cell 0, List.getElem?_toArray]; exact hv, ho⟩
/-- While a copy's bytes are counted up. -/
def Bump (W : World) (A : Option Addr) (m : Nat) (wr : World) : Prop :=
  (0 < m → ∃ g cur, A = some ⟨g, 0, none⟩ ∧ W.heap.size ≤ g ∧ Blk wr g 5 cur ∧ ∀ j, j < m → ∃ u : UInt8, cur[j]? = some (.int .u8 (u.toNat : Int))) ∧ Below W.heap.size W wr
theorem Bump.start {W w' : World} {A : Option Addr} {c : Nat} {P : List UInt8} (ho : OwnB w' W.heap.size (.slice A P.length c) P.length P) (hb : Below W.heap.size W w') : Bump W A P.length w' := by
  refine ⟨fun hm => ?_, hb⟩
  unfold OwnB at ho
  rcases ho.2 with ⟨-, h⟩ | ⟨g, cap, cur, e, hg, hB, hnc, -, hs, ht⟩
  · omega
  · injection e with e1 e2 e3
    refine ⟨g, cur, e1, hg, hB, fun j hj => ⟨P[j], ?_⟩⟩
    have h1 : (cur.toList.take (P.length * 1))[j]? = some (enc8 P[j]) := by rw [ht]; simp [hj]
    rw [List.getElem?_take, if_pos (by omega), Array.getElem?_toList] at h1
    exact h1
theorem Bump.set_ {W wr : World} {A : Option Addr} {m g : Nat} {cur : Array Value} (hA : A = some ⟨g, 0, none⟩) (hg : W.heap.size ≤ g) (hB : Blk wr g 5 cur) (hc : ∀ j, j < m → ∃ u : UInt8, cur[j]? = some (.int .u8 (u.toNat : Int))) (hb : Below W.heap.size W wr) (k : Nat) (u : UInt8) :
    Bump W A m (wr.setCell ⟨g, k, none⟩ (.int .u8 (u.toNat : Int))) := by
  refine ⟨fun hm => ⟨g, _, hA, hg, hB.set_ k _, fun j hj => ?_⟩, hb.setCell (p := ⟨g, k, none⟩) hg _⟩
  by_cases hjk : j = k
  · subst hjk
    obtain ⟨u1, h1⟩ := hc j hj
    exact ⟨u, by rw [Array.getElem?_setIfInBounds_self_of_lt (Array.getElem?_eq_some_iff.1 h1).1]⟩
  · rw [Array.getElem?_setIfInBounds_ne (by omega)]
    exact hc j hj
theorem wrap_up (u : UInt8) : IntKind.u8.wrap ((u.toNat : Int) + 1) = ((u + 1).toNat : Int) := by
  rw [IntKind.wrap_u8, UInt8.toNat_add]
  simp
section
variable {w : World} {N n1 c1 n2 c2 : Nat} {A1 A2 : Option Addr} {l1 : List UInt8} {rs2 : List Rw}
/-- Behind Make. -/
def Niled (W : World) (d : Nat) (fl : List (List UInt8)) (P : List UInt8) (vr ve : Value) (W' : World) : Prop :=
  (fl.length < 6 ∧ vr = .pointer none ∧ ve = .iface 38 (.int .i64 1) ∧ ∃ o ws, Dr W' W.heap.size d o fl ws (-1) ∧ ws.length ≤ 20) ∨
  (6 ≤ fl.length ∧ ∃ r own fl', vr = .pointer (some ⟨r, 0, none⟩) ∧ ve = .nilIface ∧ Sg W' W.heap.size d r 1 own fl' [] [P])
theorem Niled.below {W W' W2 : World} {d : Nat} {fl : List (List UInt8)} {P : List UInt8} {vr ve : Value} (h : Niled W d fl P vr ve W') (hb : Below W'.heap.size W' W2) : Niled W d fl P vr ve W2 := by
  rcases h with ⟨h1, h2, h3, o, ws, hd, hw⟩ | ⟨h1, r, own, fl', h2, h3, sg⟩
  · exact .inl ⟨h1, h2, h3, o, ws, hd.below hb, hw⟩
  · exact .inr ⟨h1, r, own, fl', h2, h3, sg.below hb⟩
theorem ni_step {w0 W W' W2 : World} {d : Nat} {fl : List (List UInt8)} {P : List UInt8} {vr ve : Value} (h : Niled W d fl P vr ve W' ∧ Below w0.heap.size w0 W') (hb : Below W'.heap.size W' W2) : Niled W d fl P vr ve W2 ∧ Below w0.heap.size w0 W2 := ⟨h.1.below hb, h.2.trans (hb.mono h.2.size)⟩
theorem make_ni {W wr : World} {d c : Nat} {o : Nat → Prop} {fl : List (List UInt8)} {ws : List (Nat × List UInt8)} {A : Option Addr} {P : List UInt8} (hd : Dr wr W.heap.size d o fl ws (-1)) (hfl : fl.length ≤ 20) (hws : ws.length ≤ 20) (hb : Below W.heap.size W wr) (hP : Rd W W.heap.size A P) (hl : P.length ≤ 100) (hc : P.length ≤ c) :
    Calls Tryd.prog 21 #[.pointer (some ⟨d, 0, none⟩), .slice A P.length c] wr fun e W' => ∃ vr ve, e = .returned (.tuple #[vr, ve]) ∧ Niled W d fl P vr ve W' ∧ Below W.heap.size W W' := by
  have hge := hd.ge
  have hq : RdQ wr (fun i => i < W.heap.size) A P := rdq_rd (hP.below hb) hb.size
  by_cases h6 : fl.length < 6
  · refine (Make_dr hd (by omega) (by omega) hq (fun i hi h => by have := hge i h; omega) rfl hc (by omega)).mono ?_
    rintro e W' (⟨-, rfl, hb5⟩ | ⟨h1, -⟩ | ⟨h1, -⟩)
    · exact ⟨_, _, rfl, .inl ⟨h6, rfl, errV_pos (by decide), o, ws, hd.below hb5, hws⟩, hb.trans (hb5.mono hb.size)⟩
    · omega
    · omega
  · refine (make_sg hd hb.size (by omega) (by omega) (by omega) hq (fun i hi h => by have := hge i h; omega) rfl hc (by omega) (by
      unfold fitsN
      rw [if_neg (by omega), if_neg (by rw [pages_small _ (by omega)]; unfold halfN; omega)])).mono ?_
    rintro e W' ⟨r, own, fl', rfl, -, -, sg, ks⟩
    exact ⟨_, _, rfl, .inr ⟨by omega, r, own, fl', rfl, rfl, sg⟩, kept_below ks.1 hb hb.size hge⟩
set_option maxRecDepth 100000 in
set_option maxHeartbeats 8000000 in
theorem RNil_any (_hn : N < 256) (hl1 : l1.length = n1) (hc1 : n1 ≤ maxLen) (hR1 : Rd w w.heap.size A1 l1) (hl2 : rs2.length = n2) (hc2 : n2 ≤ maxLen) (hC2 : Cs w w.heap.size A2 (rs2.map Rw.val)) (hI2 : RwsIn w w.heap.size rs2) (hlw : Laid w) :
    Calls Tryd.prog 5 #[.int .u8 (N : Int), .slice A1 n1 c1, .slice A2 n2 c2] w fun e w' => e = .returned (.bool true) ∧ Below w.heap.size w w' := by
  have cA := awake15 w
  obtain ⟨S, hS⟩ : ∃ S, 1 + N % 20 = S := ⟨_, rfl⟩
  have hS2 : 1 ≤ S ∧ S ≤ 20 := by omega
  have hSi : (1 : Int) + (N : Int) % 20 = (S : Int) := by omega
  have hnb2 : (n2 : Int) ≤ 9223372036854775807 := by unfold maxLen at hc2; omega
  have HL1 := Lib.hid (And.intro hl1 (And.intro hR1 hc1))
  have HL2 := Lib.hid (And.intro hl2 (And.intro hC2 hI2))
  have HL := Lib.hid hlw
  have HS := Lib.hid hS2
  clear hl1 hc1 hR1 hl2 hc2 hC2 hI2 hS hS2 hlw
  go_enter Tryd.func5, Tryd.ntmps5
  go_wp2_with fail
  refine cA.mono ?_
  rintro e w1 ⟨rfl, hb1⟩
  have HB1 := Lib.hid hb1
  have cC := CutW_any A1 n1 c1 w.heap.size 100 l1 w1 (HL1.out.2.1.below hb1) HL1.out.1 (by have := HL1.out.2.2; unfold maxLen at this; omega) (by decide) hb1.size
  clear cA hb1
  go_wp2_with fail
  refine cC.mono ?_
  rintro e w2 ⟨v, rfl, hov, hb2⟩
  obtain ⟨-, A3, c3, rfl, hc3, hm3, hr3⟩ := own_form hov
  have hPl : (l1.take 100).length ≤ 100 := by rw [List.length_take]; omega
  obtain ⟨P, hP⟩ : ∃ P, l1.take 100 = P := ⟨_, rfl⟩
  rw [hP] at hov hc3 hr3 hPl ⊢
  have HP := Lib.hid (And.intro hr3 (And.intro hPl (And.intro hc3 hm3)))
  have HB2 := Lib.hid (HB1.out.trans (hb2.mono HB1.out.size))
  have hpb : (P.length : Int) ≤ 100 := by omega
  have cN := New_dr S (by have := HS.out; omega) (by have := HS.out; omega) w2
  clear cC hov hb2 hc3 hm3 hr3 hPl hP
  go_wp2_with fail
  refine cN.mono ?_
  rintro e w3 ⟨d, o3, rfl, hd3, hb3⟩
  have hlen : (List.replicate S zeros).length = S := List.length_replicate
  obtain ⟨fl, hfl⟩ : ∃ f, List.replicate S zeros = f := ⟨_, rfl⟩
  rw [hfl] at hd3 hlen
  have H3 := Lib.hid (And.intro hd3 hb3)
  have HF := Lib.hid hlen
  clear cN hd3 hb3 hlen hfl
  go_wp2_with fail
  go_loopw [10, 11, 41] (fun _ _ i wr => ∃ k : Nat, k ≤ n2 ∧ i = .int .i64 (k : Int) ∧ ∃ o ws, Dr wr w2.heap.size d o fl ws (-1) ∧ ws.length ≤ 20 ∧ (k ≤ 20 → ws.length ≤ k) ∧ Below w2.heap.size w2 wr) (fun _ _ i _ => n2 - (intOf i).toNat)
  case atStart => exact ⟨0, Nat.zero_le _, rfl, o3, [], H3.out.1, by simp, by simp, H3.out.2⟩
  case round =>
    obtain ⟨k, hk, rfl, o, ws, hd, hws, hwk, hbw⟩ := hrel
    have hkb : (k : Int) ≤ 9223372036854775807 := by omega
    by_cases hlt : k < n2
    · have hlt2 : (k : Int) < (n2 : Int) := by omega
      have hbw0 : Below w.heap.size w wr := HB2.out.trans (hbw.mono HB2.out.size)
      obtain ⟨bp, qp, hAp, hbq, hcp⟩ := (HL2.out.2.1.below hbw0).at_ (k := k) (by rw [List.length_map, HL2.out.1]; exact hlt)
      rw [List.getElem_map] at hcp
      obtain ⟨p, hp⟩ : ∃ p, rs2[k]'(by rw [HL2.out.1]; exact hlt) = p := ⟨_, rfl⟩
      obtain ⟨hpl, hpm, hpr⟩ := HL2.out.2.2 p (by rw [← hp]; exact List.getElem_mem _)
      rw [hp] at hcp
      have hcp : wr.cell? ⟨bp, qp + k, none⟩ = some (.slice p.A p.l.length p.c) := hcp
      subst hAp
      have HD := Lib.hid (And.intro hd (And.intro hws (And.intro hwk hbw)))
      by_cases hkS : k < S
      · have hkS2 : (k : Int) < (S : Int) := by omega
        have cC := CutW_any p.A p.l.length p.c w.heap.size 256 p.l wr (hpr.below hbw0) rfl (by unfold maxLen at hpm; omega) (by decide) hbw0.size
        have HK := Lib.hid hkS
        clear hd hws hwk hbw hbw0 hlt hkS hp hpl hpm hpr
        go_wp2_with fail
        refine cC.mono ?_
        rintro e w5 ⟨v, rfl, hov, hb5⟩
        obtain ⟨-, A5, c5, rfl, hc5, hm5, hr5⟩ := own_form hov
        have hp5 := own_beyond hov
        have hQl : (p.l.take 256).length ≤ 256 := by rw [List.length_take]; omega
        obtain ⟨Q, hQ⟩ : ∃ Q, p.l.take 256 = Q := ⟨_, rfl⟩
        rw [hQ] at hov hc5 hr5 hQl ⊢
        have hkr := RdK.of_new (B := wr.heap.size) hr5 hp5 HD.out.1.lt
        have cW := Write_dr (n := Q.length) (HD.out.1.below hb5) (by decide) (by decide) k c5 (by rw [HF.out]; exact HK.out) hkr rfl hQl (by have := HD.out.2.1; omega)
        rw [show less (-1) = -1 from rfl] at cW
        have hqb : (Q.length : Int) ≤ 256 := by omega
        have H5 := Lib.hid hb5
        clear cC hov hb5 hc5 hm5 hr5 hp5 hQl hQ hkr
        go_wp2_with fail
        refine cW.mono ?_
        rintro e w6 ⟨rfl, o6, hd6, hk6, -⟩
        have hb6 : Below w2.heap.size w2 w6 := by
          have hb5 := HD.out.2.2.2.trans (H5.out.mono HD.out.2.2.2.size)
          exact kept_below hk6 hb5 hb5.size HD.out.1.ge
        have H6 := Lib.hid (And.intro hd6 hb6)
        clear cW hd6 hk6 hb6
        go_wp2_with fail
        go_roundw
        case rel => exact ⟨k + 1, by omega, congrArg (Value.int .i64) (by omega), o6, _, H6.out.1, by have := HD.out.2.2.1; have := HK.out; have := HS.out; simp; omega, fun _ => by have := HD.out.2.2.1; simp; omega, H6.out.2⟩
        case measure => simp [intOf]; omega
      · have hkS2 : ¬ (k : Int) < (S : Int) := by omega
        clear hd hws hwk hbw hbw0 hlt hkS hp hpl hpm hpr
        go_wp2_with fail
        go_roundw
        case rel => exact ⟨k + 1, by omega, congrArg (Value.int .i64) (by omega), o, ws, HD.out.1, HD.out.2.1, fun h => by have := HD.out.2.2.1; omega, HD.out.2.2.2⟩
        case measure => simp [intOf]; omega
    · have hlt2 : ¬ (k : Int) < (n2 : Int) := by omega
      have cM := make_ni hd (by rw [HF.out]; have := HS.out; omega) hws hbw HP.out.1 HP.out.2.1 HP.out.2.2.1
      clear hd hws hwk hbw hlt
      go_wp2_with fail
      refine cM.mono ?_
      rintro e w5 ⟨vr, ve, rfl, hni, hb5⟩
      have H5 := Lib.hid (And.intro hni hb5)
      have c1 := fun W => Make_nil A3 P.length c3 W
      have c2 := fun W => Open_nil W
      rw [errV_pos (by decide)] at c1 c2
      clear cM hni hb5
      go_wp2_with fail
      refine (c1 _).mono ?_
      rintro e w6 ⟨rfl, hw6⟩
      subst hw6
      clear c1
      go_wp2_with fail
      refine (c2 _).mono ?_
      rintro e w6' ⟨rfl, hw6⟩
      subst hw6
      clear c2
      go_wp2_with fail
      have HX := H5
      clear H5
      have cz := Code_errno 3 _ (HL.out.below (HB2.out.trans (HX.out.2.mono HB2.out.size)))
      go_wp2_with fail
      refine cz.mono ?_
      rintro e pa ⟨rfl, hbz⟩
      have HY := Lib.hid (ni_step HX.out hbz)
      clear cz hbz HX
      have HX := HY
      clear HY
      have cz := Code_errno 3 _ (HL.out.below (HB2.out.trans (HX.out.2.mono HB2.out.size)))
      go_wp2_with fail
      refine cz.mono ?_
      rintro e pb ⟨rfl, hbz⟩
      have HY := Lib.hid (ni_step HX.out hbz)
      clear cz hbz HX
      have HX := HY
      clear HY
      have cz := fun W => Append_nil A3 P.length c3 W
      rw [errV_pos (by decide)] at cz
      go_wp2_with fail
      refine (cz _).mono ?_
      rintro e pc ⟨rfl, hbz⟩
      have HY := Lib.hid (ni_step HX.out hbz)
      clear cz hbz HX
      have HX := HY
      clear HY
      have cz := Code_errno 3 _ (HL.out.below (HB2.out.trans (HX.out.2.mono HB2.out.size)))
      go_wp2_with fail
      refine cz.mono ?_
      rintro e pd ⟨rfl, hbz⟩
      have HY := Lib.hid (ni_step HX.out hbz)
      clear cz hbz HX
      have HX := HY
      clear HY
      have cz := fun W => RFlush_nil W
      rw [errV_pos (by decide)] at cz
      go_wp2_with fail
      refine (cz _).mono ?_
      rintro e pe ⟨rfl, hwz⟩
      subst hwz
      clear cz
      have cz := Code_errno 3 _ (HL.out.below (HB2.out.trans (HX.out.2.mono HB2.out.size)))
      go_wp2_with fail
      refine cz.mono ?_
      rintro e pf ⟨rfl, hbz⟩
      have HY := Lib.hid (ni_step HX.out hbz)
      clear cz hbz HX
      have HX := HY
      clear HY
      have cz := fun W => Turn_nil A3 P.length c3 W
      rw [errV_pos (by decide)] at cz
      go_wp2_with fail
      refine (cz _).mono ?_
      rintro e pg ⟨rfl, hwz⟩
      subst hwz
      clear cz
      have cz := Code_errno 3 _ (HL.out.below (HB2.out.trans (HX.out.2.mono HB2.out.size)))
      go_wp2_with fail
      refine cz.mono ?_
      rintro e ph ⟨rfl, hbz⟩
      have HY := Lib.hid (ni_step HX.out hbz)
      clear cz hbz HX
      have HX := HY
      clear HY
      have cz := fun W => Records_nil W
      go_wp2_with fail
      refine (cz _).mono ?_
      rintro e pi ⟨rfl, hwz⟩
      subst hwz
      clear cz
      have cz := fun W => Count_nil W
      go_wp2_with fail
      refine (cz _).mono ?_
      rintro e pj ⟨rfl, hwz⟩
      subst hwz
      clear cz
      have cz := fun W => Gen_nil W
      go_wp2_with fail
      refine (cz _).mono ?_
      rintro e pk ⟨rfl, hwz⟩
      subst hwz
      clear cz
      have cz := fun W => Room_nil W
      go_wp2_with fail
      refine (cz _).mono ?_
      rintro e pl ⟨rfl, hwz⟩
      subst hwz
      clear cz
      by_cases h6 : S < 6
      · have hS6 : (S : Int) < 6 := by omega
        rcases HX.out.1 with ⟨h1, rfl, rfl, o, ws, hd, hws⟩ | ⟨h1, -⟩
        · have cO := Open_dr hd (by omega) (by omega)
          clear hd hws h6
          go_wp2_with fail
          refine cO.mono ?_
          rintro e wO (⟨k9, hk9, rfl, hbO⟩ | ⟨r, rfl, j, L, own, fl', ws', h6', -⟩)
          · have hk1 : k9 = 1 := by rcases hk9 with ⟨h, -⟩ | ⟨-, h, -⟩ | ⟨-, h, -⟩ <;> omega
            subst hk1
            rw [errV_pos (by decide)]
            have HO9 := HX.out.2.trans (hbO.mono HX.out.2.size)
            have HO := Lib.hid (HB2.out.trans (HO9.mono HB2.out.size))
            clear HO9
            have cz := Code_errno 1 _ (HL.out.below HO.out)
            clear cO hbO hk9
            go_wp2_with fail
            refine cz.mono ?_
            rintro e wP ⟨rfl, hbP⟩
            have HP2 := Lib.hid (HO.out.trans (hbP.mono HO.out.size))
            have cy := Code_errno 1 _ (HL.out.below HP2.out)
            clear cz hbP
            go_wp2_with fail
            refine cy.mono ?_
            rintro e wQ ⟨rfl, hbQ⟩
            have HQ := Lib.hid (HP2.out.trans (hbQ.mono HP2.out.size))
            clear cy hbQ
            go_wp2_with fail
            go_ret
            exact ⟨rfl, HQ.out⟩
          · omega
        · have := HF.out
          omega
      · have hS6 : ¬ (S : Int) < 6 := by omega
        rcases HX.out.1 with ⟨h1, -⟩ | ⟨h1, r, own, fl', rfl, rfl, sg⟩
        · have := HF.out
          omega
        · have cR := recs_one sg
          have HG := Lib.hid sg
          clear sg h6
          go_wp2_with fail
          refine cR.mono ?_
          rintro e w8 ⟨q8, A8, c8, rfl, hb8, hc8, ho8⟩
          have hbu := Bump.start ho8 hb8
          have H8 := Lib.hid (And.intro hb8 (And.intro hc8 hbu))
          clear cR hb8 hc8 ho8 hbu
          go_wp2_with fail
          go_loopw [22, 23, 136] (fun _ _ i wy => ∃ k : Nat, k ≤ 1 ∧ i = .int .i64 (k : Int) ∧ (k = 0 → wy = w8) ∧ Below pl.heap.size pl wy) (fun _ _ i _ => 1 - (intOf i).toNat)
          case atStart => exact ⟨0, Nat.zero_le _, rfl, fun _ => rfl, H8.out.1⟩
          case round =>
            obtain ⟨k2, hk2, rfl, hw8, hbr⟩ := hrel
            by_cases hk0 : k2 = 0
            · subst hk0
              have hw9 := hw8 rfl
              subst hw9
              have hc8 := H8.out.2.1
              clear hw8 hbr hk2
              go_wp2_with fail
              go_loopw [23, 142] (fun _ i wz => ∃ j : Nat, j ≤ P.length ∧ i = .int .i64 (j : Int) ∧ Bump pl A8 P.length wz) (fun _ i _ => P.length - (intOf i).toNat)
              case atStart => exact ⟨0, Nat.zero_le _, rfl, H8.out.2.2⟩
              case round =>
                obtain ⟨j, hj, rfl, hbu⟩ := hrel
                by_cases hlt : j < P.length
                · have hlt2 : (j : Int) < (P.length : Int) := by omega
                  obtain ⟨g, cur, hA, hg, hB, hcu⟩ := hbu.1 (by omega)
                  obtain ⟨u, hu⟩ := hcu j hlt
                  have s1 := hB.frozen j
                  have s0 : World.cell? _ ⟨g, j, none⟩ = some (.int .u8 (u.toNat : Int)) := (hB.cell j).trans hu
                  have hwu := wrap_up u
                  have HR := Lib.hid (Bump.set_ (m := P.length) hA hg hB hcu hbu.2 j (u + 1))
                  subst hA
                  clear hB hcu hu hbu hlt
                  go_wp2_with fail
                  go_roundw
                  case rel => exact ⟨j + 1, by omega, congrArg (Value.int .i64) (by omega), HR.out⟩
                  case measure => simp [intOf]; omega
                · have hlt2 : ¬ (j : Int) < (P.length : Int) := by omega
                  have HR := Lib.hid hbu.2
                  clear hbu hlt
                  go_wp2_with fail
                  go_roundw
                  case rel => exact ⟨1, Nat.le_refl _, rfl, fun h => absurd h (by decide), HR.out⟩
                  case measure => simp [intOf]
            · have hk1 : k2 = 1 := by omega
              subst hk1
              clear hk0 hk2 hw8
              have HR := Lib.hid hbr
              clear hbr
              go_wp2_with fail
              have sgR := HG.out.below HR.out
              obtain ⟨o9, hd9, -⟩ := sgR.dr
              have cF := good_flushed hd9 sgR.good
              have H9 := Lib.hid (And.intro sgR (HX.out.2.trans (HR.out.mono HX.out.2.size)))
              clear sgR hd9
              go_wp2_with fail
              refine cF.mono ?_
              rintro e wA ⟨dA, oA, rfl, hdA, hGA, hbA⟩
              have cO := open_sg hdA hbA.size hGA H9.out.1.few (by simp) (by simp)
              have hgeA := hdA.ge
              have HA := Lib.hid (And.intro hbA hgeA)
              clear cF hdA hGA hbA hgeA
              go_wp2_with fail
              refine cO.mono ?_
              rintro e wB ⟨rB, ownB, flB, wsB, rfl, hrB, hlB, hwB, sgB, ksB⟩
              have hbB := kept_below ksB.1 HA.out.1 HA.out.1.size HA.out.2
              have HBB := Lib.hid (And.intro (H9.out.2.trans (hbB.mono H9.out.2.size)) (H9.out.1.below hbB))
              have cR := sgB.records
              clear cO hrB hlB hwB sgB ksB hbB
              go_wp2_with fail
              refine cR.mono ?_
              rintro e wE ⟨qE, vsE, rfl, -, hrecE, hbE⟩
              obtain ⟨rsE, hLE, hlsE⟩ := recs_lst hrecE (by simp)
              have hb2E := HBB.out.1.trans (hbE.mono HBB.out.1.size)
              have hRE := (HP.out.1.below hb2E).more hb2E.size
              have hLF := lst_one wE A3 c3 P HP.out.2.2.1 HP.out.2.2.2 hRE
              have hbF : Below wE.heap.size wE (wE.alloc (.cells #[.slice A3 P.length c3] 23)) := (Below.refl _ _).alloc (Nat.le_refl _) _
              have HE := Lib.hid (And.intro (hLE.below hbF) (And.intro hLF (And.intro hlsE (And.intro hb2E (And.intro hbF hbE)))))
              rw [show ([P] : List (List UInt8)).length = 1 from rfl]
              clear cR hrecE hbE hLE hlsE hRE hLF hbF hb2E
              go_wp2_with fail
              obtain ⟨wF, hwF⟩ : ∃ W, wE.alloc (.cells #[.slice A3 P.length c3] 23) = W := ⟨_, rfl⟩
              rw [hwF] at HE ⊢
              clear hwF
              have hPs : P.length ≤ 1000000 := by have := HP.out.2.1; omega
              have hsm : ∀ (rs : List Rw), lsOf rs = [P] → ∀ r ∈ rs, r.l.length ≤ 1000000 := fun rs h r hr => by
                have : r.l ∈ lsOf rs := List.mem_map_of_mem hr
                rw [h, List.mem_singleton] at this
                rw [this]; exact hPs
              have cS := RSame_any HE.out.1 HE.out.2.1 (by simp) (by decide) (hsm _ HE.out.2.2.1) (hsm _ rfl)
              rw [decide_eq_true (HE.out.2.2.1.trans (lsOf_one A3 c3 P).symm)] at cS
              have HSM := Lib.hid hsm
              clear hsm hPs
              refine cS.mono ?_
              rintro e wG ⟨rfl, hbG⟩
              have hbFG := HE.out.2.2.2.2.1.trans (hbG.mono HE.out.2.2.2.2.1.size)
              have hbBG := HE.out.2.2.2.2.2.trans (hbFG.mono HE.out.2.2.2.2.2.size)
              have cR2 := (HBB.out.2.below hbBG).records
              have HGG := Lib.hid (HBB.out.1.trans (hbBG.mono HBB.out.1.size))
              clear cS hbG hbFG hbBG HE
              go_wp2_with fail
              refine cR2.mono ?_
              rintro e wH ⟨qH, vsH, rfl, -, hrecE, hbE⟩
              obtain ⟨rsE, hLE, hlsE⟩ := recs_lst hrecE (by simp)
              have hb2E := HGG.out.trans (hbE.mono HGG.out.size)
              have hRE := (HP.out.1.below hb2E).more hb2E.size
              have hLF := lst_one wH A3 c3 P HP.out.2.2.1 HP.out.2.2.2 hRE
              have hbF : Below wH.heap.size wH (wH.alloc (.cells #[.slice A3 P.length c3] 23)) := (Below.refl _ _).alloc (Nat.le_refl _) _
              have HE := Lib.hid (And.intro (hLE.below hbF) (And.intro hLF (And.intro hlsE (hb2E.trans (hbF.mono hb2E.size)))))
              rw [show ([P] : List (List UInt8)).length = 1 from rfl]
              clear cR2 hrecE hbE hLE hlsE hRE hLF hbF hb2E
              go_wp2_with fail
              obtain ⟨wI, hwI⟩ : ∃ W, wH.alloc (.cells #[.slice A3 P.length c3] 23) = W := ⟨_, rfl⟩
              rw [hwI] at HE ⊢
              clear hwI
              have cS := RSame_any HE.out.1 HE.out.2.1 (by simp) (by decide) (HSM.out _ HE.out.2.2.1) (HSM.out _ rfl)
              rw [decide_eq_true (HE.out.2.2.1.trans (lsOf_one A3 c3 P).symm)] at cS
              refine cS.mono ?_
              rintro e wJ ⟨rfl, hbJ⟩
              have hb2J := HE.out.2.2.2.trans (hbJ.mono HE.out.2.2.2.size)
              have HJ := Lib.hid (HB2.out.trans (hb2J.mono HB2.out.size))
              clear cS hbJ hb2J
              go_wp2_with fail
              go_ret
              exact ⟨rfl, HJ.out⟩
end
end Go.Proofs.YtbaenpgjggojaaaDoor
