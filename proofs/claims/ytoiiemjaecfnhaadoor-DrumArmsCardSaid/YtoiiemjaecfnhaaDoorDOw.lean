/-
  DrumOwns: the law's walk. Conditions: the arguments are there; errors.errorType is laid.
-/
import Derived.Test.YtoiiemjaecfnhaaDoorDrumN
import Derived.Test.YtoiiemjaecfnhaaDoorDrumY
import Derived.Test.YtoiiemjaecfnhaaDoorJoinB
import Derived.Test.YtoiiemjaecfnhaaDoorCodeC
namespace Go.Proofs.YtoiiemjaecfnhaaDoor
open Go.RowKit

theorem full_self (l : List UInt8) (h : l.length = 256) : full l = l := by unfold full; rw [h, Nat.sub_self, List.replicate_zero, List.append_nil]
theorem take_len (l : List UInt8) : (l.take 256).length ≤ 256 := by rw [List.length_take]; exact Nat.min_le_left _ _
/-- A block that begins with n bytes, whatever they are. -/
def Bys (w : World) (g n : Nat) : Prop := ∃ cs t, Blk w g t cs ∧ ∀ j, j < n → ∃ u : Nat, cs[j]? = some (.int .u8 (u : Int)) ∧ u < 256
theorem Bys.of_blk {w : World} {g : Nat} {l : List UInt8} (h : Blk w g 5 (l.map enc8).toArray) : Bys w g l.length := ⟨_, _, h, fun j hj => ⟨l[j].toNat, by rw [List.getElem?_toArray, List.getElem?_map, List.getElem?_eq_getElem hj]; rfl, l[j].toNat_lt⟩⟩
theorem Bys.of_own {w : World} {base g n c : Nat} {l : List UInt8} (h : OwnB w base (.slice (some ⟨g, 0, none⟩) n c) n l) : Bys w g n := by
  unfold OwnB at h
  rcases h.2 with ⟨e, _⟩ | ⟨g', cap, cur, e, _, hg, hnc, _, hs, ht⟩
  · cases e
  · injection e with e _ _
    injection e with e
    injection e with e _ _
    subst e
    refine ⟨cur, _, hg, fun j hj => ?_⟩
    have hl : l.length = n := by have := h.1; simpa using this
    refine ⟨l[j].toNat, ?_, l[j].toNat_lt⟩
    have e2 : (cur.toList.take (n * 1))[j]? = (l.map enc8)[j]? := by rw [ht]
    rw [List.getElem?_take, if_pos (by omega), Array.getElem?_toList, List.getElem?_map, List.getElem?_eq_getElem (by omega)] at e2
    exact e2
theorem Bys.set_ {w : World} {g n k : Nat} (h : Bys w g n) (u : Nat) (hu : u < 256) : Bys (w.setCell ⟨g, k, none⟩ (.int .u8 (u : Int))) g n := by
  obtain ⟨cs, t, hb, hc⟩ := h
  refine ⟨_, _, hb.set_ k _, fun j hj => ?_⟩
  obtain ⟨v, hv, hvl⟩ := hc j hj
  rw [Array.getElem?_setIfInBounds]
  split
  · have : j < cs.size := (Array.getElem?_eq_some_iff.1 hv).1
    rename_i e
    subst e
    rw [if_pos this]
    exact ⟨u, rfl, hu⟩
  · exact ⟨v, hv, hvl⟩
theorem Bys.kept {w w' : World} {g n : Nat} {own : Nat → Prop} (h : Bys w g n) (hk : Kept own w w') (hn : ¬ own g) : Bys w' g n := by
  obtain ⟨cs, t, hb, hc⟩ := h
  exact ⟨cs, t, (hk.block g hb.lt hn).trans hb, hc⟩
section
variable {A : Option Addr} {n c : Nat} {l : List UInt8} {w : World}
set_option maxRecDepth 100000 in
set_option maxHeartbeats 16000000 in
theorem DOwns_any (N i bit : Int) (mask : Int) (hlw : Laid w) (hR : Rd w w.heap.size A l) (hn : l.length = n) (hm : n ≤ 140737488355328) :
    Calls Tryd.prog 5 #[.slice A n c, .int .i64 N, .int .i64 i, .int .i64 bit, .int .u32 mask] w fun e w' => e = .returned (.bool true) ∧ Below w.heap.size w w' := by
  go_enter Tryd.func5, Tryd.ntmps5
  go_wp2_with fail
  refine (awake1_any w).mono ?_
  rintro e w1 ⟨rfl, hb1⟩
  go_wp2_with fail
  refine (Cut_any A n c w.heap.size 256 l w1 (hR.below hb1) hn hm (by decide) hb1.size).mono ?_
  rintro e w2 ⟨A3, c3, rfl, hc3, hcm3, hr2, hb2⟩
  have HB2 : Hid (Below w.heap.size w w2) := Lib.hid (hb1.trans (hb2.mono hb1.size))
  obtain ⟨L, hL⟩ : ∃ L, L = l.take 256 := ⟨_, rfl⟩
  rw [← hL] at hr2 hc3 ⊢
  have hLl : L.length ≤ 256 := by rw [hL]; exact take_len l
  have HR2 := Lib.hid hr2
  clear hb1 hb2 hL hc3 hcm3 hR hr2
  go_wp2_with fail
  refine (New_dr 2 (by decide) (by decide) _).mono ?_
  rintro e w3 ⟨d, o, rfl, hd3, hw3⟩
  have HD3 : Hid (Dr w3 w2.heap.size d o [zeros, zeros] [] (-1)) := Lib.hid hd3
  have HB3 : Hid (Below w2.heap.size w2 w3) := Lib.hid hw3
  clear hd3 hw3
  go_wp2_with fail
  refine (Join_one_own A3 L.length c3 w2.heap.size L w3 (HR2.out.below HB3.out) HB3.out.size rfl (by omega)).mono ?_
  rintro e w4 ⟨v4, rfl, hown, hw4⟩
  have HOWN := Lib.hid hown
  obtain ⟨-, A4, c4, rfl, hc4, hcm4, hr4⟩ := own_form hown
  have hw34 : Below w3.heap.size w3 w4 := hw4
  have HD4 := Lib.hid (HD3.out.below hw34)
  have HOL4 : Hid (∀ j, o j → j < w3.heap.size) := Lib.hid HD3.out.lt
  have HP4 : Hid (∀ b q, A4 = some ⟨b, q, none⟩ → w3.heap.size ≤ b) := Lib.hid fun b q e => by subst e; exact (World.ownsRow.lt HOWN.out b rfl).1
  have HR4 : Hid (RdK o w4 A4 L) := Lib.hid (RdK.of_new (B := w3.heap.size) hr4 HP4.out HOL4.out)
  have HB4 : Hid (Below w2.heap.size w2 w4) := Lib.hid (HB3.out.trans (hw34.mono HB3.out.size))
  have HSZ : Hid (w2.heap.size ≤ w3.heap.size) := Lib.hid HB3.out.size
  clear hown hr4 hw4 hw34 HD3 HB3 hc4 hcm4
  go_wp2_with fail
  refine (Write_dr HD4.out (by decide) (by decide) 1 c4 (by decide) HR4.out rfl hLl (by decide)).mono ?_
  rintro e w5 ⟨rfl, o5, hd5, hk5, ho5⟩
  have HD5 : Hid (Dr w5 w2.heap.size d o5 [zeros, zeros] [(1, full L)] (-1)) := Lib.hid hd5
  have HB5 : Hid (Below w2.heap.size w2 w5) := Lib.hid (HB4.out.trans (hk5.below (B := w2.heap.size) HB4.out.size (fun i hi e => absurd (HD4.out.ge i e) (by omega))))
  have HM5 : Hid (0 < L.length → ∃ g, A4 = some ⟨g, 0, none⟩ ∧ Bys w5 g L.length ∧ ¬ o5 g ∧ w2.heap.size ≤ g) := Lib.hid fun h0 => by
    obtain ⟨g, cap, hv, _, hlt⟩ := World.ownsRow.form HOWN.out h0
    have hA : A4 = some ⟨g, 0, none⟩ := by injection hv
    subst hA
    have hge := HP4.out g 0 rfl
    have hno : ¬ o g := fun e => absurd (HOL4.out g e) (by omega)
    exact ⟨g, rfl, (Bys.of_own HOWN.out).kept hk5 hno, fun e => hno (ho5 g hlt e), by have := HSZ.out; omega⟩
  clear hd5 hk5 ho5 HD4 HR4 HB4 HOWN HP4 HOL4 HSZ
  go_wp2
  go_loopw [14, 39] (fun _ z wr => ∃ k : Nat, k ≤ L.length ∧ z = .int .i64 k ∧ Dr wr w2.heap.size d o5 [zeros, zeros] [(1, full L)] (-1) ∧ Below w2.heap.size w2 wr ∧ (0 < L.length → ∃ g, A4 = some ⟨g, 0, none⟩ ∧ Bys wr g L.length ∧ ¬ o5 g ∧ w2.heap.size ≤ g)) (fun _ z _ => L.length - (intOf z).toNat)
  case atStart => exact ⟨0, Nat.zero_le _, rfl, HD5.out, HB5.out, HM5.out⟩
  case round =>
    clear HD5 HB5 HM5
    obtain ⟨k, hk, rfl, hd6, hb6, hm6⟩ := hrel
    by_cases hlt : k < L.length
    · obtain ⟨g, rfl, hby, hng, hg2⟩ := hm6 (by omega)
      obtain ⟨cs, ty, hbk, hcs⟩ := hby
      obtain ⟨u, hu, hul⟩ := hcs k hlt
      have hc : wr.cell? ⟨g, k, none⟩ = some (.int .u8 (u : Int)) := by rw [hbk.cell]; exact hu
      have hfz := hbk.frozen k
      have i0 : (0 : Int) ≤ (k : Int) := by omega
      have i1 : (k : Int) < (L.length : Int) := by omega
      obtain ⟨u', hu'⟩ : ∃ u' : Nat, u' = (u + 1) % 256 := ⟨_, rfl⟩
      have e1 : IntKind.u8.wrap ((u : Int) + 1) = (u' : Int) := by rw [IntKind.wrap_u8]; omega
      have e2 : ((u : Int) + 1) % 256 = (u' : Int) := by omega
      have HE2 := Lib.hid e2
      have HBY : Hid (Bys (wr.setCell ⟨g, k, none⟩ (.int .u8 (u' : Int))) g L.length) := Lib.hid (Bys.set_ ⟨cs, ty, hbk, hcs⟩ u' (by omega))
      have hks : Kept (fun i => i = g) wr (wr.setCell ⟨g, k, none⟩ (.int .u8 (u' : Int))) := kept_set wr g k none _
      have HD7 := Lib.hid (hd6.keep hks (fun i hi e => by subst e; exact hng hi))
      have HB7 : Hid (Below w2.heap.size w2 (wr.setCell ⟨g, k, none⟩ (.int .u8 (u' : Int)))) := Lib.hid (hb6.trans (hks.below (B := w2.heap.size) hb6.size (fun i hi e => by omega)))
      have HNG := Lib.hid hng
      clear hm6 hbk hcs hu hks hd6 hb6 hu' hng e2
      go_wp2
      try rw [HE2.out]
      go_roundw
      case rel => exact ⟨k + 1, by omega, by go_num, HD7.out, HB7.out, fun _ => ⟨g, rfl, HBY.out, HNG.out, hg2⟩⟩
      case measure => simp [intOf]; omega
    · have HD6 := Lib.hid hd6
      have HB6 := Lib.hid hb6
      clear hm6 hd6 hb6
      go_wp2_with fail
      refine (Read_dr HD6.out 1 (by decide)).mono ?_
      rintro e w7 ⟨rfl, hb7, hw7⟩
      have hn7 : now [zeros, zeros] [(1, full L)] 1 = full L := rfl
      have hfl : (full L).length = 256 := full_length L hLl
      have hby7 : Bys w7 wr.heap.size 256 := by have h := Bys.of_blk hb7; rw [hn7, hfl] at h; exact h
      have HOL : Hid (∀ j, o5 j → j < wr.heap.size) := Lib.hid HD6.out.lt
      have HSW : Hid (w2.heap.size ≤ wr.heap.size) := Lib.hid HB6.out.size
      have HD7 := Lib.hid (HD6.out.below hw7)
      have HB7 : Hid (Below w2.heap.size w2 w7) := Lib.hid (HB6.out.trans (hw7.mono HB6.out.size))
      have HY7 := Lib.hid hby7
      obtain ⟨q, hq⟩ : ∃ q, q = wr.heap.size := ⟨_, rfl⟩
      rw [← hq] at HY7 HOL HSW ⊢
      clear hb7 hn7 hby7 hw7 HD6 HB6 hq
      go_wp2
      go_loopw [17, 56] (fun _ z wv => ∃ k : Nat, k ≤ 256 ∧ z = .int .i64 k ∧ Dr wv w2.heap.size d o5 [zeros, zeros] [(1, full L)] (-1) ∧ Below w2.heap.size w2 wv ∧ Bys wv q 256) (fun _ z _ => 256 - (intOf z).toNat)
      case atStart => exact ⟨0, Nat.zero_le _, rfl, HD7.out, HB7.out, HY7.out⟩
      case round =>
        clear HD7 HB7 HY7
        obtain ⟨j, hj, rfl, hd8, hb8, hby⟩ := hrel
        by_cases hjl : j < 256
        · obtain ⟨cs, ty, hbk, hcs⟩ := hby
          obtain ⟨u, hu, hul⟩ := hcs j hjl
          have hc : wr.cell? ⟨q, j, none⟩ = some (.int .u8 (u : Int)) := by rw [hbk.cell]; exact hu
          have hfz := hbk.frozen j
          have i0 : (0 : Int) ≤ (j : Int) := by omega
          have i1 : (j : Int) < 256 := by omega
          obtain ⟨u', hu'⟩ : ∃ u' : Nat, u' = (u + 1) % 256 := ⟨_, rfl⟩
          have e1 : IntKind.u8.wrap ((u : Int) + 1) = (u' : Int) := by rw [IntKind.wrap_u8]; omega
          have e2 : ((u : Int) + 1) % 256 = (u' : Int) := by omega
          have HE2 := Lib.hid e2
          have HBY : Hid (Bys (wr.setCell ⟨q, j, none⟩ (.int .u8 (u' : Int))) q 256) := Lib.hid (Bys.set_ ⟨cs, ty, hbk, hcs⟩ u' (by omega))
          have hks : Kept (fun i => i = q) wr (wr.setCell ⟨q, j, none⟩ (.int .u8 (u' : Int))) := kept_set wr q j none _
          have HD9 := Lib.hid (hd8.keep hks (fun i hi e => by have := HOL.out i hi; omega))
          have HB9 : Hid (Below w2.heap.size w2 (wr.setCell ⟨q, j, none⟩ (.int .u8 (u' : Int)))) := Lib.hid (hb8.trans (hks.below (B := w2.heap.size) hb8.size (fun i hi e => by have := HSW.out; omega)))
          clear hbk hcs hu hks hd8 hb8 hu' e2
          go_wp2
          try rw [HE2.out]
          go_roundw
          case rel => exact ⟨j + 1, by omega, by go_num, HD9.out, HB9.out, HBY.out⟩
          case measure => simp [intOf]; omega
        · have HD8 := Lib.hid hd8
          have HB8 := Lib.hid hb8
          clear hd8 hb8 hby
          go_wp2_with fail
          refine (Read_dr HD8.out 1 (by decide)).mono ?_
          rintro e w9 ⟨rfl, hb9, hw9⟩
          rw [show now [zeros, zeros] [(1, full L)] 1 = full L from rfl] at hb9
          have HB9 : Hid (Below w2.heap.size w2 w9) := Lib.hid (HB8.out.trans (hw9.mono HB8.out.size))
          have HQ9 := Lib.hid (blk_rd hb9 hb9.lt)
          clear hb9 hw9 HD8 HB8
          obtain ⟨x9, hx9⟩ : ∃ x, x = wr.heap.size := ⟨_, rfl⟩
          rw [← hx9] at HQ9 ⊢
          clear hx9
          by_cases hN : 1 ≤ N ∧ N ≤ 8192
          · have hn1 : 1 ≤ N := hN.1
            have hn2 : N ≤ 8192 := hN.2
            obtain ⟨M, hM⟩ : ∃ M : Nat, N = (M : Int) := ⟨N.toNat, by omega⟩
            subst hM
            go_wp2_with fail
            refine (New_dr M (by omega) (by omega) _).mono ?_
            rintro e w10 ⟨d10, o10, rfl, hd10, hw10⟩
            have HQ10 := Lib.hid ((HQ9.out.below hw10).more hw10.size)
            have HB10 : Hid (Below w2.heap.size w2 w10) := Lib.hid (HB9.out.trans (hw10.mono HB9.out.size))
            clear hd10 hw10 HQ9 HB9 hN
            go_wp2_with fail
            refine (Read_nil i w10).mono ?_
            rintro e wA ⟨rfl, hwA⟩
            obtain rfl : w10 = wA := hwA.symm
            go_wp2_with fail
            refine (Arm_nil (M : Int) w10).mono ?_
            rintro e wA ⟨rfl, hwA⟩
            obtain rfl : w10 = wA := hwA.symm
            go_wp2_with fail
            refine (Full_any A3 L.length c3 w2.heap.size L _ (HR2.out.below HB10.out) HB10.out.size rfl hLl).mono ?_
            rintro e w20 ⟨rfl, hb20, hw20⟩
            have HQ20 := Lib.hid ((HQ10.out.below hw20).more hw20.size)
            have HF20 := Lib.hid (blk_rd hb20 hb20.lt)
            have HB20 : Hid (Below w2.heap.size w2 w20) := Lib.hid (HB10.out.trans (hw20.mono HB10.out.size))
            clear hb20 hw20 HQ10 HB10
            have HFL : Hid ((full L).length = 256) := Lib.hid (full_length L hLl)
            go_wp2_with fail
            refine (Same_any _ _ 256 256 w20.heap.size 256 256 w20.heap.size (full L) (full L) w20 HQ20.out HFL.out (by decide) HF20.out HFL.out (by decide)).mono ?_
            rintro e w21 hq
            obtain ⟨rfl, hw21⟩ := below_all hq
            rw [decide_eq_true (show full L = full L from rfl)]
            have HB21 : Hid (Below w2.heap.size w2 w21) := Lib.hid (HB20.out.trans (hw21.mono HB20.out.size))
            clear hq hw21 HQ20 HF20 HB20
            go_wp2_with fail
            refine (Size_nil w21).mono ?_
            rintro e wA ⟨rfl, rfl⟩
            go_wp2_with fail
            refine (Dirty_nil _).mono ?_
            rintro e wA ⟨rfl, rfl⟩
            obtain ⟨w30, hw30⟩ : ∃ w30, w30 = wA := ⟨_, rfl⟩
            rw [← hw30]
            have HB30 : Hid (Below w2.heap.size w2 w30) := Lib.hid (by rw [hw30]; exact HB21.out)
            clear hw30 HB21
            go_wp2_with fail
            refine (Code_errno 3 w30 (hlw.below (HB2.out.trans (HB30.out.mono HB2.out.size)))).mono ?_
            rintro e w31 ⟨rfl, hw31⟩
            have HB31 : Hid (Below w2.heap.size w2 w31) := Lib.hid (HB30.out.trans (hw31.mono HB30.out.size))
            clear hw31 HB30
            go_wp2_with fail
            refine (Write_nil i A3 L.length c3 w31).mono ?_
            rintro e wA ⟨rfl, hwA⟩
            obtain rfl : w31 = wA := hwA.symm
            go_wp2_with fail
            refine (Code_errno 3 w31 (hlw.below (HB2.out.trans (HB31.out.mono HB2.out.size)))).mono ?_
            rintro e w32 ⟨rfl, hw32⟩
            have HB32 : Hid (Below w2.heap.size w2 w32) := Lib.hid (HB31.out.trans (hw32.mono HB31.out.size))
            clear hw32 HB31
            go_wp2_with fail
            refine (Flush_nil w32).mono ?_
            rintro e wA ⟨rfl, hwA⟩
            obtain rfl : w32 = wA := hwA.symm
            go_wp2_with fail
            refine (Code_errno 3 w32 (hlw.below (HB2.out.trans (HB32.out.mono HB2.out.size)))).mono ?_
            rintro e w33 ⟨rfl, hw33⟩
            have HB33 : Hid (Below w2.heap.size w2 w33) := Lib.hid (HB32.out.trans (hw33.mono HB32.out.size))
            clear hw33 HB32
            go_wp2_with fail
            refine (Fall_nil none 0 0 (M : Int) w33).mono ?_
            rintro e wA ⟨rfl, hwA⟩
            obtain rfl : w33 = wA := hwA.symm
            go_wp2_with fail
            refine (Clean_nil i w33).mono ?_
            rintro e wA ⟨rfl, hwA⟩
            obtain rfl : w33 = wA := hwA.symm
            go_wp2_with fail
            refine (Turn_nil i bit mask w33).mono ?_
            rintro e wA ⟨rfl, hwA⟩
            obtain rfl : w33 = wA := hwA.symm
            go_wp2_with fail
            refine (Code_errno 3 w33 (hlw.below (HB2.out.trans (HB33.out.mono HB2.out.size)))).mono ?_
            rintro e w34 ⟨rfl, hw34⟩
            have HB34 : Hid (Below w2.heap.size w2 w34) := Lib.hid (HB33.out.trans (hw34.mono HB33.out.size))
            clear hw34 HB33
            go_wp2_with fail
            refine (Copy_nil w34).mono ?_
            rintro e wA ⟨rfl, hwA⟩
            obtain rfl : w34 = wA := hwA.symm
            go_wp2
            go_ret
            exact ⟨rfl, HB2.out.trans (HB34.out.mono HB2.out.size)⟩
          · refine ?_
            go_wp2_with fail
            refine (New_no N hN w9).mono ?_
            rintro e w10 ⟨rfl, rfl⟩
            have HQ10 := HQ9
            have HB10 := HB9
            clear HQ9 HB9
            have HL9 : Hid (Laid w10) := Lib.hid (hlw.below (HB2.out.trans (HB10.out.mono HB2.out.size)))
            by_cases h1 : 1 ≤ N
            · have h2 : ¬ N ≤ 8192 := fun h => hN ⟨h1, h⟩
              clear hN
              go_wp2_with fail
              refine (Code_errno 1 w10 HL9.out).mono ?_
              rintro e w11 ⟨rfl, hw11⟩
              have HQ11 := Lib.hid ((HQ10.out.below hw11).more hw11.size)
              have HB11 : Hid (Below w2.heap.size w2 w11) := Lib.hid (HB10.out.trans (hw11.mono HB10.out.size))
              clear hw11 HQ10 HB10 HL9
              go_wp2_with fail
              refine (Read_nil i w11).mono ?_
              rintro e wA ⟨rfl, hwA⟩
              obtain rfl : w11 = wA := hwA.symm
              go_wp2_with fail
              refine (Arm_nil N w11).mono ?_
              rintro e wA ⟨rfl, hwA⟩
              obtain rfl : w11 = wA := hwA.symm
              go_wp2_with fail
              refine (Full_any A3 L.length c3 w2.heap.size L _ (HR2.out.below HB11.out) HB11.out.size rfl hLl).mono ?_
              rintro e w20 ⟨rfl, hb20, hw20⟩
              have HQ20 := Lib.hid ((HQ11.out.below hw20).more hw20.size)
              have HF20 := Lib.hid (blk_rd hb20 hb20.lt)
              have HB20 : Hid (Below w2.heap.size w2 w20) := Lib.hid (HB11.out.trans (hw20.mono HB11.out.size))
              clear hb20 hw20 HQ11 HB11
              have HFL : Hid ((full L).length = 256) := Lib.hid (full_length L hLl)
              go_wp2_with fail
              refine (Same_any _ _ 256 256 w20.heap.size 256 256 w20.heap.size (full L) (full L) w20 HQ20.out HFL.out (by decide) HF20.out HFL.out (by decide)).mono ?_
              rintro e w21 hq
              obtain ⟨rfl, hw21⟩ := below_all hq
              rw [decide_eq_true (show full L = full L from rfl)]
              have HB21 : Hid (Below w2.heap.size w2 w21) := Lib.hid (HB20.out.trans (hw21.mono HB20.out.size))
              clear hq hw21 HQ20 HF20 HB20
              go_wp2_with fail
              refine (Size_nil w21).mono ?_
              rintro e wA ⟨rfl, rfl⟩
              go_wp2_with fail
              refine (Dirty_nil _).mono ?_
              rintro e wA ⟨rfl, rfl⟩
              obtain ⟨w30, hw30⟩ : ∃ w30, w30 = wA := ⟨_, rfl⟩
              rw [← hw30]
              have HB30 : Hid (Below w2.heap.size w2 w30) := Lib.hid (by rw [hw30]; exact HB21.out)
              clear hw30 HB21
              go_wp2_with fail
              refine (Code_errno 3 w30 (hlw.below (HB2.out.trans (HB30.out.mono HB2.out.size)))).mono ?_
              rintro e w31 ⟨rfl, hw31⟩
              have HB31 : Hid (Below w2.heap.size w2 w31) := Lib.hid (HB30.out.trans (hw31.mono HB30.out.size))
              clear hw31 HB30
              go_wp2_with fail
              refine (Write_nil i A3 L.length c3 w31).mono ?_
              rintro e wA ⟨rfl, hwA⟩
              obtain rfl : w31 = wA := hwA.symm
              go_wp2_with fail
              refine (Code_errno 3 w31 (hlw.below (HB2.out.trans (HB31.out.mono HB2.out.size)))).mono ?_
              rintro e w32 ⟨rfl, hw32⟩
              have HB32 : Hid (Below w2.heap.size w2 w32) := Lib.hid (HB31.out.trans (hw32.mono HB31.out.size))
              clear hw32 HB31
              go_wp2_with fail
              refine (Flush_nil w32).mono ?_
              rintro e wA ⟨rfl, hwA⟩
              obtain rfl : w32 = wA := hwA.symm
              go_wp2_with fail
              refine (Code_errno 3 w32 (hlw.below (HB2.out.trans (HB32.out.mono HB2.out.size)))).mono ?_
              rintro e w33 ⟨rfl, hw33⟩
              have HB33 : Hid (Below w2.heap.size w2 w33) := Lib.hid (HB32.out.trans (hw33.mono HB32.out.size))
              clear hw33 HB32
              go_wp2_with fail
              refine (Fall_nil none 0 0 N w33).mono ?_
              rintro e wA ⟨rfl, hwA⟩
              obtain rfl : w33 = wA := hwA.symm
              go_wp2_with fail
              refine (Clean_nil i w33).mono ?_
              rintro e wA ⟨rfl, hwA⟩
              obtain rfl : w33 = wA := hwA.symm
              go_wp2_with fail
              refine (Turn_nil i bit mask w33).mono ?_
              rintro e wA ⟨rfl, hwA⟩
              obtain rfl : w33 = wA := hwA.symm
              go_wp2_with fail
              refine (Code_errno 3 w33 (hlw.below (HB2.out.trans (HB33.out.mono HB2.out.size)))).mono ?_
              rintro e w34 ⟨rfl, hw34⟩
              have HB34 : Hid (Below w2.heap.size w2 w34) := Lib.hid (HB33.out.trans (hw34.mono HB33.out.size))
              clear hw34 HB33
              go_wp2_with fail
              refine (Copy_nil w34).mono ?_
              rintro e wA ⟨rfl, hwA⟩
              obtain rfl : w34 = wA := hwA.symm
              go_wp2
              go_ret
              exact ⟨rfl, HB2.out.trans (HB34.out.mono HB2.out.size)⟩
            · clear hN
              go_wp2_with fail
              refine (Code_errno 1 w10 HL9.out).mono ?_
              rintro e w11 ⟨rfl, hw11⟩
              have HQ11 := Lib.hid ((HQ10.out.below hw11).more hw11.size)
              have HB11 : Hid (Below w2.heap.size w2 w11) := Lib.hid (HB10.out.trans (hw11.mono HB10.out.size))
              clear hw11 HQ10 HB10 HL9
              go_wp2_with fail
              refine (Read_nil i w11).mono ?_
              rintro e wA ⟨rfl, hwA⟩
              obtain rfl : w11 = wA := hwA.symm
              go_wp2_with fail
              refine (Arm_nil N w11).mono ?_
              rintro e wA ⟨rfl, hwA⟩
              obtain rfl : w11 = wA := hwA.symm
              go_wp2_with fail
              refine (Full_any A3 L.length c3 w2.heap.size L _ (HR2.out.below HB11.out) HB11.out.size rfl hLl).mono ?_
              rintro e w20 ⟨rfl, hb20, hw20⟩
              have HQ20 := Lib.hid ((HQ11.out.below hw20).more hw20.size)
              have HF20 := Lib.hid (blk_rd hb20 hb20.lt)
              have HB20 : Hid (Below w2.heap.size w2 w20) := Lib.hid (HB11.out.trans (hw20.mono HB11.out.size))
              clear hb20 hw20 HQ11 HB11
              have HFL : Hid ((full L).length = 256) := Lib.hid (full_length L hLl)
              go_wp2_with fail
              refine (Same_any _ _ 256 256 w20.heap.size 256 256 w20.heap.size (full L) (full L) w20 HQ20.out HFL.out (by decide) HF20.out HFL.out (by decide)).mono ?_
              rintro e w21 hq
              obtain ⟨rfl, hw21⟩ := below_all hq
              rw [decide_eq_true (show full L = full L from rfl)]
              have HB21 : Hid (Below w2.heap.size w2 w21) := Lib.hid (HB20.out.trans (hw21.mono HB20.out.size))
              clear hq hw21 HQ20 HF20 HB20
              go_wp2_with fail
              refine (Size_nil w21).mono ?_
              rintro e wA ⟨rfl, rfl⟩
              go_wp2_with fail
              refine (Dirty_nil _).mono ?_
              rintro e wA ⟨rfl, rfl⟩
              obtain ⟨w30, hw30⟩ : ∃ w30, w30 = wA := ⟨_, rfl⟩
              rw [← hw30]
              have HB30 : Hid (Below w2.heap.size w2 w30) := Lib.hid (by rw [hw30]; exact HB21.out)
              clear hw30 HB21
              go_wp2_with fail
              refine (Code_errno 3 w30 (hlw.below (HB2.out.trans (HB30.out.mono HB2.out.size)))).mono ?_
              rintro e w31 ⟨rfl, hw31⟩
              have HB31 : Hid (Below w2.heap.size w2 w31) := Lib.hid (HB30.out.trans (hw31.mono HB30.out.size))
              clear hw31 HB30
              go_wp2_with fail
              refine (Write_nil i A3 L.length c3 w31).mono ?_
              rintro e wA ⟨rfl, hwA⟩
              obtain rfl : w31 = wA := hwA.symm
              go_wp2_with fail
              refine (Code_errno 3 w31 (hlw.below (HB2.out.trans (HB31.out.mono HB2.out.size)))).mono ?_
              rintro e w32 ⟨rfl, hw32⟩
              have HB32 : Hid (Below w2.heap.size w2 w32) := Lib.hid (HB31.out.trans (hw32.mono HB31.out.size))
              clear hw32 HB31
              go_wp2_with fail
              refine (Flush_nil w32).mono ?_
              rintro e wA ⟨rfl, hwA⟩
              obtain rfl : w32 = wA := hwA.symm
              go_wp2_with fail
              refine (Code_errno 3 w32 (hlw.below (HB2.out.trans (HB32.out.mono HB2.out.size)))).mono ?_
              rintro e w33 ⟨rfl, hw33⟩
              have HB33 : Hid (Below w2.heap.size w2 w33) := Lib.hid (HB32.out.trans (hw33.mono HB32.out.size))
              clear hw33 HB32
              go_wp2_with fail
              refine (Fall_nil none 0 0 N w33).mono ?_
              rintro e wA ⟨rfl, hwA⟩
              obtain rfl : w33 = wA := hwA.symm
              go_wp2_with fail
              refine (Clean_nil i w33).mono ?_
              rintro e wA ⟨rfl, hwA⟩
              obtain rfl : w33 = wA := hwA.symm
              go_wp2_with fail
              refine (Turn_nil i bit mask w33).mono ?_
              rintro e wA ⟨rfl, hwA⟩
              obtain rfl : w33 = wA := hwA.symm
              go_wp2_with fail
              refine (Code_errno 3 w33 (hlw.below (HB2.out.trans (HB33.out.mono HB2.out.size)))).mono ?_
              rintro e w34 ⟨rfl, hw34⟩
              have HB34 : Hid (Below w2.heap.size w2 w34) := Lib.hid (HB33.out.trans (hw34.mono HB33.out.size))
              clear hw34 HB33
              go_wp2_with fail
              refine (Copy_nil w34).mono ?_
              rintro e wA ⟨rfl, hwA⟩
              obtain rfl : w34 = wA := hwA.symm
              go_wp2
              go_ret
              exact ⟨rfl, HB2.out.trans (HB34.out.mono HB2.out.size)⟩
end
end Go.Proofs.YtoiiemjaecfnhaaDoor
