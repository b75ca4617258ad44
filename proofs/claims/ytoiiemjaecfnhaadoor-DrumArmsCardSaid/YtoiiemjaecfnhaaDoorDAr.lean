/-
  DrumArms: the law's walk. Conditions: the arguments are there; errors.errorType is laid.
-/
import Derived.Test.YtoiiemjaecfnhaaDoorDrumO
import Derived.Test.YtoiiemjaecfnhaaDoorDOw
import Derived.Test.YtoiiemjaecfnhaaDoorRowsB
namespace Go.Proofs.YtoiiemjaecfnhaaDoor
open Go.RowKit

theorem less_pos {a : Int} (h : 0 < a) : less a = a - 1 := by unfold less; rw [if_neg (by omega)]
theorem rb_nil (w : World) (B : Nat) : Rb w B none [] := fun h => absurd h (by simp)
theorem own_beyond {w : World} {base n m c : Nat} {A : Option Addr} {l : List UInt8} (h : OwnB w base (.slice A n c) m l) : ∀ b q, A = some ⟨b, q, none⟩ → base ≤ b := fun b q e => by
  subst e
  exact (World.ownsRow.lt h b rfl).1
theorem make257 (u : World) : (Instr.makeSlice 31 (.int .i64 257) (.int .i64 257)).run Tryd.prog u = .ok (.slice (some ⟨u.heap.size, 0, none⟩) 257 257) (u.alloc (.cells (madeCells #[.int .u8 0] 257) 5)) := by
  have h := makeB 249 (by decide) u
  exact h
theorem rdk_keep {o p : Nat → Prop} {w w' : World} {A : Option Addr} {l : List UInt8} (h : RdK o w A l) (h' : RdK p w A l) (hk : Kept p w w') : RdK o w' A l := fun hn => by
  obtain ⟨b, q, e, hb, hno, hc⟩ := h hn
  obtain ⟨b', q', e', _, hno', _⟩ := h' hn
  rw [e] at e'
  injection e' with e'
  injection e' with e1 _ _
  subst e1
  exact ⟨b, q, e, Nat.lt_of_lt_of_le hb hk.size, hno, fun j u hu => (World.cell?_of_block (hk.block b hb hno')).trans (hc j u hu)⟩
section
variable {A : Option Addr} {n c : Nat} {l : List UInt8} {w : World}
set_option maxRecDepth 100000 in
set_option maxHeartbeats 16000000 in
theorem DArms_any (N M : Nat) (hN : N < 256) (hM : M < 256) (hlw : Laid w) (hR : Rd w w.heap.size A l) (hn : l.length = n) (hm : n ≤ 140737488355328) :
    Calls Tryd.prog 4 #[.int .u8 (N : Int), .int .u8 (M : Int), .slice A n c] w fun e w' => e = .returned (.bool true) ∧ Below w.heap.size w w' := by
  obtain ⟨K, hK⟩ : ∃ K : Nat, K = N % 20 := ⟨_, rfl⟩
  obtain ⟨R, hR5⟩ : ∃ R : Nat, R = M % 5 := ⟨_, rfl⟩
  have hKi : ((N : Int) % 20) = (K : Int) := by omega
  have hRi : ((M : Int) % 5) = (R : Int) := by omega
  have hKl : K < 20 := by omega
  have hRl : R < 5 := by omega
  have HKI := Lib.hid hKi
  have HRI := Lib.hid hRi
  clear hK hR5 hKi hRi
  go_enter Tryd.func4, Tryd.ntmps4
  go_wp2_with fail
  refine (awake1_any w).mono ?_
  rintro e w1 ⟨rfl, hb1⟩
  have HB1 := Lib.hid hb1
  clear hb1
  go_wp2_with fail
  refine (New_dr 4 (by decide) (by decide) _).mono ?_
  rintro e w2 ⟨d, o, rfl, hd2, hw2⟩
  have HD2 : Hid (Dr w2 w1.heap.size d o [zeros, zeros, zeros, zeros] [] (-1)) := Lib.hid hd2
  have HB2 : Hid (Below w.heap.size w w2) := Lib.hid (HB1.out.trans (hw2.mono HB1.out.size))
  have HS1 : Hid (w.heap.size ≤ w1.heap.size) := Lib.hid HB1.out.size
  clear hd2 hw2 HB1
  go_wp2_with fail
  refine (CutW_any A n c w.heap.size 256 l w2 (hR.below HB2.out) hn (by omega) (by decide) HB2.out.size).mono ?_
  rintro e w3 ⟨v, rfl, hown, hb3⟩
  obtain ⟨-, A3, c3, rfl, hc3, hcm3, hr3⟩ := own_form hown
  have hp3 := own_beyond hown
  obtain ⟨L, hL⟩ : ∃ L, L = l.take 256 := ⟨_, rfl⟩
  rw [← hL] at hr3 hc3 ⊢
  have hLl : L.length ≤ 256 := by rw [hL]; exact take_len l
  have HD3 := Lib.hid (HD2.out.below hb3)
  have HR3 : Hid (RdK o w3 A3 L) := Lib.hid (RdK.of_new (B := w2.heap.size) hr3 hp3 HD2.out.lt)
  have HB3 : Hid (Below w.heap.size w w3) := Lib.hid (HB2.out.trans (hb3.mono HB2.out.size))
  clear hb3 hL hown hc3 hcm3 hr3 hp3 hR HD2 HB2
  have hc1 : IntKind.u8.wrap ((N : Int) % 20) = (N : Int) % 20 := by rw [IntKind.wrap_u8]; omega
  have hc2 : IntKind.u8.wrap ((M : Int) % 5) = (M : Int) % 5 := by rw [IntKind.wrap_u8]; omega
  have hc3 : IntKind.i64.wrap ((N : Int) % 20) = (N : Int) % 20 := by rw [IntKind.wrap_i64]; omega
  have hc4 : IntKind.i64.wrap ((M : Int) % 5) = (M : Int) % 5 := by rw [IntKind.wrap_i64]; omega
  go_wp2_with fail
  refine (Arm_dr HD3.out _).mono ?_
  rintro e w4 ⟨rfl, hd4, hk4⟩
  have HD4 := Lib.hid hd4
  have HR4 := Lib.hid (HR3.out.kept hk4 fun _ _ h => h)
  have HB4 : Hid (Below w.heap.size w w4) := Lib.hid (HB3.out.trans (hk4.below (B := w.heap.size) HB3.out.size (fun i hi e => absurd (HD3.out.ge i e) (by have := HS1.out; omega))))
  clear hd4 hk4 HD3 HR3 HB3
  rw [HKI.out] at HD4
  go_wp2
  rw [HKI.out, HRI.out]
  clear hc1 hc2 hc3 hc4 HKI HRI
  go_loopw [10, 11, 12, 35] (fun _ _ _ z wr => ∃ (k : Nat) (ok : Nat → Prop) (fl : List (List UInt8)) (ws : List (Nat × List UInt8)) (left : Int), k ≤ K + 1 + R ∧ z = .int .i64 k ∧ fl.length = 4 ∧ ws.length ≤ k ∧ left = (if k < K then (K : Int) - (k : Int) else 0) ∧
    Dr wr w1.heap.size d ok fl ws left ∧ RdK ok wr A3 L ∧ Below w.heap.size w wr) (fun _ _ _ z _ => K + 1 + R - (intOf z).toNat)
  case atStart => exact ⟨0, o, _, _, _, Nat.zero_le _, rfl, rfl, Nat.le_refl _, by split <;> omega, HD4.out, HR4.out, HB4.out⟩
  case round =>
    clear HD4 HR4 HB4
    obtain ⟨k, ok, fl, ws, left, hk, rfl, hfl, hws, hleft, hd, hr, hb⟩ := hrel
    have HD := Lib.hid hd
    have HR := Lib.hid hr
    have HB := Lib.hid hb
    clear hd hr hb
    by_cases hlt : k < K + 1 + R
    · have i1 : (k : Int) < (K : Int) + 1 + (R : Int) := by omega
      have hmod : ((k : Int) % 4) = ((k % 4 : Nat) : Int) := by omega
      have HMOD := Lib.hid hmod
      clear hmod
      by_cases hkK : k < K
      · rw [if_pos hkK] at hleft
        have i2 : (k : Int) < (K : Int) := by omega
        have hl0 : left ≠ 0 := by omega
        have hl1 : left < 9223372036854775808 := by omega
        have HLS : Hid (less left = if k + 1 < K then (K : Int) - ((k + 1 : Nat) : Int) else 0) := Lib.hid (by rw [less_pos (by omega)]; split <;> omega)
        clear hleft
        by_cases h3 : k % 3 = 2
        · have i3 : ((k : Int) % 3) = 2 := by omega
          go_wp2_with fail
          refine (Flush_dr HD.out hl0 hl1).mono ?_
          rintro e w5 ⟨rfl, o5, hd5, hk5, ho5⟩
          rw [HLS.out] at hd5
          have HD5 := Lib.hid hd5
          have HR5 := Lib.hid (HR.out.kept hk5 ho5)
          have HB5 : Hid (Below w.heap.size w w5) := Lib.hid (HB.out.trans (hk5.below (B := w.heap.size) HB.out.size (fun i hi e => absurd (HD.out.ge i e) (by have := HS1.out; omega))))
          clear hd5 hk5 ho5 HD HR HB
          go_wp2_with fail
          refine (Code_nil w5).mono ?_
          rintro e w6 ⟨rfl, rfl⟩
          go_wp2
          go_roundw
          case rel => exact ⟨k + 1, o5, _, _, _, by omega, by go_num, by rw [app_length]; exact hfl, Nat.zero_le _, rfl, HD5.out, HR5.out, HB5.out⟩
          case measure => simp [intOf]; omega
        · have i3 : ¬ ((k : Int) % 3) = 2 := by omega
          go_wp2_with fail
          rw [HMOD.out]
          refine (Write_dr HD.out hl0 hl1 (k % 4) c3 (by omega) HR.out rfl hLl (by omega)).mono ?_
          rintro e w5 ⟨rfl, o5, hd5, hk5, ho5⟩
          rw [HLS.out] at hd5
          have HD5 := Lib.hid hd5
          have HR5 := Lib.hid (HR.out.kept hk5 ho5)
          have HB5 : Hid (Below w.heap.size w w5) := Lib.hid (HB.out.trans (hk5.below (B := w.heap.size) HB.out.size (fun i hi e => absurd (HD.out.ge i e) (by have := HS1.out; omega))))
          clear hd5 hk5 ho5 HD HR HB
          go_wp2_with fail
          refine (Code_nil w5).mono ?_
          rintro e w6 ⟨rfl, rfl⟩
          go_wp2
          go_roundw
          case rel => exact ⟨k + 1, o5, _, _, _, by omega, by go_num, hfl, by rw [List.length_append]; simp; omega, rfl, HD5.out, HR5.out, HB5.out⟩
          case measure => simp [intOf]; omega
      · rw [if_neg hkK] at hleft
        have i2 : ¬ (k : Int) < (K : Int) := by omega
        subst hleft
        have HLW : Hid (Laid wr) := Lib.hid (hlw.below HB.out)
        by_cases h3 : k % 3 = 2
        · have i3 : ((k : Int) % 3) = 2 := by omega
          go_wp2_with fail
          refine (Flush_off_dr HD.out).mono ?_
          rintro e w5 ⟨rfl, hw5⟩
          obtain rfl : wr = w5 := hw5.symm
          go_wp2_with fail
          refine (Code_errno 8 wr HLW.out).mono ?_
          rintro e w6 ⟨rfl, hw6⟩
          have HD6 := Lib.hid (HD.out.below hw6)
          have HR6 := Lib.hid (HR.out.below hw6)
          have HB6 : Hid (Below w.heap.size w w6) := Lib.hid (HB.out.trans (hw6.mono HB.out.size))
          clear hw6 HD HR HB HLW
          go_wp2
          go_roundw
          case rel => exact ⟨k + 1, ok, _, _, _, by omega, by go_num, hfl, by omega, by rw [if_neg (by omega)], HD6.out, HR6.out, HB6.out⟩
          case measure => simp [intOf]; omega
        · have i3 : ¬ ((k : Int) % 3) = 2 := by omega
          go_wp2_with fail
          refine (Write_off_dr HD.out _ c3 (by rw [hfl]; omega) hLl).mono ?_
          rintro e w5 ⟨rfl, hw5⟩
          obtain rfl : wr = w5 := hw5.symm
          go_wp2_with fail
          refine (Code_errno 8 wr HLW.out).mono ?_
          rintro e w6 ⟨rfl, hw6⟩
          have HD6 := Lib.hid (HD.out.below hw6)
          have HR6 := Lib.hid (HR.out.below hw6)
          have HB6 : Hid (Below w.heap.size w w6) := Lib.hid (HB.out.trans (hw6.mono HB.out.size))
          clear hw6 HD HR HB HLW
          go_wp2
          go_roundw
          case rel => exact ⟨k + 1, ok, _, _, _, by omega, by go_num, hfl, by omega, by rw [if_neg (by omega)], HD6.out, HR6.out, HB6.out⟩
          case measure => simp [intOf]; omega
    · obtain rfl : k = K + 1 + R := by omega
      rw [if_neg (by omega)] at hleft
      subst hleft
      have HOL : Hid (∀ i, ok i → i < wr.heap.size) := Lib.hid HD.out.lt
      have HWR : w.heap.size ≤ wr.heap.size := HB.out.size
      go_wp2_with fail
      refine (Fall_dr HD.out 0 wr.heap.size [] (rb_nil _ _) (Nat.le_refl _) rfl (by decide) (-1)).mono ?_
      rintro e w5 ⟨d5, o5, rfl, hd5, hw5⟩
      have HC5 := Lib.hid hd5
      have HD5 := Lib.hid (HD.out.below hw5)
      have HR5 := Lib.hid (HR.out.below hw5)
      have HB5 : Hid (Below w.heap.size w w5) := Lib.hid (HB.out.trans (hw5.mono HB.out.size))
      have HP5 : Hid (RdK o5 w5 A3 L) := Lib.hid (RdK.of_rd (B := wr.heap.size) (HR.out.rd.below hw5) hw5.size hd5.ge)
      have HG5 : Hid (∀ i, o5 i → wr.heap.size ≤ i) := Lib.hid hd5.ge
      have hfl5 : (fallOf fl ws [] (-1)).length = 4 := (fallK_length ..).trans hfl
      have hw5s : wr.heap.size ≤ w5.heap.size := hw5.size
      clear hd5 hw5 HD HR HB
      go_wp2_with fail
      refine (Copy_dr HD5.out (by omega)).mono ?_
      rintro e w6 ⟨d6, o6, rfl, hd6, hw6⟩
      have HX6 := Lib.hid hd6
      have HC6 := Lib.hid (HC5.out.below hw6)
      have HD6 := Lib.hid (HD5.out.below hw6)
      have HR6 := Lib.hid (HR5.out.below hw6)
      have HP6 := Lib.hid (HP5.out.below hw6)
      have HQ6 : Hid (RdK o6 w6 A3 L) := Lib.hid (RdK.of_rd (B := w5.heap.size) (HR5.out.rd.below hw6) hw6.size hd6.ge)
      have HB6 : Hid (Below w.heap.size w w6) := Lib.hid (HB5.out.trans (hw6.mono HB5.out.size))
      have HG6 : Hid (∀ i, o6 i → w5.heap.size ≤ i) := Lib.hid hd6.ge
      have HL5 : Hid (∀ i, o5 i → i < w5.heap.size) := Lib.hid HC5.out.lt
      clear hd6 hw6 HC5 HD5 HR5 HP5 HB5
      go_wp2_with fail
      refine (Write_dr HC6.out (by decide) (by decide) 0 c3 (by omega) HP6.out rfl hLl (by decide)).mono ?_
      rintro e w7 ⟨rfl, o7, hd7, hk7, ho7⟩
      have HX7 := Lib.hid (HX6.out.keep hk7 (fun i hi e => by have := HG6.out i hi; have := HL5.out i e; omega))
      have HD7 := Lib.hid (HD6.out.keep hk7 (fun i hi e => by have := HOL.out i hi; have := HG5.out i e; omega))
      have HR7 : Hid (RdK ok w7 A3 L) := Lib.hid (rdk_keep HR6.out HP6.out hk7)
      have HQ7 : Hid (RdK o6 w7 A3 L) := Lib.hid (rdk_keep HQ6.out HP6.out hk7)
      have HB7 : Hid (Below w.heap.size w w7) := Lib.hid (HB6.out.trans (hk7.below (B := w.heap.size) HB6.out.size (fun i hi e => absurd (HG5.out i e) (by have := HS1.out; have := HWR; omega))))
      clear hd7 hk7 ho7 HC6 HX6 HD6 HR6 HP6 HQ6 HB6
      go_wp2_with fail
      refine (Write_dr HX7.out (by decide) (by decide) 0 c3 (by omega) HQ7.out rfl hLl (by omega)).mono ?_
      rintro e w8 ⟨rfl, o8, hd8, hk8, ho8⟩
      have HD8 := Lib.hid (HD7.out.keep hk8 (fun i hi e => by have := HOL.out i hi; have := HG6.out i e; omega))
      have HR8 : Hid (RdK ok w8 A3 L) := Lib.hid (rdk_keep HR7.out HQ7.out hk8)
      have HB8 : Hid (Below w.heap.size w w8) := Lib.hid (HB7.out.trans (hk8.below (B := w.heap.size) HB7.out.size (fun i hi e => absurd (HG6.out i e) (by have := HWR; omega))))
      clear hd8 hk8 ho8 HX7 HD7 HR7 HQ7 HB7
      go_wp2_with fail
      refine (Write_off_dr HD8.out 0 c3 (by rw [hfl]; decide) hLl).mono ?_
      rintro e w9 ⟨rfl, hw9⟩
      obtain rfl : w8 = w9 := hw9.symm
      go_wp2_with fail
      refine (Code_errno 8 w8 (hlw.below HB8.out)).mono ?_
      rintro e w9 ⟨rfl, hw9⟩
      have HD9 := Lib.hid (HD8.out.below hw9)
      have HR9 := Lib.hid (HR8.out.below hw9)
      have HB9 : Hid (Below w.heap.size w w9) := Lib.hid (HB8.out.trans (hw9.mono HB8.out.size))
      clear hw9 HD8 HR8 HB8
      go_wp2_with fail
      refine (Write_index_dr HD9.out 9 c3 (by rw [hfl]; decide)).mono ?_
      rintro e wA ⟨rfl, hwA⟩
      obtain rfl : w9 = wA := hwA.symm
      go_wp2_with fail
      refine (Code_errno 7 w9 (hlw.below HB9.out)).mono ?_
      rintro e w10 ⟨rfl, hw10⟩
      have HD10 := Lib.hid (HD9.out.below hw10)
      have HR10 := Lib.hid (HR9.out.below hw10)
      have HB10 : Hid (Below w.heap.size w w10) := Lib.hid (HB9.out.trans (hw10.mono HB9.out.size))
      clear hw10 HD9 HR9 HB9
      have hmk := make257
      go_wp2_with fail
      have hw11 : Below w10.heap.size w10 (w10.alloc (.cells (madeCells #[.int .u8 0] 257) 5)) := (Below.refl _ w10).alloc (Nat.le_refl _) _
      obtain ⟨w11, hw⟩ : ∃ w11, w11 = w10.alloc (.cells (madeCells #[.int .u8 0] 257) 5) := ⟨_, rfl⟩
      rw [← hw] at hw11 ⊢
      clear hw hmk
      have HD11 := Lib.hid (HD10.out.below hw11)
      have HR11 := Lib.hid (HR10.out.below hw11)
      have HB11 : Hid (Below w.heap.size w w11) := Lib.hid (HB10.out.trans (hw11.mono HB10.out.size))
      clear hw11 HD10 HR10 HB10
      refine (Write_long_dr HD11.out 0 257 (by rw [hfl]; decide) (by decide)).mono ?_
      rintro e wA ⟨rfl, hwA⟩
      obtain rfl : w11 = wA := hwA.symm
      go_wp2_with fail
      refine (Code_errno 4 w11 (hlw.below HB11.out)).mono ?_
      rintro e w12 ⟨rfl, hw12⟩
      have HD12 := Lib.hid (HD11.out.below hw12)
      have HR12 := Lib.hid (HR11.out.below hw12)
      have HB12 : Hid (Below w.heap.size w w12) := Lib.hid (HB11.out.trans (hw12.mono HB11.out.size))
      clear hw12 HD11 HR11 HB11
      go_wp2_with fail
      refine (Arm_dr HD12.out _).mono ?_
      rintro e w13 ⟨rfl, hd13, hk13⟩
      have HD13 := Lib.hid hd13
      have HR13 := Lib.hid (HR12.out.kept hk13 fun _ _ h => h)
      have HB13 : Hid (Below w.heap.size w w13) := Lib.hid (HB12.out.trans (hk13.below (B := w.heap.size) HB12.out.size (fun i hi e => absurd (HD12.out.ge i e) (by have := HS1.out; omega))))
      clear hd13 hk13 HD12 HR12 HB12
      go_wp2_with fail
      refine (Write_dr HD13.out (by decide) (by decide) 0 c3 (by omega) HR13.out rfl hLl (by omega)).mono ?_
      rintro e w14 ⟨rfl, o14, hd14, hk14, ho14⟩
      have HD14 := Lib.hid hd14
      have HB14 : Hid (Below w.heap.size w w14) := Lib.hid (HB13.out.trans (hk14.below (B := w.heap.size) HB13.out.size (fun i hi e => absurd (HD13.out.ge i e) (by have := HS1.out; omega))))
      clear hd14 hk14 ho14 HD13 HR13 HB13
      go_wp2_with fail
      refine (Flush_dr HD14.out (by decide) (by decide)).mono ?_
      rintro e w15 ⟨rfl, o15, hd15, hk15, ho15⟩
      have HB15 : Hid (Below w.heap.size w w15) := Lib.hid (HB14.out.trans (hk15.below (B := w.heap.size) HB14.out.size (fun i hi e => absurd (HD14.out.ge i e) (by have := HS1.out; omega))))
      clear hd15 hk15 ho15 HD14 HB14
      go_wp2
      go_ret
      exact ⟨rfl, HB15.out⟩
end
end Go.Proofs.YtoiiemjaecfnhaaDoor
