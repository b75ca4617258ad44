/-
  QuillOne: the walk. Conditions: the bytes and the values are there.
-/
import Derived.Test.YtclmhgaggminpabQuL
namespace Go.Proofs.Ytclmhgaggminpab
open Go.RowKit

/-- What is left, and what was laid, are the bytes. -/
def Whole (p : List UInt8) (st : Option (List UInt8)) (l : List UInt8) : Prop := ∀ r, st = some r → p = l ++ r

set_option maxRecDepth 20000 in
set_option maxHeartbeats 4000000 in
theorem One_any (A : Option Addr) (n c : Nat) (p : List UInt8) (A2 : Option Addr) (n2 c2 : Nat) (l : List Val) (w : World) (hR : Rd w w.heap.size A p) (hn : p.length = n) (hm : n ≤ 140737488355328)
    (hR2 : Rvs w w.heap.size A2 l) (hn2 : l.length = n2) (hm2 : n2 ≤ maxLen) (hin : ∀ u ∈ l, u.In) :
    Calls Try.prog 4 #[.slice A n c, .slice A2 n2 c2] w fun e w' => e = .returned (.bool true) ∧ Below w.heap.size w w' := by
  have HR := Lib.hid hR
  have HN := Lib.hid hn
  have HR2 := Lib.hid hR2
  have HN2 := Lib.hid hn2
  have HIN := Lib.hid hin
  clear hR hn hR2 hn2 hin
  go_enter Try.func4, Try.ntmps4
  go_wp2_with fail
  refine (awake8 _).mono ?_
  rintro e w1 ⟨rfl, hb1⟩
  have HB1 := Lib.hid hb1
  clear hb1
  go_wp2_with fail
  refine (CutO_any A n c w.heap.size 60 p w1 (HR.out.below HB1.out) HN.out hm (by decide) HB1.out.size).mono ?_
  rintro e w2 ⟨v2, rfl, hown, hb2⟩
  have hpl : (p.take 60).length ≤ 60 := by rw [List.length_take]; omega
  obtain ⟨P, hP⟩ : ∃ P, p.take 60 = P := ⟨_, rfl⟩
  rw [hP] at hown hpl
  obtain ⟨_, A3, c3, g3, rfl, hd1, hd2, hg3, hrg3, hAn3, _⟩ := own_rg hown w1.heap.size (Nat.le_refl _)
  have HB2 := Lib.hid (HB1.out.trans (hb2.mono HB1.out.size))
  have HRG := Lib.hid hrg3
  have HAN := Lib.hid hAn3
  clear hP hown hb2 hrg3 hAn3
  go_wp2_with fail
  refine (few_any A2 n2 c2 w.heap.size l w2 (HR2.out.below HB2.out) HN2.out hm2 HB2.out.size HIN.out).mono ?_
  rintro e w3 ⟨A4, c4, vs, rfl, hc4, hm4, hvl, hgood, hrv, hb3⟩
  have HRG3 := Lib.hid (HRG.out.below hb3)
  have HB3 := Lib.hid (HB2.out.trans (hb3.mono HB2.out.size))
  have HGD := Lib.hid hgood
  have HRV := Lib.hid hrv
  clear hb3 hgood hrv HRG HB2 HB1
  unfold maxLen at hm4 hd2
  go_wp2_with fail
  refine (Look_any A3 P.length c3 w3.heap.size P w3 HRG3.out.rd rfl (by omega) (Nat.le_refl _) (fun e => ⟨by have := HAN.out e; omega, HAN.out e⟩)).mono ?_
  rintro e w4 ⟨b, g, rfl, hbb, hgg, hglt, hln, hb4⟩
  have HB4 := Lib.hid (HB3.out.trans (hb4.mono HB3.out.size))
  have HB34 := Lib.hid hb4
  have HLN := Lib.hid hln
  have hblt := hln.lt
  have hsz34 := hb4.size
  have hw3 := HB3.out.size
  clear hb4 hln HAN
  go_wp2_with fail
  go_loopw [19] (fun i wr => ∃ (k : Nat) (st : Option (List UInt8)) (r : Option Nat) (lw : List UInt8), k ≤ vs.length ∧ i = .int .i64 k ∧ Hid (Ln wr b g st) ∧ Hid (Qu wr w.heap.size w4.heap.size r lw) ∧ Hid (Whole P st lw) ∧
    Hid (∀ x, r = some x → w4.heap.size ≤ x) ∧ lw.length ≤ 1009 * k ∧ w4.heap.size < wr.heap.size ∧ Hid (Below w3.heap.size w3 wr)) (fun i _ => vs.length - (intOf i).toNat)
  case atStart =>
    refine ⟨0, some P, none, [], Nat.zero_le _, rfl, Lib.hid (HLN.out.below ((Below.refl _ w4).alloc (Nat.le_refl _) _)), Lib.hid (Qu.new (by omega)), Lib.hid (fun r hr => ?_), Lib.hid (fun x hx => nomatch hx), by simp, by simp, Lib.hid (HB34.out.alloc hsz34 _)⟩
    cases hr
    rfl
  case round =>
    obtain ⟨k, st, r, lw, hk, rfl, HL, HQ, HW, HX, hll, hwr, HBW⟩ := hrel
    have HBT := Lib.hid (HB3.out.trans (HBW.out.mono hw3))
    by_cases hlt : k < vs.length
    · obtain ⟨b', o, rfl, hb', x0, x1, x2, x3, x4⟩ := (HRV.out.below HBW.out).at_ hlt
      have hgd := HGD.out vs[k] (List.getElem_mem hlt)
      obtain ⟨V, hV⟩ : ∃ V, vs[k] = V := ⟨_, rfl⟩
      rw [hV] at x0 x1 x2 x3 x4 hgd
      rw [← Nat.add_assoc] at x0 x1 x2 x3 x4
      rw [Nat.add_zero] at x0
      have hO : V.Ok := hgd.ok
      obtain ⟨W1, hW1⟩ : ∃ W, wr.alloc (.cells #[.int .u8 (V.k : Int), .int .u64 (V.u : Int), .int .i64 V.i, .string V.s, .int .u64 (V.m : Int)] 30) = W := ⟨_, rfl⟩
      have hba : Below wr.heap.size wr W1 := by rw [← hW1]; exact (Below.refl _ wr).alloc (Nat.le_refl _) _
      have hkb : Blk W1 wr.heap.size 30 #[.int .u8 (V.k : Int), .int .u64 (V.u : Int), .int .i64 V.i, .string V.s, .int .u64 (V.m : Int)] := by rw [← hW1]; exact Blk.new wr _ _
      have hT := take_any b g V hO st W1 (HL.out.below hba) (by have := hba.size; omega)
      have hT2 : Calls Try.prog 15 #[.pointer (some ⟨b, 0, none⟩), .agg #[.int .u8 (V.k : Int), .int .u64 (V.u : Int), .int .i64 V.i, .string V.s, .int .u64 (V.m : Int)]] W1 (TOPost b g V W1 st) := hT
      have c0 := hkb.cell 0
      have c1 := hkb.cell 1
      have c2 := hkb.cell 2
      have c3 := hkb.cell 3
      have c4 := hkb.cell 4
      simp at c0 c1 c2 c3 c4
      have HT := Lib.hid hT2
      have HQ1 := Lib.hid (HQ.out.below hba)
      have HBA := Lib.hid hba
      have HOK := Lib.hid (takeO_ok hO st)
      have HB1 := Lib.hid (HBW.out.trans (hba.mono (by omega)))
      have hz1 : wr.heap.size < W1.heap.size := hkb.lt
      clear hkb hba hT hT2 hgd hO hV
      go_wp2_with fail
      refine HT.out.mono ?_
      rintro e w5 ⟨rfl, hl5, hf5⟩
      have hz5 : W1.heap.size ≤ w5.heap.size := hf5.2.2.2.1
      have hrb : r ≠ some b := fun e => by have := HX.out b e; omega
      have hrg : r ≠ some g := fun e => by have := HX.out g e; omega
      have hQ5 := HQ1.out.past hf5 (by omega) (by simp) hrb (by cases r <;> simp)
      obtain ⟨U, hU⟩ : ∃ U, takeO st V = U := ⟨_, rfl⟩
      have HOK2 := Lib.hid (hU ▸ HOK.out)
      rw [hU]
      have hlay := lay_any w.heap.size w4.heap.size r lw U HOK2.out (by omega) w5 hQ5
      have HLAY := Lib.hid hlay
      have HL5 := Lib.hid hl5
      have HQ5 := Lib.hid hQ5
      have HU := Lib.hid hU
      have HB5 := Lib.hid (hf5.to_below HB1.out (by omega) hbb (fun g hg => nomatch hg))
      clear hl5 hf5 hQ5 hU hlay c0 c1 c2 c3 c4 x0 x1 x2 x3 x4
      go_wp2_with fail
      refine HLAY.out.mono ?_
      rintro e w6 ⟨rfl, ⟨r', h6, hs6⟩, hf6⟩
      have hz6 : w5.heap.size ≤ w6.heap.size := hf6.2.2.2.1
      have HL6 := Lib.hid (HL5.out.past hf6 (by omega) hrb (by omega) hrg)
      have HQ6 := Lib.hid h6
      have HB6 := Lib.hid (hf6.to_below HB5.out (by omega) (by omega) (fun x hx => by have := HX.out x hx; omega))
      have HX6 : Hid (∀ x, r' = some x → w4.heap.size ≤ x) := Lib.hid (fun x hx => by
        rcases hs6 with rfl | ⟨y, rfl, hy⟩
        · exact HX.out x hx
        · injection hx with hx; omega)
      have hll6 : (lw ++ layV U).length ≤ 1009 * (k + 1) := by
        rw [List.length_append]
        have := layV_len HOK2.out
        omega
      have HW6 : Hid (Whole P (takeR st V) (lw ++ layV U)) := Lib.hid (fun r hr => by
        cases st with
        | none => rw [takeR_none] at hr; cases hr
        | some l0 =>
          rw [HW.out l0 rfl, List.append_assoc, take_lay hr, HU.out])
      clear h6 hs6 hf6
      go_wp2_with fail
      go_roundw
      case rel => exact ⟨k + 1, _, r', _, by omega, by go_num, HL6, HQ6, HW6, HX6, hll6, by omega, HB6⟩
      case measure => simp [intOf]; omega
    · obtain rfl : k = vs.length := by omega
      have hE := LEnd_any b g st wr HL.out
      go_wp2_with fail
      refine hE.mono ?_
      rintro e w5 ⟨rfl, rfl⟩
      by_cases hst : st = some []
      · rw [if_pos hst]
        have hD := QDone_any w.heap.size w4.heap.size r lw (by omega) wr HQ.out
        have hP : P = lw := by have := HW.out [] hst; rw [List.append_nil] at this; exact this
        have HD := Lib.hid hD
        have HP := Lib.hid hP
        clear hD hP hE hst
        go_wp2_with fail
        refine HD.out.mono ?_
        rintro e w6 ⟨⟨A6, g6, rfl, hA6, hg6, hrg6⟩, hb6⟩
        have hS := Same_any A6 A3 lw.length lw.length w6.heap.size P.length c3 w6.heap.size lw P w6 hrg6.rd rfl (by unfold maxLen; omega) (((HRG3.out.rd.below HBW.out).more HBW.out.size).below hb6 |>.more hb6.size) rfl (by unfold maxLen; omega)
        rw [decide_eq_true HP.out.symm] at hS
        have HS := Lib.hid hS
        have HB6 := Lib.hid (HBT.out.trans (hb6.mono HBT.out.size))
        clear hrg6 hb6 hS hA6
        go_wp2_with fail
        refine (HS.out.mono fun _ _ h => below_all h).mono ?_
        rintro e w7 ⟨rfl, hb7⟩
        have HB7 := Lib.hid (HB6.out.trans (hb7.mono HB6.out.size))
        clear hb7
        go_wp2_with fail
        go_ret
        exact ⟨rfl, HB7.out⟩
      · rw [if_neg hst]
        clear hE hst
        go_wp2_with fail
        go_ret
        exact ⟨rfl, HBT.out⟩
end Go.Proofs.Ytclmhgaggminpab
