/-
  QuillTakes: the walk. Conditions: the bytes and the values are there; errors.errorType is laid.
-/
import Derived.Test.YtbfekonlgbolcabDoorQTk
import Derived.Test.YtbfekonlgbolcabDoorCodeC
namespace Go.Proofs.YtbfekonlgbolcabDoor
open Go.RowKit

theorem takeO_none {st : Option (List UInt8)} {v : Val} (h : takeR st v = none) : takeO st v = ⟨v.k, 0, 0, noS, 0⟩ := by
  unfold takeR at h
  unfold takeO
  by_cases h0 : v.k % 4 = 0
  · rw [if_pos h0] at h ⊢
    unfold uS at h
    unfold uV
    cases hb : st.bind (takeU v.m) with
    | none => rfl
    | some x => rw [hb] at h; cases h
  · rw [if_neg h0] at h ⊢
    by_cases h1 : v.k % 4 = 1
    · rw [if_pos h1] at h ⊢
      unfold iS at h
      unfold iV
      cases hb : st.bind takeI with
      | none => rfl
      | some x => rw [hb] at h; cases h
    · rw [if_neg h1] at h ⊢
      by_cases h2 : v.k % 4 = 2
      · rw [if_pos h2] at h ⊢
        unfold uS at h
        unfold uV
        cases hb : st.bind (takeU 1) with
        | none => rfl
        | some x => rw [hb] at h; cases h
      · rw [if_neg h2] at h ⊢
        unfold tS at h
        unfold tV
        cases hb : st.bind (takeS (v.m % 1000)) with
        | none => rfl
        | some x => rw [hb] at h; cases h
theorem takeR_void (v : Val) : takeR none v = none := by
  unfold takeR uS iS tS
  simp
/-- How it stands: the bytes that are left, or none. -/
def TkSt (w : World) (B : Nat) (p ok : Value) : Option (List UInt8) → Prop
  | some L => ∃ A c, p = .slice A L.length c ∧ ok = .bool true ∧ L.length ≤ c ∧ c ≤ maxLen ∧ Rd w B A L
  | none => p = .slice none 0 0 ∧ ok = .bool false

set_option maxRecDepth 20000 in
set_option maxHeartbeats 8000000 in
theorem QTakes_any (A0 : Option Addr) (n0 c0 : Nat) (l0 : List UInt8) (A1 : Option Addr) (n1 c1 : Nat) (a : List Val) (w : World) (hg : Laid w)
    (hR0 : Rd w w.heap.size A0 l0) (hn0 : l0.length = n0) (hm0 : n0 ≤ 140737488355328) (hR1 : Rvs w w.heap.size A1 a) (hn1 : a.length = n1) (hm1 : n1 ≤ maxLen) (hin1 : ∀ u ∈ a, u.In) :
    Calls Tryd.prog 3 #[.slice A0 n0 c0, .slice A1 n1 c1] w fun e w' => e = .returned (.bool true) ∧ Below w.heap.size w w' := by
  have HG := Lib.hid hg
  have HR0 := Lib.hid hR0
  have HN0 := Lib.hid hn0
  have HR1 := Lib.hid hR1
  have HN1 := Lib.hid hn1
  have HI1 := Lib.hid hin1
  clear hg hR0 hn0 hR1 hn1 hin1
  go_enter Tryd.func3, Tryd.ntmps3
  go_wp2_with fail
  refine (awake8 _).mono ?_
  rintro e w1 ⟨rfl, hb1⟩
  have HB1 := Lib.hid hb1
  clear hb1
  go_wp2_with fail
  refine (CutO_any A0 n0 c0 w.heap.size 60 l0 w1 (HR0.out.below HB1.out) HN0.out hm0 (by decide) HB1.out.size).mono ?_
  rintro e w2 ⟨v, rfl, ho, hb2⟩
  have hL60 : (l0.take 60).length ≤ 60 := by rw [List.length_take]; omega
  obtain ⟨P, hP⟩ : ∃ P, l0.take 60 = P := ⟨_, rfl⟩
  rw [hP] at ho hL60
  obtain ⟨hlp, A, c, g2, rfl, hpc, hpm, hpg, hpr, hpn, -⟩ := own_rg ho w1.heap.size (Nat.le_refl _)
  have HP2 := Lib.hid hpr.rd
  have HB2 := Lib.hid (HB1.out.trans (hb2.mono HB1.out.size))
  have HPN := Lib.hid hpn
  clear ho hb2 hP hlp hpr hpg hpn HB1
  go_wp2_with fail
  refine (few_any A1 n1 c1 w.heap.size a w2 (HR1.out.below HB2.out) HN1.out hm1 HB2.out.size HI1.out).mono ?_
  rintro e w3 ⟨A3, c3, xs, rfl, hc3, hm3, hxl, hgx, hrx, hb3⟩
  have HB3 := Lib.hid (HB2.out.trans (hb3.mono HB2.out.size))
  have HP3 := Lib.hid ((HP2.out.below hb3).more hb3.size)
  have HRX3 := Lib.hid hrx
  have HGX := Lib.hid hgx
  clear hb3 hrx hgx HB2 HP2
  unfold maxLen at hm3
  have HK := Lib.hid (Look_any A P.length c w3.heap.size P w3 HP3.out rfl (by omega) (Nat.le_refl _) (fun h => ⟨by have := HPN.out h; omega, HPN.out h⟩))
  go_wp2_with fail
  refine HK.out.mono ?_
  rintro e w4 ⟨b, g7, rfl, hbb, hg7, hgl, hln, hbl⟩
  have HLN := Lib.hid hln
  have HP4 := Lib.hid (HP3.out.below hbl)
  have HB4 := Lib.hid hbl
  have hz4 := hbl.size
  clear hln hbl HK HP3
  go_wp2_with fail
  go_loopw [0, 6, 26] (fun p ok i wr => ∃ (k : Nat) (st : Option (List UInt8)), k ≤ xs.length ∧ i = .int .i64 k ∧ TkSt wr w3.heap.size p ok st ∧ Hid (Ln wr b g7 st) ∧ Hid (Below w3.heap.size w3 wr) ∧ w4.heap.size ≤ wr.heap.size) (fun _ _ i _ => xs.length - (intOf i).toNat)
  case atStart => exact ⟨0, some P, Nat.zero_le _, rfl, ⟨A, c, rfl, rfl, hpc, hpm, HP4.out⟩, HLN, HB4, Nat.le_refl _⟩
  case round =>
    obtain ⟨k, st, hk, rfl, hst, HLN, HBW, hzw⟩ := hrel
    by_cases hlt : k < xs.length
    · obtain ⟨b', o, rfl, hb', x0, x1, x2, x3, x4⟩ := (HRX3.out.below HBW.out).at_ hlt
      have hgd := HGX.out xs[k] (List.getElem_mem hlt)
      obtain ⟨V, hV⟩ : ∃ V, xs[k] = V := ⟨_, rfl⟩
      rw [hV] at x0 x1 x2 x3 x4 hgd
      rw [← Nat.add_assoc] at x0 x1 x2 x3 x4
      rw [Nat.add_zero] at x0
      have hO : V.Ok := hgd.ok
      have HM3 := Lib.hid hgd.m
      obtain ⟨W1, hW1⟩ : ∃ W, wr.alloc (.cells #[.int .u8 (V.k : Int), .int .u64 (V.u : Int), .int .i64 V.i, .string V.s, .int .u64 (V.m : Int)] 31) = W := ⟨_, rfl⟩
      have hba : Below wr.heap.size wr W1 := by rw [← hW1]; exact (Below.refl _ wr).alloc (Nat.le_refl _) _
      have hkb : Blk W1 wr.heap.size 31 #[.int .u8 (V.k : Int), .int .u64 (V.u : Int), .int .i64 V.i, .string V.s, .int .u64 (V.m : Int)] := by rw [← hW1]; exact Blk.new wr _ _
      have d0 := hkb.cell 0
      have d1 := hkb.cell 1
      have d2 := hkb.cell 2
      have d3 := hkb.cell 3
      have d4 := hkb.cell 4
      simp at d0 d1 d2 d3 d4
      have hT : Calls Tryd.prog 10 #[.pointer (some ⟨b, 0, none⟩), .agg #[.int .u8 (V.k : Int), .int .u64 (V.u : Int), .int .i64 V.i, .string V.s, .int .u64 (V.m : Int)]] W1 (TOPost b g7 V W1 st) := take_any b g7 V hO st W1 (HLN.out.below hba) (by have := hba.size; omega)
      unfold TOPost at hT
      have HT := Lib.hid hT
      have HKB := Lib.hid hkb
      have HBA := Lib.hid hba
      have HO := Lib.hid hO
      clear hT hkb hba hV hgd hO
      cases st with
      | none =>
        obtain ⟨rfl, rfl⟩ := hst
        rw [takeO_none (takeR_void V), takeR_void] at HT
        simp only [Val.enc] at HT
        have HW1 := Lib.hid hW1
        clear hW1
        go_wp2_with fail
        try rw [HW1.out]
        refine HT.out.mono ?_
        rintro e w8 ⟨rfl, hln8, hf8⟩
        clear x0 x1 x2 x3 x4 d0 d1 d2 d3 d4 HW1 HT
        have hblt := HLN.out.lt
        have hz1 := HBA.out.size
        have hz8 : W1.heap.size ≤ w8.heap.size := hf8.2.2.2.1
        have hk8 := HKB.out.past hf8 (by omega) (by simp)
        have hb8 : Below w3.heap.size w3 w8 := hf8.to_below (HBW.out.trans (HBA.out.mono HBW.out.size)) (by have := HBW.out.size; omega) (by omega) (by simp)
        obtain ⟨w9, hW9⟩ : ∃ W, (w8.alloc (.cells #[.int .u8 (V.k : Int), .int .u64 0, .int .i64 0, .string noS, .int .u64 0] 31)).alloc (.cells #[.int .u8 (V.k : Int), .int .u64 0, .int .i64 0, .string noS, .int .u64 0] 31) = W := ⟨_, rfl⟩
        have hb9 : Below w8.heap.size w8 w9 := by rw [← hW9]; exact ((Below.refl _ w8).alloc (Nat.le_refl _) _).alloc (by simp) _
        have hx9 : Blk w9 w8.heap.size 31 #[.int .u8 (V.k : Int), .int .u64 0, .int .i64 0, .string noS, .int .u64 0] := by rw [← hW9]; exact (Blk.new _ _ _).alloc _
        have hy9 : Blk w9 (w8.heap.size + 1) 31 #[.int .u8 (V.k : Int), .int .u64 0, .int .i64 0, .string noS, .int .u64 0] := by
          rw [← hW9]
          have h := Blk.new (w8.alloc (.cells #[.int .u8 (V.k : Int), .int .u64 0, .int .i64 0, .string noS, .int .u64 0] 31)) 31 #[.int .u8 (V.k : Int), .int .u64 0, .int .i64 0, .string noS, .int .u64 0]
          rwa [show (w8.alloc (.cells #[.int .u8 (V.k : Int), .int .u64 0, .int .i64 0, .string noS, .int .u64 0] 31)).heap.size = w8.heap.size + 1 by simp] at h
        have hk9 := hk8.below hb9 hk8.lt
        have HB9 := Lib.hid (hb8.trans (hb9.mono hb8.size))
        have HL9 := Lib.hid (hln8.below hb9)
        have hz9 := hb9.size
        have j0 := hx9.cell 0
        have j1 := hx9.cell 1
        have j2 := hx9.cell 2
        have j3 := hx9.cell 3
        have j4 := hx9.cell 4
        have y0 := hy9.cell 0
        have y1 := hy9.cell 1
        have y2 := hy9.cell 2
        have y3 := hy9.cell 3
        have y4 := hy9.cell 4
        have q0 := hk8.cell 0
        have zz := hk8.lt
        simp at j0 j1 j2 j3 j4 y0 y1 y2 y3 y4 q0
        have hE : Calls Tryd.prog 12 #[.pointer (some ⟨b, 0, none⟩)] w9 fun e w' => e = .returned (.int .i64 0) ∧ w9 = w' := LRest_any b g7 none w9 HL9.out
        have HE := Lib.hid hE
        clear hE hk8 hk9 hx9 hy9 hln8 hb8 hf8 HKB HBA HLN HBW HO HM3 hb9
        have HW9 := Lib.hid hW9
        clear hW9
        go_wp2_with fail
        try rw [HW9.out]
        refine HE.out.mono ?_
        rintro e w12 ⟨rfl, rfl⟩
        clear j0 j1 j2 j3 j4 y0 y1 y2 y3 y4 q0 HW9 HE
        go_wp2_with fail
        go_roundw
        case rel => exact ⟨k + 1, none, by omega, by go_num, ⟨rfl, rfl⟩, HL9, HB9, by omega⟩
        case measure => simp [intOf]; omega
      | some LL =>
        obtain ⟨A, c, rfl, rfl, hlc, hcm, hRD⟩ := hst
        have HRD := Lib.hid hRD
        clear hRD
        have hxe : ∀ W, Rd W w3.heap.size A LL → w3.heap.size ≤ W.heap.size → Calls Tryd.prog 11 #[.slice A LL.length c, .agg #[.int .u8 (V.k : Int), .int .u64 (V.u : Int), .int .i64 V.i, .string V.s, .int .u64 (V.m : Int)]] W (RTPost W w3.heap.size V.k (takeM LL V)) := fun W h1 h2 => RTake_any V HO.out.k HO.out.m A LL.length c w3.heap.size LL W h1 h2 rfl hlc hcm
        rw [takeM_eq LL V HM3.out] at hxe
        have HXE := Lib.hid hxe
        clear hxe
        cases htr : takeR (some LL) V with
        | none =>
          rw [htr] at HXE HT
          rw [takeO_none htr] at HT
          simp only [Val.enc, RTPost] at HT HXE
          clear htr
          have HW1 := Lib.hid hW1
          clear hW1
          go_wp2_with fail
          try rw [HW1.out]
          refine HT.out.mono ?_
          rintro e w8 ⟨rfl, hln8, hf8⟩
          clear x0 x1 x2 x3 x4 d0 d1 d2 d3 d4 HW1 HT
          have hblt := HLN.out.lt
          have hz1 := HBA.out.size
          have hz8 : W1.heap.size ≤ w8.heap.size := hf8.2.2.2.1
          have hk8 := HKB.out.past hf8 (by omega) (by simp)
          have hb8 : Below w3.heap.size w3 w8 := hf8.to_below (HBW.out.trans (HBA.out.mono HBW.out.size)) (by have := HBW.out.size; omega) (by omega) (by simp)
          obtain ⟨w9, hW9⟩ : ∃ W, (w8.alloc (.cells #[.int .u8 (V.k : Int), .int .u64 0, .int .i64 0, .string noS, .int .u64 0] 31)).alloc (.cells #[.int .u8 (V.k : Int), .int .u64 0, .int .i64 0, .string noS, .int .u64 0] 31) = W := ⟨_, rfl⟩
          have hb9 : Below w8.heap.size w8 w9 := by rw [← hW9]; exact ((Below.refl _ w8).alloc (Nat.le_refl _) _).alloc (by simp) _
          have hx9 : Blk w9 w8.heap.size 31 #[.int .u8 (V.k : Int), .int .u64 0, .int .i64 0, .string noS, .int .u64 0] := by rw [← hW9]; exact (Blk.new _ _ _).alloc _
          have hy9 : Blk w9 (w8.heap.size + 1) 31 #[.int .u8 (V.k : Int), .int .u64 0, .int .i64 0, .string noS, .int .u64 0] := by
            rw [← hW9]
            have h := Blk.new (w8.alloc (.cells #[.int .u8 (V.k : Int), .int .u64 0, .int .i64 0, .string noS, .int .u64 0] 31)) 31 #[.int .u8 (V.k : Int), .int .u64 0, .int .i64 0, .string noS, .int .u64 0]
            rwa [show (w8.alloc (.cells #[.int .u8 (V.k : Int), .int .u64 0, .int .i64 0, .string noS, .int .u64 0] 31)).heap.size = w8.heap.size + 1 by simp] at h
          have hk9 := hk8.below hb9 hk8.lt
          have HB9 := Lib.hid (hb8.trans (hb9.mono hb8.size))
          have HL9 := Lib.hid (hln8.below hb9)
          have hz9 := hb9.size
          have hrd8 : Rd w8 w3.heap.size A LL := (HRD.out.below (HBA.out.mono (by have := HBW.out.size; omega))).keep fun p hp => World.cell?_of_block (hf8.2.2.2.2 p.block (by have := HBW.out.size; omega) (by omega) (by simp))
          have hx := HXE.out w9 (hrd8.below (hb9.mono (by have := HBW.out.size; omega))) (by have := HBW.out.size; omega)
          have HT9 := Lib.hid hx
          have HX9 := Lib.hid hx9
          have HY9 := Lib.hid hy9
          have HK9 := Lib.hid hk9
          have r0 := hk8.cell 0
          have r1 := hk8.cell 1
          have r2 := hk8.cell 2
          have r3 := hk8.cell 3
          have r4 := hk8.cell 4
          have zz := hk8.lt
          simp at r0 r1 r2 r3 r4
          have HB89 := Lib.hid hb9
          have HL8 := Lib.hid hln8
          have HB8 := Lib.hid hb8
          clear hx hk8 hk9 hx9 hy9 hln8 hb8 hf8 hrd8 hb9 HKB HBA HLN HBW HO HM3 HXE HRD
          have HW9 := Lib.hid hW9
          clear hW9
          go_wp2_with fail
          try rw [HW9.out]
          refine HT9.out.mono ?_
          rintro e w10 ⟨rfl, hb10⟩
          try simp only [Val.enc]
          obtain ⟨w11, hW11⟩ : ∃ W, w10.alloc (.cells #[.int .u8 (V.k : Int), .int .u64 0, .int .i64 0, .string noS, .int .u64 0] 31) = W := ⟨_, rfl⟩
          have hb11 : Below w9.heap.size w9 w11 := by rw [← hW11]; exact hb10.alloc hb10.size _
          have hx11 := HX9.out.below hb11 HX9.out.lt
          have hy11 := HY9.out.below hb11 HY9.out.lt
          have hx10 := HX9.out.below hb10 HX9.out.lt
          have hy10 := HY9.out.below hb10 HY9.out.lt
          have zx := hx10.lt
          have zy := hy10.lt
          have j0 := hx10.cell 0
          have j1 := hx10.cell 1
          have j2 := hx10.cell 2
          have j3 := hx10.cell 3
          have j4 := hx10.cell 4
          have y0 := hy10.cell 0
          have y1 := hy10.cell 1
          have y2 := hy10.cell 2
          have y3 := hy10.cell 3
          have y4 := hy10.cell 4
          simp at j0 j1 j2 j3 j4 y0 y1 y2 y3 y4
          have HL11 := Lib.hid (HL9.out.below hb11)
          have HB11 := Lib.hid (HB9.out.trans (hb11.mono HB9.out.size))
          have hz11 := hb11.size
          have hE : Calls Tryd.prog 12 #[.pointer (some ⟨b, 0, none⟩)] w11 fun e w' => e = .returned (.int .i64 0) ∧ w11 = w' := LRest_any b g7 none w11 HL11.out
          have HE := Lib.hid hE
          clear hE hx11 hy11 hx10 hy10 hb10 hb11 HT9 HX9 HY9 HK9 HL9 HB9 r0 r1 r2 r3 r4 HW9
          have HW11 := Lib.hid hW11
          clear hW11
          go_wp2_with fail
          try rw [HW11.out]
          refine HE.out.mono ?_
          rintro e w12 ⟨rfl, rfl⟩
          clear j0 j1 j2 j3 j4 y0 y1 y2 y3 y4 HW11 HE
          go_wp2_with fail
          go_roundw
          case rel => exact ⟨k + 1, none, by omega, by go_num, ⟨rfl, rfl⟩, HL11, HB11, by omega⟩
          case measure => simp [intOf]; omega
        | some L =>
          rw [htr] at HXE HT
          obtain ⟨X, hX⟩ : ∃ X, takeO (some LL) V = X := ⟨_, rfl⟩
          rw [hX] at HT
          simp only [hX, RTPost] at HXE
          obtain ⟨xk, xu, xi, xt, xm⟩ := X
          simp only [Val.enc] at HT HXE
          clear htr hX
          have HW1 := Lib.hid hW1
          clear hW1
          go_wp2_with fail
          try rw [HW1.out]
          refine HT.out.mono ?_
          rintro e w8 ⟨rfl, hln8, hf8⟩
          clear x0 x1 x2 x3 x4 d0 d1 d2 d3 d4 HW1 HT
          have hblt := HLN.out.lt
          have hz1 := HBA.out.size
          have hz8 : W1.heap.size ≤ w8.heap.size := hf8.2.2.2.1
          have hk8 := HKB.out.past hf8 (by omega) (by simp)
          have hb8 : Below w3.heap.size w3 w8 := hf8.to_below (HBW.out.trans (HBA.out.mono HBW.out.size)) (by have := HBW.out.size; omega) (by omega) (by simp)
          obtain ⟨w9, hW9⟩ : ∃ W, (w8.alloc (.cells #[.int .u8 (xk : Int), .int .u64 (xu : Int), .int .i64 xi, .string xt, .int .u64 (xm : Int)] 31)).alloc (.cells #[.int .u8 (V.k : Int), .int .u64 0, .int .i64 0, .string noS, .int .u64 0] 31) = W := ⟨_, rfl⟩
          have hb9 : Below w8.heap.size w8 w9 := by rw [← hW9]; exact ((Below.refl _ w8).alloc (Nat.le_refl _) _).alloc (by simp) _
          have hx9 : Blk w9 w8.heap.size 31 #[.int .u8 (xk : Int), .int .u64 (xu : Int), .int .i64 xi, .string xt, .int .u64 (xm : Int)] := by rw [← hW9]; exact (Blk.new _ _ _).alloc _
          have hy9 : Blk w9 (w8.heap.size + 1) 31 #[.int .u8 (V.k : Int), .int .u64 0, .int .i64 0, .string noS, .int .u64 0] := by
            rw [← hW9]
            have h := Blk.new (w8.alloc (.cells #[.int .u8 (xk : Int), .int .u64 (xu : Int), .int .i64 xi, .string xt, .int .u64 (xm : Int)] 31)) 31 #[.int .u8 (V.k : Int), .int .u64 0, .int .i64 0, .string noS, .int .u64 0]
            rwa [show (w8.alloc (.cells #[.int .u8 (xk : Int), .int .u64 (xu : Int), .int .i64 xi, .string xt, .int .u64 (xm : Int)] 31)).heap.size = w8.heap.size + 1 by simp] at h
          have hk9 := hk8.below hb9 hk8.lt
          have HB9 := Lib.hid (hb8.trans (hb9.mono hb8.size))
          have HL9 := Lib.hid (hln8.below hb9)
          have hz9 := hb9.size
          have hrd8 : Rd w8 w3.heap.size A LL := (HRD.out.below (HBA.out.mono (by have := HBW.out.size; omega))).keep fun p hp => World.cell?_of_block (hf8.2.2.2.2 p.block (by have := HBW.out.size; omega) (by omega) (by simp))
          have hx := HXE.out w9 (hrd8.below (hb9.mono (by have := HBW.out.size; omega))) (by have := HBW.out.size; omega)
          have HT9 := Lib.hid hx
          have HX9 := Lib.hid hx9
          have HY9 := Lib.hid hy9
          have HK9 := Lib.hid hk9
          have r0 := hk8.cell 0
          have r1 := hk8.cell 1
          have r2 := hk8.cell 2
          have r3 := hk8.cell 3
          have r4 := hk8.cell 4
          have zz := hk8.lt
          simp at r0 r1 r2 r3 r4
          have HB89 := Lib.hid hb9
          have HL8 := Lib.hid hln8
          have HB8 := Lib.hid hb8
          clear hx hk8 hk9 hx9 hy9 hln8 hb8 hf8 hrd8 hb9 HKB HBA HLN HBW HO HM3 HXE HRD
          have HW9 := Lib.hid hW9
          clear hW9
          go_wp2_with fail
          try rw [HW9.out]
          refine HT9.out.mono ?_
          rintro e w10 ⟨A2, c2, rfl, hlc2, hcm2, hrd10, hb10⟩
          try simp only [Val.enc]
          obtain ⟨w12, hW12⟩ : ∃ W, (((((w10.setCell ⟨w8.heap.size + 1, 0, none⟩ (.int .u8 (xk : Int))).setCell ⟨w8.heap.size + 1, 1, none⟩ (.int .u64 (xu : Int))).setCell ⟨w8.heap.size + 1, 2, none⟩ (.int .i64 xi)).setCell ⟨w8.heap.size + 1, 3, none⟩ (.string xt)).setCell ⟨w8.heap.size + 1, 4, none⟩ (.int .u64 (xm : Int))).alloc (.cells #[.int .u8 (xk : Int), .int .u64 (xu : Int), .int .i64 xi, .string xt, .int .u64 (xm : Int)] 31) = W := ⟨_, rfl⟩
          have hz10 := hb10.size
          have hb12 : Below w8.heap.size w8 w12 := by
            rw [← hW12]
            have h0 := HB89.out.trans (hb10.mono HB89.out.size)
            exact (((((h0.setCell (by simp) _).setCell (by simp) _).setCell (by simp) _).setCell (by simp) _).setCell (by simp) _).alloc (by simp [World.setCell]; omega) _
          have hx10 := HX9.out.below hb10 HX9.out.lt
          have hy10 := HY9.out.below hb10 HY9.out.lt
          have zx := hx10.lt
          have zy := hy10.lt
          have j0 := hx10.cell 0
          have j1 := hx10.cell 1
          have j2 := hx10.cell 2
          have j3 := hx10.cell 3
          have j4 := hx10.cell 4
          have y0 := hy10.cell 0
          have y1 := hy10.cell 1
          have y2 := hy10.cell 2
          have y3 := hy10.cell 3
          have y4 := hy10.cell 4
          have f0 := hy10.frozen 0
          have f1 := hy10.frozen 1
          have f2 := hy10.frozen 2
          have f3 := hy10.frozen 3
          have f4 := hy10.frozen 4
          simp at j0 j1 j2 j3 j4 y0 y1 y2 y3 y4
          have HL12 := Lib.hid (HL8.out.below hb12)
          have HB12 := Lib.hid (HB8.out.trans (hb12.mono HB8.out.size))
          have HR12 : Hid (Rd w12 w3.heap.size A2 L) := Lib.hid (by
            rw [← hW12]
            exact (((((hrd10.setCell (by have := HB8.out.size; simp; omega) _).setCell (by have := HB8.out.size; simp; omega) _).setCell (by have := HB8.out.size; simp; omega) _).setCell (by have := HB8.out.size; simp; omega) _).setCell (by have := HB8.out.size; simp; omega) _).alloc (by have := HB8.out.size; simp [World.setCell]; omega) _)
          have hz12 := hb12.size
          have hE : Calls Tryd.prog 12 #[.pointer (some ⟨b, 0, none⟩)] w12 fun e w' => e = .returned (.int .i64 (L.length : Int)) ∧ w12 = w' := LRest_any b g7 (some L) w12 HL12.out
          have HE := Lib.hid hE
          clear hE hx10 hy10 hrd10 hb10 hb12 HT9 HX9 HY9 HK9 HL9 HB9 HB89 HL8 HB8 r0 r1 r2 r3 r4 HW9
          have HW12 := Lib.hid hW12
          clear hW12
          go_wp2_with fail
          try rw [HW12.out]
          refine HE.out.mono ?_
          rintro e w13 ⟨rfl, rfl⟩
          clear j0 j1 j2 j3 j4 y0 y1 y2 y3 y4 f0 f1 f2 f3 f4 HW12 HE
          go_wp2_with fail
          go_roundw
          case rel => exact ⟨k + 1, some L, by omega, by go_num, ⟨A2, c2, rfl, rfl, hlc2, hcm2, HR12.out⟩, HL12, HB12, by omega⟩
          case measure => simp [intOf]; omega
    · obtain rfl : k = xs.length := by omega
      have HBR := Lib.hid (HB3.out.trans (HBW.out.mono HB3.out.size))
      clear HBW hlt hk
      cases st with
      | none =>
        obtain ⟨rfl, rfl⟩ := hst
        have HE := Lib.hid (LEnd_any b g7 none wr HLN.out)
        rw [if_neg (by simp)] at HE
        clear HLN
        go_wp2_with fail
        refine HE.out.mono ?_
        rintro e w12 ⟨rfl, rfl⟩
        clear HE
        go_wp2_with fail
        refine (Code_errno 2 _ (HG.out.below HBR.out)).mono ?_
        rintro e w13 ⟨rfl, hb13⟩
        go_wp2_with fail
        go_ret
        exact ⟨by first | rfl | simp, HBR.out.trans (hb13.mono HBR.out.size)⟩
      | some LL =>
        obtain ⟨A, c, rfl, rfl, hlc, hcm, hRD⟩ := hst
        clear hRD
        cases LL with
        | nil =>
          have HE := Lib.hid (LEnd_any b g7 (some []) wr HLN.out)
          rw [if_pos rfl] at HE
          clear HLN
          go_wp2_with fail
          refine HE.out.mono ?_
          rintro e w12 ⟨rfl, rfl⟩
          clear HE
          go_wp2_with fail
          go_ret
          exact ⟨by first | rfl | simp, HBR.out⟩
        | cons x LT =>
          obtain ⟨n, hn⟩ : ∃ n, (x :: LT).length = n := ⟨_, rfl⟩
          have hn0 : 0 < n := by rw [← hn]; simp
          have i1 : ((n : Int) == 0) = false := by rw [beq_eq_false_iff_ne]; omega
          have i2 : ¬ (n : Int) = 0 := by omega
          have HE := Lib.hid (LEnd_any b g7 (some (x :: LT)) wr HLN.out)
          rw [hn] at hlc ⊢
          clear hn0 hn hlc
          rw [if_neg (by simp)] at HE
          clear HLN
          go_wp2_with fail
          refine HE.out.mono ?_
          rintro e w12 ⟨rfl, rfl⟩
          clear HE
          go_wp2_with fail
          refine (Code_errno 2 _ (HG.out.below HBR.out)).mono ?_
          rintro e w13 ⟨rfl, hb13⟩
          go_wp2_with fail
          go_ret
          exact ⟨by first | rfl | simp, HBR.out.trans (hb13.mono HBR.out.size)⟩
end Go.Proofs.YtbfekonlgbolcabDoor
