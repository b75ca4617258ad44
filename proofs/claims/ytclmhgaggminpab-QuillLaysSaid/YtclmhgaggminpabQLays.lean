/-
  QuillLays: the walk. Conditions: the values are there.
-/
import Derived.Test.YtclmhgaggminpabQTk
import Derived.Test.YtclmhgaggminpabQParts
namespace Go.Proofs.Ytclmhgaggminpab
open Go.RowKit

set_option maxRecDepth 20000 in
set_option maxHeartbeats 4000000 in
theorem Lays_any (A1 : Option Addr) (n1 c1 : Nat) (a : List Val) (w : World)
    (hR1 : Rvs w w.heap.size A1 a) (hn1 : a.length = n1) (hm1 : n1 ≤ maxLen) (hin1 : ∀ u ∈ a, u.In) :
    Calls Try.prog 3 #[.slice A1 n1 c1] w fun e w' => e = .returned (.bool true) ∧ Below w.heap.size w w' := by
  have HR1 := Lib.hid hR1
  have HN1 := Lib.hid hn1
  have HI1 := Lib.hid hin1
  clear hR1 hn1 hin1
  go_enter Try.func3, Try.ntmps3
  go_wp2_with fail
  refine (awake8 _).mono ?_
  rintro e w1 ⟨rfl, hb1⟩
  have HB1 := Lib.hid hb1
  clear hb1
  go_wp2_with fail
  refine (few_any A1 n1 c1 w.heap.size a w1 (HR1.out.below HB1.out) HN1.out hm1 HB1.out.size HI1.out).mono ?_
  rintro e w3 ⟨A3, c3, xs, rfl, hc3, hm3, hxl, hgx, hrx, hb2⟩
  have HB3 := Lib.hid (HB1.out.trans (hb2.mono HB1.out.size))
  have HRX3 := Lib.hid hrx
  have HGX := Lib.hid hgx
  clear hb2 hrx hgx HB1
  unfold maxLen at hm3
  obtain ⟨W5, hW5⟩ : ∃ W, w3.alloc (.cells #[.slice none 0 0] 27) = W := ⟨_, rfl⟩
  have H0 : Hid (Qu W5 w3.heap.size w3.heap.size none []) := Lib.hid (by rw [← hW5]; exact Qu.new (Nat.le_refl _))
  have HB5 : Hid (Below w3.heap.size w3 W5) := Lib.hid (by rw [← hW5]; exact (Below.refl _ w3).alloc (Nat.le_refl _) _)
  go_wp2_with fail
  try rw [hW5]
  clear hW5
  go_loopw [4, 21] (fun tw i wr => ∃ (k g : Nat) (rx : Option Nat) (A : Option Addr) (c : Nat), k ≤ xs.length ∧ i = .int .i64 k ∧ tw = .slice A (layAll (xs.take k)).length c ∧ (layAll (xs.take k)).length ≤ c ∧ c ≤ maxLen ∧ Hid (Rg wr g A (layAll (xs.take k))) ∧ g ≠ w3.heap.size ∧ rx ≠ some g ∧
    Hid (Qu wr w3.heap.size w3.heap.size rx (layAll (xs.take k))) ∧ Hid ((layAll (xs.take k)).length ≤ 1009 * k) ∧ Hid (Below w3.heap.size w3 wr)) (fun _ i _ => xs.length - (intOf i).toNat)
  case atStart => exact ⟨0, w3.heap.size + 1, none, none, 0, Nat.zero_le _, rfl, rfl, by simp [layAll], by decide, Lib.hid Rg.nil_, by omega, by simp, H0, Lib.hid (by simp [layAll]), HB5⟩
  case round =>
    obtain ⟨k, g, rx, A, c, hk, rfl, rfl, hlc, hcm, HRD, hgq, hgr, HX, HLL, HBW⟩ := hrel
    by_cases hlt : k < xs.length
    · obtain ⟨b', o, rfl, hb', x0, x1, x2, x3, x4⟩ := (HRX3.out.below HBW.out).at_ hlt
      have hgd := HGX.out xs[k] (List.getElem_mem hlt)
      obtain ⟨V, hV⟩ : ∃ V, xs[k] = V := ⟨_, rfl⟩
      rw [hV] at x0 x1 x2 x3 x4 hgd
      rw [← Nat.add_assoc] at x0 x1 x2 x3 x4
      rw [Nat.add_zero] at x0
      have hO : V.Ok := hgd.ok
      obtain ⟨LX, hLX⟩ : ∃ L, layAll (xs.take k) = L := ⟨_, rfl⟩
      rw [hLX] at HRD HX HLL hlc ⊢
      have hTK2 : layAll (xs.take (k + 1)) = LX ++ layV V := by rw [take_snocV hlt hV, layAll_snoc, hLX]
      have HTK2 := Lib.hid hTK2
      have hll2 : LX.length ≤ 13000 := by have := HLL.out; omega
      obtain ⟨W1, hW1⟩ : ∃ W, wr.alloc (.cells #[.int .u8 (V.k : Int), .int .u64 (V.u : Int), .int .i64 V.i, .string V.s, .int .u64 (V.m : Int)] 30) = W := ⟨_, rfl⟩
      have hba : Below wr.heap.size wr W1 := by rw [← hW1]; exact (Below.refl _ wr).alloc (Nat.le_refl _) _
      have hkb : Blk W1 wr.heap.size 30 #[.int .u8 (V.k : Int), .int .u64 (V.u : Int), .int .i64 V.i, .string V.s, .int .u64 (V.m : Int)] := by rw [← hW1]; exact Blk.new wr _ _
      have hzr := HBW.out.size
      have h0 := HX.out.below hba
      have hBW1 := HBW.out.trans (hba.mono hzr)
      have hRD1 := HRD.out.below hba
      have hL : Calls Try.prog 9 #[.pointer (some ⟨w3.heap.size, 0, none⟩), .agg #[.int .u8 (V.k : Int), .int .u64 (V.u : Int), .int .i64 V.i, .string V.s, .int .u64 (V.m : Int)]] W1 (QPost W1 w3.heap.size w3.heap.size rx (LX ++ layV V)) :=
        lay_any w3.heap.size w3.heap.size rx LX V hO (by omega) W1 h0
      have d0 := hkb.cell 0
      have d1 := hkb.cell 1
      have d2 := hkb.cell 2
      have d3 := hkb.cell 3
      have d4 := hkb.cell 4
      simp at d0 d1 d2 d3 d4
      have HL := Lib.hid hL
      have K0 := Lib.hid h0
      have HKB := Lib.hid hkb
      have HB1 := Lib.hid hBW1
      have hRD1' := Lib.hid hRD1
      clear hL h0 hkb hBW1 hV hgd hba hRD1 hLX hTK2
      go_wp2_with fail
      refine HL.out.mono ?_
      rintro e w6 ⟨rfl, ⟨rx', h6, hs6⟩, hf6⟩
      have hz6 : W1.heap.size ≤ w6.heap.size := hf6.2.2.2.1
      have hwr1 : wr.heap.size < W1.heap.size := HKB.out.lt
      have hrx : rx ≠ some wr.heap.size := fun e => by have := (HX.out.row _ e).2; omega
      have hkb6 := HKB.out.past hf6 (by have := HX.out.lt; omega) hrx
      have hrd6 := hRD1'.out.past hf6 hgq hgr
      have hb6 := hf6.to_below' HB1.out K0.out (by omega)
      have e0 := hkb6.cell 0
      have e1 := hkb6.cell 1
      have e2 := hkb6.cell 2
      have e3 := hkb6.cell 3
      have e4 := hkb6.cell 4
      simp at e0 e1 e2 e3 e4
      have hRL : Calls Try.prog 11 #[.agg #[.int .u8 (V.k : Int), .int .u64 (V.u : Int), .int .i64 V.i, .string V.s, .int .u64 (V.m : Int)]] w6 (CutPost w6.heap.size w6 (layV V)) := RLay_any V hO w6
      have HRL := Lib.hid hRL
      have J0 := Lib.hid h6
      have J1 := Lib.hid hrd6
      have HB6 := Lib.hid hb6
      clear hRL h6 hrd6 hb6 hf6 hs6 hkb6 d0 d1 d2 d3 d4 x0 x1 x2 x3 x4 hrx hW1 HL K0 HKB
      go_wp2_with fail
      refine HRL.out.mono ?_
      rintro e w7 ⟨A7, c7, rfl, hc7, hm7, hr7, hb7⟩
      have hlv := layV_len hO
      have hJ := Join_after A A7 LX.length (layV V).length c c7 LX (layV V) w6 w7 hb7 ((J1.out.below hb7).rd) hr7 rfl rfl (by omega)
      have HJ := Lib.hid hJ
      have HX7 := Lib.hid (J0.out.below hb7)
      have HB7 := Lib.hid (HB6.out.trans (hb7.mono HB6.out.size))
      clear hJ hr7 hb7 HRL e0 e1 e2 e3 e4
      go_wp2_with fail
      refine HJ.out.mono ?_
      rintro e w8 ⟨v, rfl, ho, hb8⟩
      obtain ⟨hl8, A8, c8, g8, rfl, hc8, hm8, hg8, hr8, -, -⟩ := own_rg ho w6.heap.size (Nat.le_refl _)
      have HX8 := Lib.hid (J0.out.below hb8)
      have HB8 := Lib.hid (HB6.out.trans (hb8.mono HB6.out.size))
      have HR8 := Lib.hid hr8
      have hq8 := J0.out.lt
      have hrx8 : rx' ≠ some g8 := fun e => by have := (J0.out.row _ e).2; omega
      have HLL8 : Hid ((LX ++ layV V).length ≤ 1009 * (k + 1)) := Lib.hid (by rw [List.length_append]; have := HLL.out; omega)
      clear ho hb8 hr8 HJ hl8
      go_wp2_with fail
      go_roundw
      case rel => exact ⟨k + 1, g8, rx', A8, c8, by omega, by go_num, by rw [HTK2.out, List.length_append], by rw [HTK2.out]; exact hc8, hm8, Lib.hid (by rw [HTK2.out]; exact HR8.out), by omega, hrx8, Lib.hid (by rw [HTK2.out]; exact HX8.out), Lib.hid (by rw [HTK2.out]; exact HLL8.out), HB8⟩
      case measure => simp [intOf]; omega
    · obtain rfl : k = xs.length := by omega
      rw [List.take_length] at HRD HX HLL hlc ⊢
      have hll2 : (layAll xs).length ≤ 13000 := by have := HLL.out; omega
      have hLall : layAll xs = layAll (xs.drop 0) := rfl
      obtain ⟨LX, hLX⟩ : ∃ L, layAll xs = L := ⟨_, rfl⟩
      rw [hLX] at HRD HX HLL hlc hll2 hLall ⊢
      have HLA := Lib.hid hLall
      clear hLX hLall HLL
      have HD := Lib.hid (QDone_any w3.heap.size w3.heap.size rx LX (by omega) wr HX.out)
      go_wp2_with fail
      refine HD.out.mono ?_
      rintro e w5 ⟨⟨A5, g5, rfl, hA5, hg5, hrg5⟩, hb5⟩
      have HR5 := Lib.hid hrg5.rd
      have HW5 := Lib.hid ((HRD.out.below hb5).rd)
      have HB5' := Lib.hid (HBW.out.trans (hb5.mono HBW.out.size))
      clear hrg5 hb5 HD HX HRD HBW HB5 hg5
      have hS := Same_any A5 A LX.length LX.length w5.heap.size LX.length c w5.heap.size LX LX w5 HR5.out rfl (by unfold maxLen; omega) HW5.out rfl (by unfold maxLen; omega)
      rw [show decide (LX = LX) = true by simp] at hS
      have HS := Lib.hid hS
      clear hS
      go_wp2_with fail
      refine (HS.out.mono fun _ _ h => below_all h).mono ?_
      rintro e w6 ⟨rfl, hb6⟩
      have HR6 := Lib.hid ((HR5.out.below hb6).more hb6.size)
      have HW6 := Lib.hid ((HW5.out.below hb6).more hb6.size)
      have HB6 := Lib.hid (HB5'.out.trans (hb6.mono HB5'.out.size))
      clear hb6 HS HR5 HW5 HB5'
      have HK := Lib.hid (Look_any A5 LX.length LX.length w6.heap.size LX w6 HR6.out rfl (by omega) (Nat.le_refl _) (fun h => ⟨hA5 h, hA5 h⟩))
      go_wp2_with fail
      refine HK.out.mono ?_
      rintro e w7 ⟨b, g7, rfl, hb7, hg7, hgl, hln, hbl⟩
      have HLN := Lib.hid hln
      have HW7 := Lib.hid (HW6.out.below hbl)
      have HB7 := Lib.hid (HB6.out.trans (hbl.mono HB6.out.size))
      have hz7 := hbl.size
      have hz3 := HB6.out.size
      clear hln hbl HK HW6 HR6 HB6
      go_wp2_with fail
      go_loopw [4, 42] (fun tw i wr => ∃ (k : Nat) (A : Option Addr) (c : Nat), k ≤ xs.length ∧ i = .int .i64 k ∧ tw = .slice A (layAll (xs.drop k)).length c ∧ (layAll (xs.drop k)).length ≤ c ∧ c ≤ maxLen ∧ (layAll (xs.drop k)).length ≤ 13000 ∧ Hid (Rd wr w6.heap.size A (layAll (xs.drop k))) ∧
        Hid (Ln wr b g7 (some (layAll (xs.drop k)))) ∧ Hid (Below w3.heap.size w3 wr) ∧ w7.heap.size ≤ wr.heap.size) (fun _ i _ => xs.length - (intOf i).toNat)
      case atStart => exact ⟨0, A, c, Nat.zero_le _, rfl, by rw [← HLA.out], by rw [← HLA.out]; exact hlc, hcm, by rw [← HLA.out]; exact hll2, Lib.hid (by rw [← HLA.out]; exact HW7.out), Lib.hid (by rw [← HLA.out]; exact HLN.out), HB7, Nat.le_refl _⟩
      case round =>
        obtain ⟨k, A, c, hk, rfl, rfl, hlc, hcm, hll, HRD, HLN, HBW, hzw⟩ := hrel
        by_cases hlt : k < xs.length
        · obtain ⟨b', o, rfl, hb', x0, x1, x2, x3, x4⟩ := (HRX3.out.below HBW.out).at_ hlt
          have hgd := HGX.out xs[k] (List.getElem_mem hlt)
          obtain ⟨V, hV⟩ : ∃ V, xs[k] = V := ⟨_, rfl⟩
          rw [hV] at x0 x1 x2 x3 x4 hgd
          rw [← Nat.add_assoc] at x0 x1 x2 x3 x4
          rw [Nat.add_zero] at x0
          have hO : V.Ok := hgd.ok
          have hdr : layAll (xs.drop k) = layV V ++ layAll (xs.drop (k + 1)) := by
            rw [List.drop_eq_getElem_cons hlt, hV]; simp [layAll]
          rw [hdr] at hlc hll HRD HLN ⊢
          obtain ⟨L, hL⟩ : ∃ L, layAll (xs.drop (k + 1)) = L := ⟨_, rfl⟩
          have HL := Lib.hid hL
          rw [hL] at hlc hll HRD HLN ⊢
          obtain ⟨LL, hLL⟩ : ∃ x, layV V ++ L = x := ⟨_, rfl⟩
          rw [hLL] at hlc hll HRD HLN ⊢
          obtain ⟨W1, hW1⟩ : ∃ W, wr.alloc (.cells #[.int .u8 (V.k : Int), .int .u64 (V.u : Int), .int .i64 V.i, .string V.s, .int .u64 (V.m : Int)] 30) = W := ⟨_, rfl⟩
          have hba : Below wr.heap.size wr W1 := by rw [← hW1]; exact (Below.refl _ wr).alloc (Nat.le_refl _) _
          have hkb : Blk W1 wr.heap.size 30 #[.int .u8 (V.k : Int), .int .u64 (V.u : Int), .int .i64 V.i, .string V.s, .int .u64 (V.m : Int)] := by rw [← hW1]; exact Blk.new wr _ _
          have d0 := hkb.cell 0
          have d4 := hkb.cell 4
          have f4 := hkb.frozen 4
          simp at d0 d4
          have HKB := Lib.hid hkb
          clear hL hdr hV
          by_cases h3 : V.k % 4 = 3
          · have hk3 : (V.k : Int) % 4 = 3 := by omega
            obtain ⟨W2, hW2⟩ : ∃ W, (W1.setCell ⟨wr.heap.size, 4, none⟩ (.int .u64 18446744073709551615)).setCell ⟨wr.heap.size, 4, none⟩ (.int .u64 40) = W := ⟨_, rfl⟩
            have hk2 : Blk W2 wr.heap.size 30 #[.int .u8 (V.k : Int), .int .u64 (V.u : Int), .int .i64 V.i, .string V.s, .int .u64 (40 : Int)] := by
              rw [← hW2]
              have := (hkb.set_ 4 (.int .u64 18446744073709551615)).set_ 4 (.int .u64 40); simpa using this
            have hb2 : Below wr.heap.size wr W2 := by rw [← hW2]; exact (hba.setCell (Nat.le_refl _) _).setCell (Nat.le_refl _) _
            obtain ⟨v', hv'⟩ : ∃ x : Val, x = { V with m := 40 } := ⟨_, rfl⟩
            have hok : v'.Ok := by rw [hv']; exact ⟨hO.k, hO.u, hO.i, hO.s, by show 40 < 18446744073709551616; omega⟩
            have htr : takeR (some LL) v' = some L := by rw [hv', ← hLL]; exact lay_takeR V hO 40 (fun h => by omega) (fun h => by exact ⟨hgd.s, by decide⟩) L
            have hte : takeM LL v' = some (takeO (some LL) v', L) := by rw [takeM_eq _ _ (by rw [hv']; intro h; show 40 < 1000; omega), htr]
            have hT : Calls Try.prog 15 #[.pointer (some ⟨b, 0, none⟩), .agg #[.int .u8 (V.k : Int), .int .u64 (V.u : Int), .int .i64 V.i, .string V.s, .int .u64 (40 : Int)]] W2 (TOPost b g7 v' W2 (some LL)) := by
              have := take_any b g7 v' hok (some LL) W2 (HLN.out.below hb2) (by have := hb2.size; omega)
              rw [hv'] at this ⊢
              exact this
            unfold TOPost at hT
            rw [htr] at hT
            have hvk : v'.k = V.k := by rw [hv']
            have hxe : ∀ W (A : Option Addr) (n c : Nat), Rd W w6.heap.size A LL → w6.heap.size ≤ W.heap.size → LL.length = n → n ≤ c → c ≤ maxLen → Calls Try.prog 16 #[.slice A n c, .agg #[.int .u8 (V.k : Int), .int .u64 (V.u : Int), .int .i64 V.i, .string V.s, .int .u64 (40 : Int)]] W (RTPost W w6.heap.size v'.k (some (takeO (some LL) v', L))) := fun W A n c h1 h2 h3 h4 h5 => by
              have := RTake_any v' hok.k hok.m A n c w6.heap.size LL W h1 h2 h3 h4 h5
              rw [hte] at this
              rw [hv'] at this ⊢
              exact this
            obtain ⟨X, hX⟩ : ∃ X, takeO (some LL) v' = X := ⟨_, rfl⟩
            rw [hX] at hT
            simp only [hX] at hxe
            have j0 := hk2.cell 0
            have j1 := hk2.cell 1
            have j2 := hk2.cell 2
            have j3 := hk2.cell 3
            have j4 := hk2.cell 4
            simp at j0 j1 j2 j3 j4
            have HT := Lib.hid hT
            have HXE := Lib.hid hxe
            have HK2 := Lib.hid hk2
            have HB2 := Lib.hid hb2
            clear hT hxe hk2 hb2 hX htr hte hv' hvk hok
            clear hkb HKB
            go_wp2_with fail
            refine HT.out.mono ?_
            rintro e w8 ⟨rfl, hln8, hf8⟩
            clear x0 x1 x2 x3 x4 d0 d4 f4 hW1 hW2 j0 j1 j2 j3 j4 HT
            obtain ⟨xk, xu, xi, xt, xm⟩ := X
            have hblt := HLN.out.lt
            have hz2 := HB2.out.size
            have hz8 : W2.heap.size ≤ w8.heap.size := hf8.2.2.2.1
            have hk8 := HK2.out.past hf8 (by omega) (by simp)
            have hrd8 : Rd w8 w6.heap.size A LL := (HRD.out.below (HB2.out.mono (by omega))).keep fun p hp => World.cell?_of_block (hf8.2.2.2.2 p.block (by omega) (by omega) (by simp))
            have hb8 : Below w3.heap.size w3 w8 := hf8.to_below (HBW.out.trans (HB2.out.mono HBW.out.size)) (by have := HBW.out.size; omega) (by omega) (by simp)
            obtain ⟨w9, hW9⟩ : ∃ W, w8.alloc (.cells #[.int .u8 (xk : Int), .int .u64 (xu : Int), .int .i64 xi, .string xt, .int .u64 (xm : Int)] 30) = W := ⟨_, rfl⟩
            have hb9 : Below w8.heap.size w8 w9 := by rw [← hW9]; exact (Below.refl _ w8).alloc (Nat.le_refl _) _
            have hx9 : Blk w9 w8.heap.size 30 #[.int .u8 (xk : Int), .int .u64 (xu : Int), .int .i64 xi, .string xt, .int .u64 (xm : Int)] := by rw [← hW9]; exact Blk.new _ _ _
            have hk9 := hk8.below hb9 hk8.lt
            have hx := HXE.out w9 A _ c (hrd8.below (hb9.mono (by omega))) (by have := hb9.size; omega) rfl hlc hcm
            have j0 := hk9.cell 0
            have j1 := hk9.cell 1
            have j2 := hk9.cell 2
            have j3 := hk9.cell 3
            have j4 := hk9.cell 4
            simp at j0 j1 j2 j3 j4
            have HX9 := Lib.hid hx9
            have HT9 := Lib.hid hx
            have HL9 := Lib.hid (hln8.below hb9)
            have HB9 := Lib.hid (hb8.trans (hb9.mono hb8.size))
            have hz9 := hb9.size
            clear hx9 hx hln8 hb8 hrd8 hk8 hk9 hf8 HXE HK2 HB2 HRD HLN HBW hb9
            simp only [Val.enc]
            go_wp2_with fail
            try rw [hW9]
            refine HT9.out.mono ?_
            intro e w10 hp
            obtain ⟨A2, c2, rfl, hlc2, hcm2, hrd10, hb10⟩ := hp
            obtain ⟨w11, hW11⟩ : ∃ W, w10.alloc (.cells #[.int .u8 (xk : Int), .int .u64 (xu : Int), .int .i64 xi, .string xt, .int .u64 (xm : Int)] 30) = W := ⟨_, rfl⟩
            have hb11 : Below w10.heap.size w10 w11 := by rw [← hW11]; exact (Below.refl _ w10).alloc (Nat.le_refl _) _
            have hy11 : Blk w11 w10.heap.size 30 #[.int .u8 (xk : Int), .int .u64 (xu : Int), .int .i64 xi, .string xt, .int .u64 (xm : Int)] := by rw [← hW11]; exact Blk.new _ _ _
            have hx10 := HX9.out.below hb10 HX9.out.lt
            have hx11 := hx10.below hb11 hx10.lt
            have hrd11 := hrd10.below (hb11.mono (by have := hb10.size; omega))
            have hl11 := (HL9.out.below hb10).below hb11
            have hb12 := HB9.out.trans ((hb10.trans (hb11.mono hb10.size)).mono HB9.out.size)
            have hz10 := hb10.size
            have hz11 := hb11.size
            have j0 := hx11.cell 0
            have j1 := hx11.cell 1
            have j2 := hx11.cell 2
            have j3 := hx11.cell 3
            have j4 := hx11.cell 4
            have y0 := hy11.cell 0
            have y1 := hy11.cell 1
            have y2 := hy11.cell 2
            have y3 := hy11.cell 3
            have y4 := hy11.cell 4
            simp at j0 j1 j2 j3 j4 y0 y1 y2 y3 y4
            have hE : Calls Try.prog 17 #[.pointer (some ⟨b, 0, none⟩)] w11 fun e w' => e = .returned (.int .i64 (L.length : Int)) ∧ w11 = w' := LRest_any b g7 (some L) w11 hl11
            have HE := Lib.hid hE
            clear hE
            have HL11 := Lib.hid hl11
            have HR11 := Lib.hid hrd11
            have HB12 := Lib.hid hb12
            clear hb10 hb11 hy11 hx10 hx11 hrd10 hrd11 hl11 hb12 HT9 HX9 HL9 HB9
            simp only [Val.enc]
            go_wp2_with fail
            try rw [hW11]
            refine HE.out.mono ?_
            rintro e w12 ⟨rfl, rfl⟩
            clear j0 j1 j2 j3 j4 y0 y1 y2 y3 y4 hW9 hW11 HE
            go_wp2_with fail
            go_roundw
            case rel => exact ⟨k + 1, A2, c2, by omega, by go_num, by rw [HL.out], by rw [HL.out]; exact hlc2, hcm2, by (rw [HL.out]; have := hll; rw [← hLL, List.length_append] at this; omega), Lib.hid (by rw [HL.out]; exact HR11.out), Lib.hid (by rw [HL.out]; exact HL11.out), HB12, by omega⟩
            case measure => simp [intOf]; omega
          · have hk3 : ((V.k : Int) % 4 == 3) = false := by rw [beq_eq_false_iff_ne]; omega
            have hk4 : ¬ (V.k : Int) % 4 = 3 := by omega
            obtain ⟨W2, hW2⟩ : ∃ W, W1.setCell ⟨wr.heap.size, 4, none⟩ (.int .u64 18446744073709551615) = W := ⟨_, rfl⟩
            have hk2 : Blk W2 wr.heap.size 30 #[.int .u8 (V.k : Int), .int .u64 (V.u : Int), .int .i64 V.i, .string V.s, .int .u64 (18446744073709551615 : Int)] := by
              rw [← hW2]
              have := hkb.set_ 4 (.int .u64 18446744073709551615); simpa using this
            have hb2 : Below wr.heap.size wr W2 := by rw [← hW2]; exact hba.setCell (Nat.le_refl _) _
            obtain ⟨v', hv'⟩ : ∃ x : Val, x = { V with m := 18446744073709551615 } := ⟨_, rfl⟩
            have hok : v'.Ok := by rw [hv']; exact ⟨hO.k, hO.u, hO.i, hO.s, by show 18446744073709551615 < 18446744073709551616; omega⟩
            have htr : takeR (some LL) v' = some L := by rw [hv', ← hLL]; exact lay_takeR V hO 18446744073709551615 (fun h => by have := hO.u; omega) (fun h => by exact absurd h h3) L
            have hte : takeM LL v' = some (takeO (some LL) v', L) := by rw [takeM_eq _ _ (by rw [hv']; intro h; exact absurd h h3), htr]
            have hT : Calls Try.prog 15 #[.pointer (some ⟨b, 0, none⟩), .agg #[.int .u8 (V.k : Int), .int .u64 (V.u : Int), .int .i64 V.i, .string V.s, .int .u64 (18446744073709551615 : Int)]] W2 (TOPost b g7 v' W2 (some LL)) := by
              have := take_any b g7 v' hok (some LL) W2 (HLN.out.below hb2) (by have := hb2.size; omega)
              rw [hv'] at this ⊢
              exact this
            unfold TOPost at hT
            rw [htr] at hT
            have hvk : v'.k = V.k := by rw [hv']
            have hxe : ∀ W (A : Option Addr) (n c : Nat), Rd W w6.heap.size A LL → w6.heap.size ≤ W.heap.size → LL.length = n → n ≤ c → c ≤ maxLen → Calls Try.prog 16 #[.slice A n c, .agg #[.int .u8 (V.k : Int), .int .u64 (V.u : Int), .int .i64 V.i, .string V.s, .int .u64 (18446744073709551615 : Int)]] W (RTPost W w6.heap.size v'.k (some (takeO (some LL) v', L))) := fun W A n c h1 h2 h3 h4 h5 => by
              have := RTake_any v' hok.k hok.m A n c w6.heap.size LL W h1 h2 h3 h4 h5
              rw [hte] at this
              rw [hv'] at this ⊢
              exact this
            obtain ⟨X, hX⟩ : ∃ X, takeO (some LL) v' = X := ⟨_, rfl⟩
            rw [hX] at hT
            simp only [hX] at hxe
            have j0 := hk2.cell 0
            have j1 := hk2.cell 1
            have j2 := hk2.cell 2
            have j3 := hk2.cell 3
            have j4 := hk2.cell 4
            simp at j0 j1 j2 j3 j4
            have HT := Lib.hid hT
            have HXE := Lib.hid hxe
            have HK2 := Lib.hid hk2
            have HB2 := Lib.hid hb2
            clear hT hxe hk2 hb2 hX htr hte hv' hvk hok
            clear hkb HKB
            go_wp2_with fail
            refine HT.out.mono ?_
            rintro e w8 ⟨rfl, hln8, hf8⟩
            clear x0 x1 x2 x3 x4 d0 d4 f4 hW1 hW2 j0 j1 j2 j3 j4 HT
            obtain ⟨xk, xu, xi, xt, xm⟩ := X
            have hblt := HLN.out.lt
            have hz2 := HB2.out.size
            have hz8 : W2.heap.size ≤ w8.heap.size := hf8.2.2.2.1
            have hk8 := HK2.out.past hf8 (by omega) (by simp)
            have hrd8 : Rd w8 w6.heap.size A LL := (HRD.out.below (HB2.out.mono (by omega))).keep fun p hp => World.cell?_of_block (hf8.2.2.2.2 p.block (by omega) (by omega) (by simp))
            have hb8 : Below w3.heap.size w3 w8 := hf8.to_below (HBW.out.trans (HB2.out.mono HBW.out.size)) (by have := HBW.out.size; omega) (by omega) (by simp)
            obtain ⟨w9, hW9⟩ : ∃ W, w8.alloc (.cells #[.int .u8 (xk : Int), .int .u64 (xu : Int), .int .i64 xi, .string xt, .int .u64 (xm : Int)] 30) = W := ⟨_, rfl⟩
            have hb9 : Below w8.heap.size w8 w9 := by rw [← hW9]; exact (Below.refl _ w8).alloc (Nat.le_refl _) _
            have hx9 : Blk w9 w8.heap.size 30 #[.int .u8 (xk : Int), .int .u64 (xu : Int), .int .i64 xi, .string xt, .int .u64 (xm : Int)] := by rw [← hW9]; exact Blk.new _ _ _
            have hk9 := hk8.below hb9 hk8.lt
            have hx := HXE.out w9 A _ c (hrd8.below (hb9.mono (by omega))) (by have := hb9.size; omega) rfl hlc hcm
            have j0 := hk9.cell 0
            have j1 := hk9.cell 1
            have j2 := hk9.cell 2
            have j3 := hk9.cell 3
            have j4 := hk9.cell 4
            simp at j0 j1 j2 j3 j4
            have HX9 := Lib.hid hx9
            have HT9 := Lib.hid hx
            have HL9 := Lib.hid (hln8.below hb9)
            have HB9 := Lib.hid (hb8.trans (hb9.mono hb8.size))
            have hz9 := hb9.size
            clear hx9 hx hln8 hb8 hrd8 hk8 hk9 hf8 HXE HK2 HB2 HRD HLN HBW hb9
            simp only [Val.enc]
            go_wp2_with fail
            try rw [hW9]
            refine HT9.out.mono ?_
            intro e w10 hp
            obtain ⟨A2, c2, rfl, hlc2, hcm2, hrd10, hb10⟩ := hp
            obtain ⟨w11, hW11⟩ : ∃ W, w10.alloc (.cells #[.int .u8 (xk : Int), .int .u64 (xu : Int), .int .i64 xi, .string xt, .int .u64 (xm : Int)] 30) = W := ⟨_, rfl⟩
            have hb11 : Below w10.heap.size w10 w11 := by rw [← hW11]; exact (Below.refl _ w10).alloc (Nat.le_refl _) _
            have hy11 : Blk w11 w10.heap.size 30 #[.int .u8 (xk : Int), .int .u64 (xu : Int), .int .i64 xi, .string xt, .int .u64 (xm : Int)] := by rw [← hW11]; exact Blk.new _ _ _
            have hx10 := HX9.out.below hb10 HX9.out.lt
            have hx11 := hx10.below hb11 hx10.lt
            have hrd11 := hrd10.below (hb11.mono (by have := hb10.size; omega))
            have hl11 := (HL9.out.below hb10).below hb11
            have hb12 := HB9.out.trans ((hb10.trans (hb11.mono hb10.size)).mono HB9.out.size)
            have hz10 := hb10.size
            have hz11 := hb11.size
            have j0 := hx11.cell 0
            have j1 := hx11.cell 1
            have j2 := hx11.cell 2
            have j3 := hx11.cell 3
            have j4 := hx11.cell 4
            have y0 := hy11.cell 0
            have y1 := hy11.cell 1
            have y2 := hy11.cell 2
            have y3 := hy11.cell 3
            have y4 := hy11.cell 4
            simp at j0 j1 j2 j3 j4 y0 y1 y2 y3 y4
            have hE : Calls Try.prog 17 #[.pointer (some ⟨b, 0, none⟩)] w11 fun e w' => e = .returned (.int .i64 (L.length : Int)) ∧ w11 = w' := LRest_any b g7 (some L) w11 hl11
            have HE := Lib.hid hE
            clear hE
            have HL11 := Lib.hid hl11
            have HR11 := Lib.hid hrd11
            have HB12 := Lib.hid hb12
            clear hb10 hb11 hy11 hx10 hx11 hrd10 hrd11 hl11 hb12 HT9 HX9 HL9 HB9
            simp only [Val.enc]
            go_wp2_with fail
            try rw [hW11]
            refine HE.out.mono ?_
            rintro e w12 ⟨rfl, rfl⟩
            clear j0 j1 j2 j3 j4 y0 y1 y2 y3 y4 hW9 hW11 HE
            go_wp2_with fail
            go_roundw
            case rel => exact ⟨k + 1, A2, c2, by omega, by go_num, by rw [HL.out], by rw [HL.out]; exact hlc2, hcm2, by (rw [HL.out]; have := hll; rw [← hLL, List.length_append] at this; omega), Lib.hid (by rw [HL.out]; exact HR11.out), Lib.hid (by rw [HL.out]; exact HL11.out), HB12, by omega⟩
            case measure => simp [intOf]; omega
        · obtain rfl : k = xs.length := by omega
          rw [show layAll (xs.drop xs.length) = [] by simp [layAll]] at HLN
          have hE := LEnd_any b g7 (some []) wr HLN.out
          rw [if_pos rfl] at hE
          have HE := Lib.hid hE
          clear hE
          go_wp2_with fail
          refine HE.out.mono ?_
          rintro e w9 ⟨rfl, rfl⟩
          have HBE := Lib.hid (HB3.out.trans (HBW.out.mono HB3.out.size))
          go_wp2_with fail
          go_ret
          exact ⟨rfl, HBE.out⟩
end Go.Proofs.Ytclmhgaggminpab
