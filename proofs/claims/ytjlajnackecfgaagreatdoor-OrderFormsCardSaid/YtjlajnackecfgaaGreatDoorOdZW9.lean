/-
order.Parse: of any bytes the order that has them, or none. Condition: the bytes are there.
-/
import Derived.Test.YtjlajnackecfgaaGreatDoorOdYW9
import Derived.Lib.AtoiErrMem
namespace Go.Proofs.YtjlajnackecfgaaGreatDoor
open Go.ChangeShapes Go.WideShapes Go.ChangeAt Go.RowKit Go.Shelf
def zeroP : Array Value := #[.int .u8 0, .int .u32 0, .int .u8 0, .int .i64 0, .int .u32 0, .int .u8 0, .int .i64 0, .int .i32 0, .int .i64 0, .int .i64 0, .int .u32 0, .int .i32 0, .int .u8 0, .int .i64 0]
def PaP (q : List UInt8) (w : World) (e : Ending) (w' : World) : Prop := ((∃ o : Ord, o.In ∧ o.Right ∧ layO o = q ∧ e = .returned (.tuple #[o.v, .nilIface])) ∨ (¬ okP q ∧ e = .returned (.tuple #[.agg zeroP, .iface 54 (.int .i64 2)]))) ∧ Below w.heap.size w w'
theorem bytes_rdP (w : World) (e : TypeId) (s : ByteArray) : Rd (Lib.bytesWorld w e s) (Lib.bytesWorld w e s).heap.size (some ⟨w.heap.size, 0, none⟩) s.data.toList := fun _ =>
  ⟨w.heap.size, 0, rfl, by rw [Lib.bytesWorld_size]; omega, fun j u hu => by
    obtain ⟨hj, hv⟩ := List.getElem?_eq_some_iff.1 hu
    rw [Nat.zero_add, Lib.bytesWorld_cell w e s j (by simpa using hj), List.getD, hu, Option.getD_some]⟩
theorem tV_len (most : Nat) (st : Option (List UInt8)) : (tV most st).data.toList.length ≤ most := by
  unfold tV
  cases st with
  | none => exact Nat.zero_le _
  | some l =>
    rw [Option.bind_some]
    unfold takeS
    cases hq : takeU most l with
    | none => exact Nat.zero_le _
    | some x =>
      obtain ⟨k, y⟩ := x
      have hk : k ≤ most := by
        have h9 := uV_le most (some l)
        unfold uV at h9
        rw [Option.bind_some, hq] at h9
        exact h9
      by_cases hn : k ≤ y.length
      · show (match (if k ≤ y.length then some (y.take k, y.drop k) else none) with | some (t, _) => (⟨t.toArray⟩ : ByteArray) | none => ⟨#[]⟩).data.toList.length ≤ most
        rw [if_pos hn]
        show (y.take k).length ≤ most
        rw [List.length_take]
        omega
      · show (match (if k ≤ y.length then some (y.take k, y.drop k) else none) with | some (t, _) => (⟨t.toArray⟩ : ByteArray) | none => ⟨#[]⟩).data.toList.length ≤ most
        rw [if_neg hn]
        exact Nat.zero_le _
theorem nil_ne {st : Option (List UInt8)} (h : ¬ st = some []) : (if st = some [] then Value.nilIface else .iface 54 (.int .i64 2)) = .iface 54 (.int .i64 2) := if_neg h
set_option maxRecDepth 100000 in
set_option maxHeartbeats 4000000 in
theorem Parse_1 (A : Option Addr) (n c Bd : Nat) (q : List UInt8) (w : World) (hRd : Rd w Bd A q) (hn : q.length = n) (hm0 : n ≤ 900000) (hB : Bd ≤ w.heap.size) (hA : A = none → n = 0 ∧ c = 0) (hk : pk q = 1) : Calls Tryz.prog 13 #[.slice A n c] w (PaP q w) := by
  have hm : n ≤ 1000000 := by omega
  have HK := Lib.hid hk
  have hk9 : uV 255 (some q) = pk q := rfl
  have j1 : ((uV 255 (some q) : Int) == 1) = true := by rw [beq_iff_eq, hk9, hk]; rfl
  clear hk hk9
  obtain ⟨w1, hw1⟩ : ∃ W, w.alloc (.cells #[.int .u8 0, .int .u32 0, .int .u8 0, .int .i64 0, .int .u32 0, .int .u8 0, .int .i64 0, .int .i32 0, .int .i64 0, .int .i64 0, .int .u32 0, .int .i32 0, .int .u8 0, .int .i64 0] 32) = W := ⟨_, rfl⟩
  obtain ⟨r, hr⟩ : ∃ r, w.heap.size = r := ⟨_, rfl⟩
  have hR1 := Blk.new w 32 #[.int .u8 0, .int .u32 0, .int .u8 0, .int .i64 0, .int .u32 0, .int .u8 0, .int .i64 0, .int .i32 0, .int .i64 0, .int .i64 0, .int .u32 0, .int .i32 0, .int .u8 0, .int .i64 0]
  have hb1 := b_alloc w (.cells #[.int .u8 0, .int .u32 0, .int .u8 0, .int .i64 0, .int .u32 0, .int .u8 0, .int .i64 0, .int .i32 0, .int .i64 0, .int .i64 0, .int .u32 0, .int .i32 0, .int .u8 0, .int .i64 0] 32)
  have hA1 := hRd.below (hb1.mono hB)
  rw [hw1] at hR1 hb1 hA1
  have hLk := Look_any A n c Bd q w1 hA1 hn hm (Nat.le_trans hB hb1.size) hA
  rw [hr] at hR1
  have HR1 := Lib.hid hR1
  have HB1 := Lib.hid hb1
  have HLk := Lib.hid hLk
  have HW1 := Lib.hid (And.intro hw1 hr)
  have HN := Lib.hid hn
  clear hw1 hr hR1 hb1 hA1 hLk hRd hA
  go_enter Tryz.func13, Tryz.ntmps13
  go_upto_region 1 with (fail)
  rw [HW1.out.1, HW1.out.2]
  go_wp2_with fail
  refine HLk.out.mono ?_
  rintro e w2 ⟨b, g, rfl, hb, hg, hgs, hln, hbl⟩
  have hR3 := (HR1.out.below hbl HR1.out.lt).alloc (.cells #[.int .u8 0, .int .u32 0, .int .u8 0, .int .i64 0, .int .u32 0, .int .u8 0, .int .i64 0, .int .i32 0, .int .i64 0, .int .i64 0, .int .u32 0, .int .i32 0, .int .u8 0, .int .i64 0] 32)
  have hb2 := HB1.out.trans (hbl.mono HB1.out.size)
  have hB3 := hb2.alloc hb2.size (.cells #[.int .u8 0, .int .u32 0, .int .u8 0, .int .i64 0, .int .u32 0, .int .u8 0, .int .i64 0, .int .i32 0, .int .i64 0, .int .i64 0, .int .u32 0, .int .i32 0, .int .u8 0, .int .i64 0] 32)
  have hblt := hln.lt
  have hL3 := hln.below (b_alloc w2 (.cells #[.int .u8 0, .int .u32 0, .int .u8 0, .int .i64 0, .int .u32 0, .int .u8 0, .int .i64 0, .int .i32 0, .int .i64 0, .int .i64 0, .int .u32 0, .int .i32 0, .int .u8 0, .int .i64 0] 32))
  have hG3 := Blk.new w2 32 #[.int .u8 0, .int .u32 0, .int .u8 0, .int .i64 0, .int .u32 0, .int .u8 0, .int .i64 0, .int .i32 0, .int .i64 0, .int .i64 0, .int .u32 0, .int .i32 0, .int .u8 0, .int .i64 0]
  have hrr : r < w1.heap.size := HR1.out.lt
  have hs1 := HB1.out.size
  have hs2 := hb2.size
  obtain ⟨w3, hw3⟩ : ∃ W, w2.alloc (.cells #[.int .u8 0, .int .u32 0, .int .u8 0, .int .i64 0, .int .u32 0, .int .u8 0, .int .i64 0, .int .i32 0, .int .i64 0, .int .i64 0, .int .u32 0, .int .i32 0, .int .u8 0, .int .i64 0] 32) = W := ⟨_, rfl⟩
  obtain ⟨G, hGG⟩ : ∃ G, w2.heap.size = G := ⟨_, rfl⟩
  rw [hw3] at hR3 hB3 hL3 hG3
  rw [hGG] at hG3 hgs hblt hs2
  have HX : Hid (w.heap.size = r ∧ r < b ∧ r < g ∧ g < G ∧ b < G ∧ w.heap.size ≤ b ∧ w.heap.size ≤ G ∧ r < G) := Lib.hid (by have := HW1.out.2; omega)
  have HR3 := Lib.hid hR3
  have HB3 := Lib.hid hB3
  have HL3 := Lib.hid hL3
  have HG3 := Lib.hid hG3
  have HW3 := Lib.hid (And.intro hw3 hGG)
  clear hw3 hGG hb hg hgs hln hbl hb2 hblt hL3 hG3 hR3 hB3 hrr hs1 hs2 HLk HR1 HB1
  obtain ⟨x0, hx0⟩ : ∃ x, uV 255 (some q) = x := ⟨_, rfl⟩
  obtain ⟨x1, hx1⟩ : ∃ x, uV 4294967295 (uS 255 (some q)) = x := ⟨_, rfl⟩
  have y0 := uV_le 255 (some q)
  have y1 := uV_le 4294967295 (uS 255 (some q))
  rw [hx0] at y0 j1
  rw [hx1] at y1
  have i0 : IntKind.u8.wrap (x0 : Int) = (x0 : Int) := by rw [IntKind.wrap_u8]; omega
  have i1 : IntKind.u32.wrap (x1 : Int) = (x1 : Int) := by rw [IntKind.wrap_u32]; omega
  have HX0 := Lib.hid hx0
  have HX1 := Lib.hid hx1
  go_upto_region 4 with (fail)
  rw [HW3.out.1, HW3.out.2]
  clear hx0 hx1 HW3 HW1
  go_wp2_with fail
  refine (LUint_any b g 255 (by decide) (some q) _ HL3.out).mono ?_
  rintro e w4 ⟨rfl, hl, hf⟩
  rw [HX0.out]
  have HG4 := Lib.hid (HG3.out.past hf (by have := HX.out; omega) (by simp))
  have HR4 := Lib.hid (HR3.out.past hf (by have := HX.out; omega) (by simp))
  have HB4 := Lib.hid (hf.to_below HB3.out (by have := HX.out; have := HB3.out.size; omega) (by have := HX.out; omega) (by simp))
  have HL4 := Lib.hid hl
  clear hl hf HL3 HG3 HR3 HB3
  have z0 := HG4.out.cell 0
  have f0 := HG4.out.frozen 0
  simp at z0
  go_wp2_with fail
  have hG5 := HG4.out.set_ 0 (.int .u8 (x0 : Int))
  simp only [List.setIfInBounds_toArray, List.set_cons_zero] at hG5
  have hS5 := far_set w4 G 0 (.int .u8 (x0 : Int))
  have hL5 := HL4.out.past hS5 (by have := HX.out; omega) (by simp) (by have := HX.out; omega) (by simp)
  have hR5 := HR4.out.past hS5 (by have := HX.out; omega) (by simp)
  have hB5 := Below.setCell HB4.out (p := ⟨G, 0, none⟩) (by have := HX.out; show w.heap.size ≤ G; omega) (.int .u8 (x0 : Int))
  obtain ⟨w5, hw5⟩ : ∃ W, w4.setCell ⟨G, 0, none⟩ (.int .u8 (x0 : Int)) = W := ⟨_, rfl⟩
  rw [hw5] at hG5 hL5 hR5 hB5
  have HG5 := Lib.hid hG5
  have HL5 := Lib.hid hL5
  have HR5 := Lib.hid hR5
  have HB5 := Lib.hid hB5
  have HW5 := Lib.hid hw5
  clear hS5 hG5 hL5 hR5 hB5 hw5 HG4 HL4 HR4 HB4
  rw [HW5.out]
  clear z0 f0 HW5
  refine (LUint_any b g 4294967295 (by decide) (uS 255 (some q)) _ HL5.out).mono ?_
  rintro e w6 ⟨rfl, hl, hf⟩
  rw [HX1.out]
  have HG6 := Lib.hid (HG5.out.past hf (by have := HX.out; omega) (by simp))
  have HR6 := Lib.hid (HR5.out.past hf (by have := HX.out; omega) (by simp))
  have HB6 := Lib.hid (hf.to_below HB5.out (by have := HX.out; have := HB5.out.size; omega) (by have := HX.out; omega) (by simp))
  have HL6 := Lib.hid hl
  clear hl hf HL5 HG5 HR5 HB5
  have z1 := HG6.out.cell 1
  have f1 := HG6.out.frozen 1
  simp at z1
  have z0 := HG6.out.cell 0
  simp at z0
  have HX0' : Hid (pk q = x0) := HX0
  have HX1' : Hid (pa q = x1) := HX1
  have hG7 := HG6.out.set_ 1 (.int .u32 (x1 : Int))
  simp only [List.setIfInBounds_toArray, List.set_cons_zero, List.set_cons_succ] at hG7
  have hS7 := far_set w6 G 1 (.int .u32 (x1 : Int))
  have hL7 := HL6.out.past hS7 (by have := HX.out; omega) (by simp) (by have := HX.out; omega) (by simp)
  have hR7 := HR6.out.past hS7 (by have := HX.out; omega) (by simp)
  have hB7 := Below.setCell HB6.out (p := ⟨G, 1, none⟩) (by have := HX.out; show w.heap.size ≤ G; omega) (.int .u32 (x1 : Int))
  obtain ⟨w7, hw7⟩ : ∃ W, w6.setCell ⟨G, 1, none⟩ (.int .u32 (x1 : Int)) = W := ⟨_, rfl⟩
  rw [hw7] at hG7 hL7 hR7 hB7
  have HG7 := Lib.hid hG7
  have HL7 := Lib.hid hL7
  have HR7 := Lib.hid hR7
  have HB7 := Lib.hid hB7
  have HW7 := Lib.hid hw7
  clear hS7 hG7 hL7 hR7 hB7 hw7 HG6 HL6 HR6 HB6
  have zz := HG7.out.cell 0
  simp at zz
  rw [← HW7.out] at zz
  go_wp2_with fail
  rw [HW7.out]
  clear z0 z1 f1 zz HW7
  obtain ⟨X, hX⟩ : ∃ x, tV n (ps2 q) = x := ⟨_, rfl⟩
  have hXl := tV_len n (ps2 q)
  rw [hX] at hXl
  have hXs : X.size ≤ n := by rw [Lib.size_eq]; exact hXl
  have HX2 := Lib.hid hX
  clear hX hXl
  refine (LText_any b g n (by omega) (ps2 q) _ HL7.out).mono ?_
  rintro e w8 ⟨rfl, hl, hf⟩
  rw [HX2.out]
  have HG8 := Lib.hid (HG7.out.past hf (by have := HX.out; omega) (by simp))
  have HR8 := Lib.hid (HR7.out.past hf (by have := HX.out; omega) (by simp))
  have HB8 := Lib.hid (hf.to_below HB7.out (by have := HX.out; have := HB7.out.size; omega) (by have := HX.out; omega) (by simp))
  have HL8 := Lib.hid hl
  clear hl hf HL7 HG7 HR7 HB7
  have hcv := Lib.run_convert_string_bytes (P := Tryz.prog) w8 9 33 5 X Tryz.underlying9 Tryz.underlying33 Tryz.underlying5
  have hbw := Lib.bytesWorld_below w8 5 X
  have hTP := fun cap => TParse_any (some ⟨w8.heap.size, 0, none⟩) X.size cap _ X.data.toList (Lib.bytesWorld w8 5 X) (bytes_rdP w8 _ X) (by rw [Lib.size_eq]) (by omega) (Nat.le_refl _) (fun h => by cases h)
  have HG9 := Lib.hid (HG8.out.below hbw HG8.out.lt)
  have HR9 := Lib.hid (HR8.out.below hbw HR8.out.lt)
  have HL9 := Lib.hid (HL8.out.below hbw)
  have HB9 := Lib.hid (HB8.out.trans (hbw.mono HB8.out.size))
  have HTP := Lib.hid hTP
  clear HG8 HR8 HL8 HB8 hbw hTP
  generalize Lib.bytesWorld w8 5 X = w9 at hcv HG9 HR9 HL9 HB9 HTP
  go_wp2_with fail
  refine (HTP.out _).mono ?_
  rintro e w10 ⟨hyes, hno, hb⟩
  have HG10 := Lib.hid (HG9.out.below hb HG9.out.lt)
  have HR10 := Lib.hid (HR9.out.below hb HR9.out.lt)
  have HL10 := Lib.hid (HL9.out.below hb)
  have HB10 := Lib.hid (HB9.out.trans (hb.mono HB9.out.size))
  clear hb HG9 HR9 HL9 HB9 HTP hcv
  by_cases hp : prTB X.data.toList
  · have he := hyes hp
    clear hyes hno
    subst he
    have HPR := Lib.hid hp
    clear hp
    obtain ⟨⟨K2, P2, R2, B2, M2, S2, F2, G2⟩, hT⟩ : ∃ t, tmR (some X.data.toList) = t := ⟨_, rfl⟩
    rw [hT]
    have HT := Lib.hid hT
    clear hT
    unfold Trm.v
    dsimp only
    go_wp2_with (with_reducible refine wpl_storeB (o := ⟨none, .store 28 _ _, _, _, _, _⟩) rfl 28 (.tmp 30) (.tmp 28) rfl G 2 rfl #[.int .u8 (K2 : Int), .int .i64 P2, .int .u32 (R2 : Int), .int .u8 (B2 : Int), .int .i64 M2, .int .i32 S2, .int .i64 F2, .int .i64 G2] rfl HG10.out ?g8 ?g9 ?g10 ?_)
    case g8 => show 2 + 8 ≤ 14; decide
    case g9 => exact rowTm
    case g10 => simp [Value.oneCell']
    intro w11 ho9 hG9
    have HL11 := Lib.hid (HL10.out.past ho9.far (by have := HX.out; omega) (by simp) (by have := HX.out; omega) (by simp))
    have HR11 := Lib.hid (ho9.blk HR10.out (by have := HX.out; omega))
    have HB11 := Lib.hid (HB10.out.trans (below_only ho9 (show w.heap.size ≤ G by have := HX.out; omega)))
    replace hG9 : Blk w11 G 32 #[.int .u8 (x0 : Int), .int .u32 (x1 : Int), .int .u8 (K2 : Int), .int .i64 P2, .int .u32 (R2 : Int), .int .u8 (B2 : Int), .int .i64 M2, .int .i32 S2, .int .i64 F2, .int .i64 G2, .int .u32 0, .int .i32 0, .int .u8 0, .int .i64 0] := by
      simp [putL] at hG9
      exact hG9
    have HG11 := Lib.hid hG9
    clear hG9 ho9 HL10 HR10 HB10 HG10
    go_wp2_with fail
    have HE9 := Lib.hid (LEnd_any b g (tS n (ps2 q)) _ HL11.out)
    by_cases hst : tS n (ps2 q) = some []
    · rw [if_pos hst] at HE9
      obtain ⟨z0, z1, z2, z3, z4, z5, z6, z7, z8, z9, z10, z11, z12, z13⟩ := blk14 HG11.out
      have HST := Lib.hid hst
      clear hst
      go_wp2_with fail
      refine HE9.out.mono ?_
      rintro e w70 ⟨rfl, rfl⟩
      by_cases hrt : Ord.Right ⟨x0, x1, ⟨K2, P2, R2, B2, M2, S2, F2, G2⟩, Evt.zero⟩
      · have cR := fun W => ORight_true hrt W
        change ∀ W, Calls Tryz.prog _ #[.agg #[.int .u8 (x0 : Int), .int .u32 (x1 : Int), .int .u8 (K2 : Int), .int .i64 P2, .int .u32 (R2 : Int), .int .u8 (B2 : Int), .int .i64 M2, .int .i32 S2, .int .i64 F2, .int .i64 G2, .int .u32 0, .int .i32 0, .int .u8 0, .int .i64 0]] W _ at cR
        have HRT := Lib.hid hrt
        clear hrt HE9
        go_wp2_with fail
        refine (cR _).mono ?_
        rintro e w71 ⟨rfl, hb⟩
        have HR71 := Lib.hid (HR11.out.below hb HR11.out.lt)
        have HG71 := Lib.hid (HG11.out.below hb HG11.out.lt)
        have HB71 := Lib.hid (HB11.out.trans (hb.mono HB11.out.size))
        clear hb cR z0 z1 z2 z3 z4 z5 z6 z7 z8 z9 z10 z11 z12 z13 HR11 HG11 HB11
        have hso : layO (⟨x0, x1, ⟨K2, P2, R2, B2, M2, S2, F2, G2⟩, Evt.zero⟩ : Ord) = q ∧ Ord.In ⟨x0, x1, ⟨K2, P2, R2, B2, M2, S2, F2, G2⟩, Evt.zero⟩ := by rw [← HX0'.out, ← HX1'.out, ← HT.out, ← HX2.out, HK.out]; exact so_1 HK.out HST.out (by rw [HX2.out]; exact HPR.out)
        have HSO := Lib.hid hso
        clear hso
        go_wp2_with (first | (with_reducible refine wpl_loadB (o := ⟨some 57, _, _, _, _, _⟩) rfl 32 (.tmp 5) rfl G 0 rfl HG71.out #[.int .u8 (x0 : Int), .int .u32 (x1 : Int), .int .u8 (K2 : Int), .int .i64 P2, .int .u32 (R2 : Int), .int .u8 (B2 : Int), .int .i64 M2, .int .i32 S2, .int .i64 F2, .int .i64 G2, .int .u32 0, .int .i32 0, .int .u8 0, .int .i64 0] ?g1 ?g2 ?_) | (with_reducible refine wpl_storeA (o := ⟨none, _, _, _, _, _⟩) rfl 32 (.tmp 2) (.tmp 57) rfl r rfl #[.int .u8 (x0 : Int), .int .u32 (x1 : Int), .int .u8 (K2 : Int), .int .i64 P2, .int .u32 (R2 : Int), .int .u8 (B2 : Int), .int .i64 M2, .int .i32 S2, .int .i64 F2, .int .i64 G2, .int .u32 0, .int .i32 0, .int .u8 0, .int .i64 0] rfl HR71.out ?g5 ?g6 ?g7 ?_))
        case g1 => exact part_of (by rfl)
        case g2 => exact rowOr
        case g5 => rfl
        case g6 => exact rowOr
        case g7 => simp [Value.oneCell']
        intro w90 ho hY
        have hB90 := HB71.out.trans (below_only ho (show w.heap.size ≤ r by have := HX.out; omega))
        go_wp2_with fail
        obtain ⟨r0, r1, r2, r3, r4, r5, r6, r7, r8, r9, r10, r11, r12, r13⟩ := blk14 hY
        refine bodyPost_ret (v := .tuple #[.agg #[.int .u8 (x0 : Int), .int .u32 (x1 : Int), .int .u8 (K2 : Int), .int .i64 P2, .int .u32 (R2 : Int), .int .u8 (B2 : Int), .int .i64 M2, .int .i32 S2, .int .i64 F2, .int .i64 G2, .int .u32 0, .int .i32 0, .int .u8 0, .int .i64 0], .nilIface]) ?_ rfl ⟨.inl ⟨_, HSO.out.2, HRT.out, HSO.out.1, rfl⟩, hB90⟩
        simp [results, Tryz.results13, go_sem, Result.andThen, r0, r1, r2, r3, r4, r5, r6, r7, r8, r9, r10, r11, r12, r13]
      · have cR := fun W => ORight_false hrt W
        change ∀ W, Calls Tryz.prog _ #[.agg #[.int .u8 (x0 : Int), .int .u32 (x1 : Int), .int .u8 (K2 : Int), .int .i64 P2, .int .u32 (R2 : Int), .int .u8 (B2 : Int), .int .i64 M2, .int .i32 S2, .int .i64 F2, .int .i64 G2, .int .u32 0, .int .i32 0, .int .u8 0, .int .i64 0]] W _ at cR
        have HRT := Lib.hid hrt
        clear hrt HE9
        go_wp2_with fail
        refine (cR _).mono ?_
        rintro e w71 ⟨rfl, hb⟩
        have HR71 := Lib.hid (HR11.out.below hb HR11.out.lt)
        have HB71 := Lib.hid (HB11.out.trans (hb.mono HB11.out.size))
        clear hb cR z0 z1 z2 z3 z4 z5 z6 z7 z8 z9 z10 z11 z12 z13 HR11 HG11 HB11
        go_wp2_with (with_reducible refine wpl_storeA (o := ⟨none, _, _, _, _, _⟩) rfl 32 (.tmp 2) (.tmp 55) rfl r rfl #[.int .u8 0, .int .u32 0, .int .u8 0, .int .i64 0, .int .u32 0, .int .u8 0, .int .i64 0, .int .i32 0, .int .i64 0, .int .i64 0, .int .u32 0, .int .i32 0, .int .u8 0, .int .i64 0] rfl HR71.out ?g5 ?g6 ?g7 ?_)
        case g5 => rfl
        case g6 => exact rowOr
        case g7 => simp [Value.oneCell']
        intro w90 ho hY
        have hB90 := HB71.out.trans (below_only ho (show w.heap.size ≤ r by have := HX.out; omega))
        go_wp2_with fail
        obtain ⟨r0, r1, r2, r3, r4, r5, r6, r7, r8, r9, r10, r11, r12, r13⟩ := blk14 hY
        refine bodyPost_ret (v := .tuple #[.agg #[.int .u8 0, .int .u32 0, .int .u8 0, .int .i64 0, .int .u32 0, .int .u8 0, .int .i64 0, .int .i32 0, .int .i64 0, .int .i64 0, .int .u32 0, .int .i32 0, .int .u8 0, .int .i64 0], .iface 54 (.int .i64 2)]) ?_ rfl ⟨.inr ⟨fun h => HRT.out (by rw [← HX0'.out, ← HX1'.out, ← HT.out, ← HX2.out, HK.out]; exact (co_1 (n := n) (by omega) (by omega) HK.out h).2.2), rfl⟩, hB90⟩
        simp [results, Tryz.results13, go_sem, Result.andThen, r0, r1, r2, r3, r4, r5, r6, r7, r8, r9, r10, r11, r12, r13]
    · rw [nil_ne hst] at HE9
      have HST := Lib.hid hst
      clear hst
      go_wp2_with fail
      refine HE9.out.mono ?_
      rintro e w70 ⟨rfl, rfl⟩
      clear HE9
      go_wp2_with (with_reducible refine wpl_storeA (o := ⟨none, _, _, _, _, _⟩) rfl 32 (.tmp 2) (.tmp 55) rfl r rfl #[.int .u8 0, .int .u32 0, .int .u8 0, .int .i64 0, .int .u32 0, .int .u8 0, .int .i64 0, .int .i32 0, .int .i64 0, .int .i64 0, .int .u32 0, .int .i32 0, .int .u8 0, .int .i64 0] rfl HR11.out ?g5 ?g6 ?g7 ?_)
      case g5 => rfl
      case g6 => exact rowOr
      case g7 => simp [Value.oneCell']
      intro w90 ho hY
      have hB90 := HB11.out.trans (below_only ho (show w.heap.size ≤ r by have := HX.out; omega))
      go_wp2_with fail
      obtain ⟨r0, r1, r2, r3, r4, r5, r6, r7, r8, r9, r10, r11, r12, r13⟩ := blk14 hY
      refine bodyPost_ret (v := .tuple #[.agg #[.int .u8 0, .int .u32 0, .int .u8 0, .int .i64 0, .int .u32 0, .int .u8 0, .int .i64 0, .int .i32 0, .int .i64 0, .int .i64 0, .int .u32 0, .int .i32 0, .int .u8 0, .int .i64 0], .iface 54 (.int .i64 2)]) ?_ rfl ⟨.inr ⟨fun h => HST.out ((co_1 (n := n) (by omega) (by omega) HK.out h).1), rfl⟩, hB90⟩
      simp [results, Tryz.results13, go_sem, Result.andThen, r0, r1, r2, r3, r4, r5, r6, r7, r8, r9, r10, r11, r12, r13]
  · have he := hno hp
    clear hyes hno
    subst he
    have HPR := Lib.hid hp
    clear hp
    unfold zeroT8
    go_wp2_with (with_reducible refine wpl_storeB (o := ⟨none, .store 28 _ _, _, _, _, _⟩) rfl 28 (.tmp 30) (.tmp 28) rfl G 2 rfl #[.int .u8 0, .int .i64 0, .int .u32 0, .int .u8 0, .int .i64 0, .int .i32 0, .int .i64 0, .int .i64 0] rfl HG10.out ?g8 ?g9 ?g10 ?_)
    case g8 => show 2 + 8 ≤ 14; decide
    case g9 => exact rowTm
    case g10 => simp [Value.oneCell']
    intro w11 ho9 hG9
    have HR11 := Lib.hid (ho9.blk HR10.out (by have := HX.out; omega))
    have HB11 := Lib.hid (HB10.out.trans (below_only ho9 (show w.heap.size ≤ G by have := HX.out; omega)))
    clear hG9 ho9 HL10 HR10 HB10 HG10
    go_wp2_with (with_reducible refine wpl_storeA (o := ⟨none, _, _, _, _, _⟩) rfl 32 (.tmp 2) (.tmp 55) rfl r rfl #[.int .u8 0, .int .u32 0, .int .u8 0, .int .i64 0, .int .u32 0, .int .u8 0, .int .i64 0, .int .i32 0, .int .i64 0, .int .i64 0, .int .u32 0, .int .i32 0, .int .u8 0, .int .i64 0] rfl HR11.out ?g5 ?g6 ?g7 ?_)
    case g5 => rfl
    case g6 => exact rowOr
    case g7 => simp [Value.oneCell']
    intro w90 ho hY
    have hB90 := HB11.out.trans (below_only ho (show w.heap.size ≤ r by have := HX.out; omega))
    go_wp2_with fail
    obtain ⟨r0, r1, r2, r3, r4, r5, r6, r7, r8, r9, r10, r11, r12, r13⟩ := blk14 hY
    refine bodyPost_ret (v := .tuple #[.agg #[.int .u8 0, .int .u32 0, .int .u8 0, .int .i64 0, .int .u32 0, .int .u8 0, .int .i64 0, .int .i32 0, .int .i64 0, .int .i64 0, .int .u32 0, .int .i32 0, .int .u8 0, .int .i64 0], .iface 54 (.int .i64 2)]) ?_ rfl ⟨.inr ⟨fun h => HPR.out (by rw [← HX2.out]; exact (co_1 (n := n) (by omega) (by omega) HK.out h).2.1), rfl⟩, hB90⟩
    simp [results, Tryz.results13, go_sem, Result.andThen, r0, r1, r2, r3, r4, r5, r6, r7, r8, r9, r10, r11, r12, r13]
set_option maxRecDepth 100000 in
set_option maxHeartbeats 4000000 in
theorem Parse_2 (A : Option Addr) (n c Bd : Nat) (q : List UInt8) (w : World) (hRd : Rd w Bd A q) (hn : q.length = n) (hm0 : n ≤ 900000) (hB : Bd ≤ w.heap.size) (hA : A = none → n = 0 ∧ c = 0) (hk : pk q = 2) : Calls Tryz.prog 13 #[.slice A n c] w (PaP q w) := by
  have hm : n ≤ 1000000 := by omega
  have HK := Lib.hid hk
  have hk9 : uV 255 (some q) = pk q := rfl
  have j1 : ((uV 255 (some q) : Int) == 1) = false := by rw [beq_eq_false_iff_ne, hk9]; omega
  have j2 : ((uV 255 (some q) : Int) == 2) = true := by rw [beq_iff_eq, hk9, hk]; rfl
  clear hk hk9
  obtain ⟨w1, hw1⟩ : ∃ W, w.alloc (.cells #[.int .u8 0, .int .u32 0, .int .u8 0, .int .i64 0, .int .u32 0, .int .u8 0, .int .i64 0, .int .i32 0, .int .i64 0, .int .i64 0, .int .u32 0, .int .i32 0, .int .u8 0, .int .i64 0] 32) = W := ⟨_, rfl⟩
  obtain ⟨r, hr⟩ : ∃ r, w.heap.size = r := ⟨_, rfl⟩
  have hR1 := Blk.new w 32 #[.int .u8 0, .int .u32 0, .int .u8 0, .int .i64 0, .int .u32 0, .int .u8 0, .int .i64 0, .int .i32 0, .int .i64 0, .int .i64 0, .int .u32 0, .int .i32 0, .int .u8 0, .int .i64 0]
  have hb1 := b_alloc w (.cells #[.int .u8 0, .int .u32 0, .int .u8 0, .int .i64 0, .int .u32 0, .int .u8 0, .int .i64 0, .int .i32 0, .int .i64 0, .int .i64 0, .int .u32 0, .int .i32 0, .int .u8 0, .int .i64 0] 32)
  have hA1 := hRd.below (hb1.mono hB)
  rw [hw1] at hR1 hb1 hA1
  have hLk := Look_any A n c Bd q w1 hA1 hn hm (Nat.le_trans hB hb1.size) hA
  rw [hr] at hR1
  have HR1 := Lib.hid hR1
  have HB1 := Lib.hid hb1
  have HLk := Lib.hid hLk
  have HW1 := Lib.hid (And.intro hw1 hr)
  have HN := Lib.hid hn
  clear hw1 hr hR1 hb1 hA1 hLk hRd hA
  go_enter Tryz.func13, Tryz.ntmps13
  go_upto_region 1 with (fail)
  rw [HW1.out.1, HW1.out.2]
  go_wp2_with fail
  refine HLk.out.mono ?_
  rintro e w2 ⟨b, g, rfl, hb, hg, hgs, hln, hbl⟩
  have hR3 := (HR1.out.below hbl HR1.out.lt).alloc (.cells #[.int .u8 0, .int .u32 0, .int .u8 0, .int .i64 0, .int .u32 0, .int .u8 0, .int .i64 0, .int .i32 0, .int .i64 0, .int .i64 0, .int .u32 0, .int .i32 0, .int .u8 0, .int .i64 0] 32)
  have hb2 := HB1.out.trans (hbl.mono HB1.out.size)
  have hB3 := hb2.alloc hb2.size (.cells #[.int .u8 0, .int .u32 0, .int .u8 0, .int .i64 0, .int .u32 0, .int .u8 0, .int .i64 0, .int .i32 0, .int .i64 0, .int .i64 0, .int .u32 0, .int .i32 0, .int .u8 0, .int .i64 0] 32)
  have hblt := hln.lt
  have hL3 := hln.below (b_alloc w2 (.cells #[.int .u8 0, .int .u32 0, .int .u8 0, .int .i64 0, .int .u32 0, .int .u8 0, .int .i64 0, .int .i32 0, .int .i64 0, .int .i64 0, .int .u32 0, .int .i32 0, .int .u8 0, .int .i64 0] 32))
  have hG3 := Blk.new w2 32 #[.int .u8 0, .int .u32 0, .int .u8 0, .int .i64 0, .int .u32 0, .int .u8 0, .int .i64 0, .int .i32 0, .int .i64 0, .int .i64 0, .int .u32 0, .int .i32 0, .int .u8 0, .int .i64 0]
  have hrr : r < w1.heap.size := HR1.out.lt
  have hs1 := HB1.out.size
  have hs2 := hb2.size
  obtain ⟨w3, hw3⟩ : ∃ W, w2.alloc (.cells #[.int .u8 0, .int .u32 0, .int .u8 0, .int .i64 0, .int .u32 0, .int .u8 0, .int .i64 0, .int .i32 0, .int .i64 0, .int .i64 0, .int .u32 0, .int .i32 0, .int .u8 0, .int .i64 0] 32) = W := ⟨_, rfl⟩
  obtain ⟨G, hGG⟩ : ∃ G, w2.heap.size = G := ⟨_, rfl⟩
  rw [hw3] at hR3 hB3 hL3 hG3
  rw [hGG] at hG3 hgs hblt hs2
  have HX : Hid (w.heap.size = r ∧ r < b ∧ r < g ∧ g < G ∧ b < G ∧ w.heap.size ≤ b ∧ w.heap.size ≤ G ∧ r < G) := Lib.hid (by have := HW1.out.2; omega)
  have HR3 := Lib.hid hR3
  have HB3 := Lib.hid hB3
  have HL3 := Lib.hid hL3
  have HG3 := Lib.hid hG3
  have HW3 := Lib.hid (And.intro hw3 hGG)
  clear hw3 hGG hb hg hgs hln hbl hb2 hblt hL3 hG3 hR3 hB3 hrr hs1 hs2 HLk HR1 HB1
  obtain ⟨x0, hx0⟩ : ∃ x, uV 255 (some q) = x := ⟨_, rfl⟩
  obtain ⟨x1, hx1⟩ : ∃ x, uV 4294967295 (uS 255 (some q)) = x := ⟨_, rfl⟩
  have y0 := uV_le 255 (some q)
  have y1 := uV_le 4294967295 (uS 255 (some q))
  rw [hx0] at y0 j1 j2
  rw [hx1] at y1
  have i0 : IntKind.u8.wrap (x0 : Int) = (x0 : Int) := by rw [IntKind.wrap_u8]; omega
  have i1 : IntKind.u32.wrap (x1 : Int) = (x1 : Int) := by rw [IntKind.wrap_u32]; omega
  have HX0 := Lib.hid hx0
  have HX1 := Lib.hid hx1
  go_upto_region 4 with (fail)
  rw [HW3.out.1, HW3.out.2]
  clear hx0 hx1 HW3 HW1
  go_wp2_with fail
  refine (LUint_any b g 255 (by decide) (some q) _ HL3.out).mono ?_
  rintro e w4 ⟨rfl, hl, hf⟩
  rw [HX0.out]
  have HG4 := Lib.hid (HG3.out.past hf (by have := HX.out; omega) (by simp))
  have HR4 := Lib.hid (HR3.out.past hf (by have := HX.out; omega) (by simp))
  have HB4 := Lib.hid (hf.to_below HB3.out (by have := HX.out; have := HB3.out.size; omega) (by have := HX.out; omega) (by simp))
  have HL4 := Lib.hid hl
  clear hl hf HL3 HG3 HR3 HB3
  have z0 := HG4.out.cell 0
  have f0 := HG4.out.frozen 0
  simp at z0
  go_wp2_with fail
  have hG5 := HG4.out.set_ 0 (.int .u8 (x0 : Int))
  simp only [List.setIfInBounds_toArray, List.set_cons_zero] at hG5
  have hS5 := far_set w4 G 0 (.int .u8 (x0 : Int))
  have hL5 := HL4.out.past hS5 (by have := HX.out; omega) (by simp) (by have := HX.out; omega) (by simp)
  have hR5 := HR4.out.past hS5 (by have := HX.out; omega) (by simp)
  have hB5 := Below.setCell HB4.out (p := ⟨G, 0, none⟩) (by have := HX.out; show w.heap.size ≤ G; omega) (.int .u8 (x0 : Int))
  obtain ⟨w5, hw5⟩ : ∃ W, w4.setCell ⟨G, 0, none⟩ (.int .u8 (x0 : Int)) = W := ⟨_, rfl⟩
  rw [hw5] at hG5 hL5 hR5 hB5
  have HG5 := Lib.hid hG5
  have HL5 := Lib.hid hL5
  have HR5 := Lib.hid hR5
  have HB5 := Lib.hid hB5
  have HW5 := Lib.hid hw5
  clear hS5 hG5 hL5 hR5 hB5 hw5 HG4 HL4 HR4 HB4
  rw [HW5.out]
  clear z0 f0 HW5
  refine (LUint_any b g 4294967295 (by decide) (uS 255 (some q)) _ HL5.out).mono ?_
  rintro e w6 ⟨rfl, hl, hf⟩
  rw [HX1.out]
  have HG6 := Lib.hid (HG5.out.past hf (by have := HX.out; omega) (by simp))
  have HR6 := Lib.hid (HR5.out.past hf (by have := HX.out; omega) (by simp))
  have HB6 := Lib.hid (hf.to_below HB5.out (by have := HX.out; have := HB5.out.size; omega) (by have := HX.out; omega) (by simp))
  have HL6 := Lib.hid hl
  clear hl hf HL5 HG5 HR5 HB5
  have z1 := HG6.out.cell 1
  have f1 := HG6.out.frozen 1
  simp at z1
  have z0 := HG6.out.cell 0
  simp at z0
  have HX0' : Hid (pk q = x0) := HX0
  have HX1' : Hid (pa q = x1) := HX1
  have hG7 := HG6.out.set_ 1 (.int .u32 (x1 : Int))
  simp only [List.setIfInBounds_toArray, List.set_cons_zero, List.set_cons_succ] at hG7
  have hS7 := far_set w6 G 1 (.int .u32 (x1 : Int))
  have hL7 := HL6.out.past hS7 (by have := HX.out; omega) (by simp) (by have := HX.out; omega) (by simp)
  have hR7 := HR6.out.past hS7 (by have := HX.out; omega) (by simp)
  have hB7 := Below.setCell HB6.out (p := ⟨G, 1, none⟩) (by have := HX.out; show w.heap.size ≤ G; omega) (.int .u32 (x1 : Int))
  obtain ⟨w7, hw7⟩ : ∃ W, w6.setCell ⟨G, 1, none⟩ (.int .u32 (x1 : Int)) = W := ⟨_, rfl⟩
  rw [hw7] at hG7 hL7 hR7 hB7
  have HG7 := Lib.hid hG7
  have HL7 := Lib.hid hL7
  have HR7 := Lib.hid hR7
  have HB7 := Lib.hid hB7
  have HW7 := Lib.hid hw7
  clear hS7 hG7 hL7 hR7 hB7 hw7 HG6 HL6 HR6 HB6
  have zz := HG7.out.cell 0
  simp at zz
  rw [← HW7.out] at zz
  go_wp2_with fail
  rw [HW7.out]
  clear z0 z1 f1 zz HW7
  obtain ⟨⟨s2, d2, k2, m2⟩, hx2⟩ : ∃ x, evV (ps2 q) = x := ⟨_, rfl⟩
  have HX2 := Lib.hid hx2
  clear hx2
  refine (parseEvent_any b g (ps2 q) _ HL7.out (by have := HX.out; have := HG7.out.lt; omega)).mono ?_
  rintro e w8 ⟨rfl, hl, hf⟩
  rw [HX2.out]
  have HG8 := Lib.hid (HG7.out.past hf (by have := HX.out; omega) (by simp))
  have HR8 := Lib.hid (HR7.out.past hf (by have := HX.out; omega) (by simp))
  have HB8 := Lib.hid (hf.to_below HB7.out (by have := HX.out; have := HB7.out.size; omega) (by have := HX.out; omega) (by simp))
  have HL8 := Lib.hid hl
  clear hl hf HL7 HG7 HR7 HB7
  unfold Evt.v
  dsimp only
  go_wp2_with (with_reducible refine wpl_storeB (o := ⟨none, .store 30 _ _, _, _, _, _⟩) rfl 30 (.tmp 35) (.tmp 34) rfl G 10 rfl #[.int .u32 (s2 : Int), .int .i32 d2, .int .u8 (k2 : Int), .int .i64 m2] rfl HG8.out ?g8 ?g9 ?g10 ?_)
  case g8 => show 10 + 4 ≤ 14; decide
  case g9 => exact rowEv
  case g10 => simp [Value.oneCell']
  intro w9 ho9 hG9
  have HL9 := Lib.hid (HL8.out.past ho9.far (by have := HX.out; omega) (by simp) (by have := HX.out; omega) (by simp))
  have HR9 := Lib.hid (ho9.blk HR8.out (by have := HX.out; omega))
  have HB9 := Lib.hid (HB8.out.trans (below_only ho9 (show w.heap.size ≤ G by have := HX.out; omega)))
  replace hG9 : Blk w9 G 32 #[.int .u8 (x0 : Int), .int .u32 (x1 : Int), .int .u8 0, .int .i64 0, .int .u32 0, .int .u8 0, .int .i64 0, .int .i32 0, .int .i64 0, .int .i64 0, .int .u32 (s2 : Int), .int .i32 d2, .int .u8 (k2 : Int), .int .i64 m2] := by
    simp [putL] at hG9
    exact hG9
  have HG9 := Lib.hid hG9
  clear hG9 ho9 HL8 HR8 HB8 HG8
  go_wp2_with fail
  have HE9 := Lib.hid (LEnd_any b g (evS (ps2 q)) _ HL9.out)
  by_cases hst : evS (ps2 q) = some []
  · rw [if_pos hst] at HE9
    obtain ⟨z0, z1, z2, z3, z4, z5, z6, z7, z8, z9, z10, z11, z12, z13⟩ := blk14 HG9.out
    have HST := Lib.hid hst
    clear hst
    go_wp2_with fail
    refine HE9.out.mono ?_
    rintro e w70 ⟨rfl, rfl⟩
    by_cases hrt : Ord.Right ⟨x0, x1, Trm.zero, ⟨s2, d2, k2, m2⟩⟩
    · have cR := fun W => ORight_true hrt W
      change ∀ W, Calls Tryz.prog _ #[.agg #[.int .u8 (x0 : Int), .int .u32 (x1 : Int), .int .u8 0, .int .i64 0, .int .u32 0, .int .u8 0, .int .i64 0, .int .i32 0, .int .i64 0, .int .i64 0, .int .u32 (s2 : Int), .int .i32 d2, .int .u8 (k2 : Int), .int .i64 m2]] W _ at cR
      have HRT := Lib.hid hrt
      clear hrt HE9
      go_wp2_with fail
      refine (cR _).mono ?_
      rintro e w71 ⟨rfl, hb⟩
      have HR71 := Lib.hid (HR9.out.below hb HR9.out.lt)
      have HG71 := Lib.hid (HG9.out.below hb HG9.out.lt)
      have HB71 := Lib.hid (HB9.out.trans (hb.mono HB9.out.size))
      clear hb cR z0 z1 z2 z3 z4 z5 z6 z7 z8 z9 z10 z11 z12 z13 HR9 HG9 HB9
      have hso : layO (⟨x0, x1, Trm.zero, ⟨s2, d2, k2, m2⟩⟩ : Ord) = q ∧ Ord.In ⟨x0, x1, Trm.zero, ⟨s2, d2, k2, m2⟩⟩ := by rw [← HX0'.out, ← HX1'.out, ← HX2.out, HK.out]; exact so_2 HK.out HST.out
      have HSO := Lib.hid hso
      clear hso
      go_wp2_with (first | (with_reducible refine wpl_loadB (o := ⟨some 57, _, _, _, _, _⟩) rfl 32 (.tmp 5) rfl G 0 rfl HG71.out #[.int .u8 (x0 : Int), .int .u32 (x1 : Int), .int .u8 0, .int .i64 0, .int .u32 0, .int .u8 0, .int .i64 0, .int .i32 0, .int .i64 0, .int .i64 0, .int .u32 (s2 : Int), .int .i32 d2, .int .u8 (k2 : Int), .int .i64 m2] ?g1 ?g2 ?_) | (with_reducible refine wpl_storeA (o := ⟨none, _, _, _, _, _⟩) rfl 32 (.tmp 2) (.tmp 57) rfl r rfl #[.int .u8 (x0 : Int), .int .u32 (x1 : Int), .int .u8 0, .int .i64 0, .int .u32 0, .int .u8 0, .int .i64 0, .int .i32 0, .int .i64 0, .int .i64 0, .int .u32 (s2 : Int), .int .i32 d2, .int .u8 (k2 : Int), .int .i64 m2] rfl HR71.out ?g5 ?g6 ?g7 ?_))
      case g1 => exact part_of (by rfl)
      case g2 => exact rowOr
      case g5 => rfl
      case g6 => exact rowOr
      case g7 => simp [Value.oneCell']
      intro w90 ho hY
      have hB90 := HB71.out.trans (below_only ho (show w.heap.size ≤ r by have := HX.out; omega))
      go_wp2_with fail
      obtain ⟨r0, r1, r2, r3, r4, r5, r6, r7, r8, r9, r10, r11, r12, r13⟩ := blk14 hY
      refine bodyPost_ret (v := .tuple #[.agg #[.int .u8 (x0 : Int), .int .u32 (x1 : Int), .int .u8 0, .int .i64 0, .int .u32 0, .int .u8 0, .int .i64 0, .int .i32 0, .int .i64 0, .int .i64 0, .int .u32 (s2 : Int), .int .i32 d2, .int .u8 (k2 : Int), .int .i64 m2], .nilIface]) ?_ rfl ⟨.inl ⟨_, HSO.out.2, HRT.out, HSO.out.1, rfl⟩, hB90⟩
      simp [results, Tryz.results13, go_sem, Result.andThen, r0, r1, r2, r3, r4, r5, r6, r7, r8, r9, r10, r11, r12, r13]
    · have cR := fun W => ORight_false hrt W
      change ∀ W, Calls Tryz.prog _ #[.agg #[.int .u8 (x0 : Int), .int .u32 (x1 : Int), .int .u8 0, .int .i64 0, .int .u32 0, .int .u8 0, .int .i64 0, .int .i32 0, .int .i64 0, .int .i64 0, .int .u32 (s2 : Int), .int .i32 d2, .int .u8 (k2 : Int), .int .i64 m2]] W _ at cR
      have HRT := Lib.hid hrt
      clear hrt HE9
      go_wp2_with fail
      refine (cR _).mono ?_
      rintro e w71 ⟨rfl, hb⟩
      have HR71 := Lib.hid (HR9.out.below hb HR9.out.lt)
      have HB71 := Lib.hid (HB9.out.trans (hb.mono HB9.out.size))
      clear hb cR z0 z1 z2 z3 z4 z5 z6 z7 z8 z9 z10 z11 z12 z13 HR9 HG9 HB9
      go_wp2_with (with_reducible refine wpl_storeA (o := ⟨none, _, _, _, _, _⟩) rfl 32 (.tmp 2) (.tmp 55) rfl r rfl #[.int .u8 0, .int .u32 0, .int .u8 0, .int .i64 0, .int .u32 0, .int .u8 0, .int .i64 0, .int .i32 0, .int .i64 0, .int .i64 0, .int .u32 0, .int .i32 0, .int .u8 0, .int .i64 0] rfl HR71.out ?g5 ?g6 ?g7 ?_)
      case g5 => rfl
      case g6 => exact rowOr
      case g7 => simp [Value.oneCell']
      intro w90 ho hY
      have hB90 := HB71.out.trans (below_only ho (show w.heap.size ≤ r by have := HX.out; omega))
      go_wp2_with fail
      obtain ⟨r0, r1, r2, r3, r4, r5, r6, r7, r8, r9, r10, r11, r12, r13⟩ := blk14 hY
      refine bodyPost_ret (v := .tuple #[.agg #[.int .u8 0, .int .u32 0, .int .u8 0, .int .i64 0, .int .u32 0, .int .u8 0, .int .i64 0, .int .i32 0, .int .i64 0, .int .i64 0, .int .u32 0, .int .i32 0, .int .u8 0, .int .i64 0], .iface 54 (.int .i64 2)]) ?_ rfl ⟨.inr ⟨fun h => HRT.out (by rw [← HX0'.out, ← HX1'.out, ← HX2.out, HK.out]; exact (co_2 HK.out h).2), rfl⟩, hB90⟩
      simp [results, Tryz.results13, go_sem, Result.andThen, r0, r1, r2, r3, r4, r5, r6, r7, r8, r9, r10, r11, r12, r13]
  · rw [nil_ne hst] at HE9
    have HST := Lib.hid hst
    clear hst
    go_wp2_with fail
    refine HE9.out.mono ?_
    rintro e w70 ⟨rfl, rfl⟩
    clear HE9
    go_wp2_with (with_reducible refine wpl_storeA (o := ⟨none, _, _, _, _, _⟩) rfl 32 (.tmp 2) (.tmp 55) rfl r rfl #[.int .u8 0, .int .u32 0, .int .u8 0, .int .i64 0, .int .u32 0, .int .u8 0, .int .i64 0, .int .i32 0, .int .i64 0, .int .i64 0, .int .u32 0, .int .i32 0, .int .u8 0, .int .i64 0] rfl HR9.out ?g5 ?g6 ?g7 ?_)
    case g5 => rfl
    case g6 => exact rowOr
    case g7 => simp [Value.oneCell']
    intro w90 ho hY
    have hB90 := HB9.out.trans (below_only ho (show w.heap.size ≤ r by have := HX.out; omega))
    go_wp2_with fail
    obtain ⟨r0, r1, r2, r3, r4, r5, r6, r7, r8, r9, r10, r11, r12, r13⟩ := blk14 hY
    refine bodyPost_ret (v := .tuple #[.agg #[.int .u8 0, .int .u32 0, .int .u8 0, .int .i64 0, .int .u32 0, .int .u8 0, .int .i64 0, .int .i32 0, .int .i64 0, .int .i64 0, .int .u32 0, .int .i32 0, .int .u8 0, .int .i64 0], .iface 54 (.int .i64 2)]) ?_ rfl ⟨.inr ⟨fun h => HST.out ((co_2 HK.out h).1), rfl⟩, hB90⟩
    simp [results, Tryz.results13, go_sem, Result.andThen, r0, r1, r2, r3, r4, r5, r6, r7, r8, r9, r10, r11, r12, r13]
set_option maxRecDepth 100000 in
set_option maxHeartbeats 4000000 in
theorem Parse_3 (A : Option Addr) (n c Bd : Nat) (q : List UInt8) (w : World) (hRd : Rd w Bd A q) (hn : q.length = n) (hm0 : n ≤ 900000) (hB : Bd ≤ w.heap.size) (hA : A = none → n = 0 ∧ c = 0) (hk : pk q = 3) : Calls Tryz.prog 13 #[.slice A n c] w (PaP q w) := by
  have hm : n ≤ 1000000 := by omega
  have HK := Lib.hid hk
  have hk9 : uV 255 (some q) = pk q := rfl
  have j1 : ((uV 255 (some q) : Int) == 1) = false := by rw [beq_eq_false_iff_ne, hk9]; omega
  have j2 : ((uV 255 (some q) : Int) == 2) = false := by rw [beq_eq_false_iff_ne, hk9]; omega
  have j3 : ((uV 255 (some q) : Int) == 3) = true := by rw [beq_iff_eq, hk9, hk]; rfl
  clear hk hk9
  obtain ⟨w1, hw1⟩ : ∃ W, w.alloc (.cells #[.int .u8 0, .int .u32 0, .int .u8 0, .int .i64 0, .int .u32 0, .int .u8 0, .int .i64 0, .int .i32 0, .int .i64 0, .int .i64 0, .int .u32 0, .int .i32 0, .int .u8 0, .int .i64 0] 32) = W := ⟨_, rfl⟩
  obtain ⟨r, hr⟩ : ∃ r, w.heap.size = r := ⟨_, rfl⟩
  have hR1 := Blk.new w 32 #[.int .u8 0, .int .u32 0, .int .u8 0, .int .i64 0, .int .u32 0, .int .u8 0, .int .i64 0, .int .i32 0, .int .i64 0, .int .i64 0, .int .u32 0, .int .i32 0, .int .u8 0, .int .i64 0]
  have hb1 := b_alloc w (.cells #[.int .u8 0, .int .u32 0, .int .u8 0, .int .i64 0, .int .u32 0, .int .u8 0, .int .i64 0, .int .i32 0, .int .i64 0, .int .i64 0, .int .u32 0, .int .i32 0, .int .u8 0, .int .i64 0] 32)
  have hA1 := hRd.below (hb1.mono hB)
  rw [hw1] at hR1 hb1 hA1
  have hLk := Look_any A n c Bd q w1 hA1 hn hm (Nat.le_trans hB hb1.size) hA
  rw [hr] at hR1
  have HR1 := Lib.hid hR1
  have HB1 := Lib.hid hb1
  have HLk := Lib.hid hLk
  have HW1 := Lib.hid (And.intro hw1 hr)
  have HN := Lib.hid hn
  clear hw1 hr hR1 hb1 hA1 hLk hRd hA
  go_enter Tryz.func13, Tryz.ntmps13
  go_upto_region 1 with (fail)
  rw [HW1.out.1, HW1.out.2]
  go_wp2_with fail
  refine HLk.out.mono ?_
  rintro e w2 ⟨b, g, rfl, hb, hg, hgs, hln, hbl⟩
  have hR3 := (HR1.out.below hbl HR1.out.lt).alloc (.cells #[.int .u8 0, .int .u32 0, .int .u8 0, .int .i64 0, .int .u32 0, .int .u8 0, .int .i64 0, .int .i32 0, .int .i64 0, .int .i64 0, .int .u32 0, .int .i32 0, .int .u8 0, .int .i64 0] 32)
  have hb2 := HB1.out.trans (hbl.mono HB1.out.size)
  have hB3 := hb2.alloc hb2.size (.cells #[.int .u8 0, .int .u32 0, .int .u8 0, .int .i64 0, .int .u32 0, .int .u8 0, .int .i64 0, .int .i32 0, .int .i64 0, .int .i64 0, .int .u32 0, .int .i32 0, .int .u8 0, .int .i64 0] 32)
  have hblt := hln.lt
  have hL3 := hln.below (b_alloc w2 (.cells #[.int .u8 0, .int .u32 0, .int .u8 0, .int .i64 0, .int .u32 0, .int .u8 0, .int .i64 0, .int .i32 0, .int .i64 0, .int .i64 0, .int .u32 0, .int .i32 0, .int .u8 0, .int .i64 0] 32))
  have hG3 := Blk.new w2 32 #[.int .u8 0, .int .u32 0, .int .u8 0, .int .i64 0, .int .u32 0, .int .u8 0, .int .i64 0, .int .i32 0, .int .i64 0, .int .i64 0, .int .u32 0, .int .i32 0, .int .u8 0, .int .i64 0]
  have hrr : r < w1.heap.size := HR1.out.lt
  have hs1 := HB1.out.size
  have hs2 := hb2.size
  obtain ⟨w3, hw3⟩ : ∃ W, w2.alloc (.cells #[.int .u8 0, .int .u32 0, .int .u8 0, .int .i64 0, .int .u32 0, .int .u8 0, .int .i64 0, .int .i32 0, .int .i64 0, .int .i64 0, .int .u32 0, .int .i32 0, .int .u8 0, .int .i64 0] 32) = W := ⟨_, rfl⟩
  obtain ⟨G, hGG⟩ : ∃ G, w2.heap.size = G := ⟨_, rfl⟩
  rw [hw3] at hR3 hB3 hL3 hG3
  rw [hGG] at hG3 hgs hblt hs2
  have HX : Hid (w.heap.size = r ∧ r < b ∧ r < g ∧ g < G ∧ b < G ∧ w.heap.size ≤ b ∧ w.heap.size ≤ G ∧ r < G) := Lib.hid (by have := HW1.out.2; omega)
  have HR3 := Lib.hid hR3
  have HB3 := Lib.hid hB3
  have HL3 := Lib.hid hL3
  have HG3 := Lib.hid hG3
  have HW3 := Lib.hid (And.intro hw3 hGG)
  clear hw3 hGG hb hg hgs hln hbl hb2 hblt hL3 hG3 hR3 hB3 hrr hs1 hs2 HLk HR1 HB1
  obtain ⟨x0, hx0⟩ : ∃ x, uV 255 (some q) = x := ⟨_, rfl⟩
  obtain ⟨x1, hx1⟩ : ∃ x, uV 4294967295 (uS 255 (some q)) = x := ⟨_, rfl⟩
  have y0 := uV_le 255 (some q)
  have y1 := uV_le 4294967295 (uS 255 (some q))
  rw [hx0] at y0 j1 j2 j3
  rw [hx1] at y1
  have i0 : IntKind.u8.wrap (x0 : Int) = (x0 : Int) := by rw [IntKind.wrap_u8]; omega
  have i1 : IntKind.u32.wrap (x1 : Int) = (x1 : Int) := by rw [IntKind.wrap_u32]; omega
  have HX0 := Lib.hid hx0
  have HX1 := Lib.hid hx1
  go_upto_region 4 with (fail)
  rw [HW3.out.1, HW3.out.2]
  clear hx0 hx1 HW3 HW1
  go_wp2_with fail
  refine (LUint_any b g 255 (by decide) (some q) _ HL3.out).mono ?_
  rintro e w4 ⟨rfl, hl, hf⟩
  rw [HX0.out]
  have HG4 := Lib.hid (HG3.out.past hf (by have := HX.out; omega) (by simp))
  have HR4 := Lib.hid (HR3.out.past hf (by have := HX.out; omega) (by simp))
  have HB4 := Lib.hid (hf.to_below HB3.out (by have := HX.out; have := HB3.out.size; omega) (by have := HX.out; omega) (by simp))
  have HL4 := Lib.hid hl
  clear hl hf HL3 HG3 HR3 HB3
  have z0 := HG4.out.cell 0
  have f0 := HG4.out.frozen 0
  simp at z0
  go_wp2_with fail
  have hG5 := HG4.out.set_ 0 (.int .u8 (x0 : Int))
  simp only [List.setIfInBounds_toArray, List.set_cons_zero] at hG5
  have hS5 := far_set w4 G 0 (.int .u8 (x0 : Int))
  have hL5 := HL4.out.past hS5 (by have := HX.out; omega) (by simp) (by have := HX.out; omega) (by simp)
  have hR5 := HR4.out.past hS5 (by have := HX.out; omega) (by simp)
  have hB5 := Below.setCell HB4.out (p := ⟨G, 0, none⟩) (by have := HX.out; show w.heap.size ≤ G; omega) (.int .u8 (x0 : Int))
  obtain ⟨w5, hw5⟩ : ∃ W, w4.setCell ⟨G, 0, none⟩ (.int .u8 (x0 : Int)) = W := ⟨_, rfl⟩
  rw [hw5] at hG5 hL5 hR5 hB5
  have HG5 := Lib.hid hG5
  have HL5 := Lib.hid hL5
  have HR5 := Lib.hid hR5
  have HB5 := Lib.hid hB5
  have HW5 := Lib.hid hw5
  clear hS5 hG5 hL5 hR5 hB5 hw5 HG4 HL4 HR4 HB4
  rw [HW5.out]
  clear z0 f0 HW5
  refine (LUint_any b g 4294967295 (by decide) (uS 255 (some q)) _ HL5.out).mono ?_
  rintro e w6 ⟨rfl, hl, hf⟩
  rw [HX1.out]
  have HG6 := Lib.hid (HG5.out.past hf (by have := HX.out; omega) (by simp))
  have HR6 := Lib.hid (HR5.out.past hf (by have := HX.out; omega) (by simp))
  have HB6 := Lib.hid (hf.to_below HB5.out (by have := HX.out; have := HB5.out.size; omega) (by have := HX.out; omega) (by simp))
  have HL6 := Lib.hid hl
  clear hl hf HL5 HG5 HR5 HB5
  have z1 := HG6.out.cell 1
  have f1 := HG6.out.frozen 1
  simp at z1
  have z0 := HG6.out.cell 0
  simp at z0
  have HX0' : Hid (pk q = x0) := HX0
  have HX1' : Hid (pa q = x1) := HX1
  have hG7 := HG6.out.set_ 1 (.int .u32 (x1 : Int))
  simp only [List.setIfInBounds_toArray, List.set_cons_zero, List.set_cons_succ] at hG7
  have hS7 := far_set w6 G 1 (.int .u32 (x1 : Int))
  have hL7 := HL6.out.past hS7 (by have := HX.out; omega) (by simp) (by have := HX.out; omega) (by simp)
  have hR7 := HR6.out.past hS7 (by have := HX.out; omega) (by simp)
  have hB7 := Below.setCell HB6.out (p := ⟨G, 1, none⟩) (by have := HX.out; show w.heap.size ≤ G; omega) (.int .u32 (x1 : Int))
  obtain ⟨w7, hw7⟩ : ∃ W, w6.setCell ⟨G, 1, none⟩ (.int .u32 (x1 : Int)) = W := ⟨_, rfl⟩
  rw [hw7] at hG7 hL7 hR7 hB7
  have HG7 := Lib.hid hG7
  have HL7 := Lib.hid hL7
  have HR7 := Lib.hid hR7
  have HB7 := Lib.hid hB7
  have HW7 := Lib.hid hw7
  clear hS7 hG7 hL7 hR7 hB7 hw7 HG6 HL6 HR6 HB6
  have zz := HG7.out.cell 0
  simp at zz
  rw [← HW7.out] at zz
  go_wp2_with fail
  rw [HW7.out]
  clear z0 z1 f1 zz HW7
  obtain ⟨x2, hx2⟩ : ∃ x, uV 4294967295 (ps2 q) = x := ⟨_, rfl⟩
  have y2 := uV_le 4294967295 (ps2 q)
  rw [hx2] at y2
  have i2 : IntKind.u32.wrap (x2 : Int) = (x2 : Int) := by rw [IntKind.wrap_u32]; omega
  have HX2 := Lib.hid hx2
  clear hx2
  refine (LUint_any b g 4294967295 (by decide) (ps2 q) _ HL7.out).mono ?_
  rintro e w8 ⟨rfl, hl, hf⟩
  rw [HX2.out]
  have HG8 := Lib.hid (HG7.out.past hf (by have := HX.out; omega) (by simp))
  have HR8 := Lib.hid (HR7.out.past hf (by have := HX.out; omega) (by simp))
  have HB8 := Lib.hid (hf.to_below HB7.out (by have := HX.out; have := HB7.out.size; omega) (by have := HX.out; omega) (by simp))
  have HL8 := Lib.hid hl
  clear hl hf HL7 HG7 HR7 HB7
  have z10 := HG8.out.cell 10
  have f10 := HG8.out.frozen 10
  simp at z10
  have hG9 := HG8.out.set_ 10 (.int .u32 (x2 : Int))
  simp only [List.setIfInBounds_toArray, List.set_cons_zero, List.set_cons_succ] at hG9
  have hS9 := far_set w8 G 10 (.int .u32 (x2 : Int))
  have hL9 := HL8.out.past hS9 (by have := HX.out; omega) (by simp) (by have := HX.out; omega) (by simp)
  have hR9 := HR8.out.past hS9 (by have := HX.out; omega) (by simp)
  have hB9 := Below.setCell HB8.out (p := ⟨G, 10, none⟩) (by have := HX.out; show w.heap.size ≤ G; omega) (.int .u32 (x2 : Int))
  obtain ⟨w9, hw9⟩ : ∃ W, w8.setCell ⟨G, 10, none⟩ (.int .u32 (x2 : Int)) = W := ⟨_, rfl⟩
  rw [hw9] at hG9 hL9 hR9 hB9
  have HG9 := Lib.hid hG9
  have HL9 := Lib.hid hL9
  have HR9 := Lib.hid hR9
  have HB9 := Lib.hid hB9
  have HW9 := Lib.hid hw9
  clear hS9 hG9 hL9 hR9 hB9 hw9 HG8 HL8 HR8 HB8
  have HN9 := Lib.hid HW9.out
  go_wp2_with fail
  rw [HW9.out]
  clear z10 f10 HW9 HN9
  have HE9 := Lib.hid (LEnd_any b g (uS 4294967295 (ps2 q)) _ HL9.out)
  by_cases hst : uS 4294967295 (ps2 q) = some []
  · rw [if_pos hst] at HE9
    obtain ⟨z0, z1, z2, z3, z4, z5, z6, z7, z8, z9, z10, z11, z12, z13⟩ := blk14 HG9.out
    have HST := Lib.hid hst
    clear hst
    go_wp2_with fail
    refine HE9.out.mono ?_
    rintro e w70 ⟨rfl, rfl⟩
    by_cases hrt : Ord.Right ⟨x0, x1, Trm.zero, ⟨x2, 0, 0, 0⟩⟩
    · have cR := fun W => ORight_true hrt W
      change ∀ W, Calls Tryz.prog _ #[.agg #[.int .u8 (x0 : Int), .int .u32 (x1 : Int), .int .u8 0, .int .i64 0, .int .u32 0, .int .u8 0, .int .i64 0, .int .i32 0, .int .i64 0, .int .i64 0, .int .u32 (x2 : Int), .int .i32 0, .int .u8 0, .int .i64 0]] W _ at cR
      have HRT := Lib.hid hrt
      clear hrt HE9
      go_wp2_with fail
      refine (cR _).mono ?_
      rintro e w71 ⟨rfl, hb⟩
      have HR71 := Lib.hid (HR9.out.below hb HR9.out.lt)
      have HG71 := Lib.hid (HG9.out.below hb HG9.out.lt)
      have HB71 := Lib.hid (HB9.out.trans (hb.mono HB9.out.size))
      clear hb cR z0 z1 z2 z3 z4 z5 z6 z7 z8 z9 z10 z11 z12 z13 HR9 HG9 HB9
      have hso : layO (⟨x0, x1, Trm.zero, ⟨x2, 0, 0, 0⟩⟩ : Ord) = q ∧ Ord.In ⟨x0, x1, Trm.zero, ⟨x2, 0, 0, 0⟩⟩ := by rw [← HX0'.out, ← HX1'.out, ← HX2.out, HK.out]; exact so_3 HK.out HST.out
      have HSO := Lib.hid hso
      clear hso
      go_wp2_with (first | (with_reducible refine wpl_loadB (o := ⟨some 57, _, _, _, _, _⟩) rfl 32 (.tmp 5) rfl G 0 rfl HG71.out #[.int .u8 (x0 : Int), .int .u32 (x1 : Int), .int .u8 0, .int .i64 0, .int .u32 0, .int .u8 0, .int .i64 0, .int .i32 0, .int .i64 0, .int .i64 0, .int .u32 (x2 : Int), .int .i32 0, .int .u8 0, .int .i64 0] ?g1 ?g2 ?_) | (with_reducible refine wpl_storeA (o := ⟨none, _, _, _, _, _⟩) rfl 32 (.tmp 2) (.tmp 57) rfl r rfl #[.int .u8 (x0 : Int), .int .u32 (x1 : Int), .int .u8 0, .int .i64 0, .int .u32 0, .int .u8 0, .int .i64 0, .int .i32 0, .int .i64 0, .int .i64 0, .int .u32 (x2 : Int), .int .i32 0, .int .u8 0, .int .i64 0] rfl HR71.out ?g5 ?g6 ?g7 ?_))
      case g1 => exact part_of (by rfl)
      case g2 => exact rowOr
      case g5 => rfl
      case g6 => exact rowOr
      case g7 => simp [Value.oneCell']
      intro w90 ho hY
      have hB90 := HB71.out.trans (below_only ho (show w.heap.size ≤ r by have := HX.out; omega))
      go_wp2_with fail
      obtain ⟨r0, r1, r2, r3, r4, r5, r6, r7, r8, r9, r10, r11, r12, r13⟩ := blk14 hY
      refine bodyPost_ret (v := .tuple #[.agg #[.int .u8 (x0 : Int), .int .u32 (x1 : Int), .int .u8 0, .int .i64 0, .int .u32 0, .int .u8 0, .int .i64 0, .int .i32 0, .int .i64 0, .int .i64 0, .int .u32 (x2 : Int), .int .i32 0, .int .u8 0, .int .i64 0], .nilIface]) ?_ rfl ⟨.inl ⟨_, HSO.out.2, HRT.out, HSO.out.1, rfl⟩, hB90⟩
      simp [results, Tryz.results13, go_sem, Result.andThen, r0, r1, r2, r3, r4, r5, r6, r7, r8, r9, r10, r11, r12, r13]
    · have cR := fun W => ORight_false hrt W
      change ∀ W, Calls Tryz.prog _ #[.agg #[.int .u8 (x0 : Int), .int .u32 (x1 : Int), .int .u8 0, .int .i64 0, .int .u32 0, .int .u8 0, .int .i64 0, .int .i32 0, .int .i64 0, .int .i64 0, .int .u32 (x2 : Int), .int .i32 0, .int .u8 0, .int .i64 0]] W _ at cR
      have HRT := Lib.hid hrt
      clear hrt HE9
      go_wp2_with fail
      refine (cR _).mono ?_
      rintro e w71 ⟨rfl, hb⟩
      have HR71 := Lib.hid (HR9.out.below hb HR9.out.lt)
      have HB71 := Lib.hid (HB9.out.trans (hb.mono HB9.out.size))
      clear hb cR z0 z1 z2 z3 z4 z5 z6 z7 z8 z9 z10 z11 z12 z13 HR9 HG9 HB9
      go_wp2_with (with_reducible refine wpl_storeA (o := ⟨none, _, _, _, _, _⟩) rfl 32 (.tmp 2) (.tmp 55) rfl r rfl #[.int .u8 0, .int .u32 0, .int .u8 0, .int .i64 0, .int .u32 0, .int .u8 0, .int .i64 0, .int .i32 0, .int .i64 0, .int .i64 0, .int .u32 0, .int .i32 0, .int .u8 0, .int .i64 0] rfl HR71.out ?g5 ?g6 ?g7 ?_)
      case g5 => rfl
      case g6 => exact rowOr
      case g7 => simp [Value.oneCell']
      intro w90 ho hY
      have hB90 := HB71.out.trans (below_only ho (show w.heap.size ≤ r by have := HX.out; omega))
      go_wp2_with fail
      obtain ⟨r0, r1, r2, r3, r4, r5, r6, r7, r8, r9, r10, r11, r12, r13⟩ := blk14 hY
      refine bodyPost_ret (v := .tuple #[.agg #[.int .u8 0, .int .u32 0, .int .u8 0, .int .i64 0, .int .u32 0, .int .u8 0, .int .i64 0, .int .i32 0, .int .i64 0, .int .i64 0, .int .u32 0, .int .i32 0, .int .u8 0, .int .i64 0], .iface 54 (.int .i64 2)]) ?_ rfl ⟨.inr ⟨fun h => HRT.out (by rw [← HX0'.out, ← HX1'.out, ← HX2.out, HK.out]; exact (co_3 HK.out h).2), rfl⟩, hB90⟩
      simp [results, Tryz.results13, go_sem, Result.andThen, r0, r1, r2, r3, r4, r5, r6, r7, r8, r9, r10, r11, r12, r13]
  · rw [nil_ne hst] at HE9
    have HST := Lib.hid hst
    clear hst
    go_wp2_with fail
    refine HE9.out.mono ?_
    rintro e w70 ⟨rfl, rfl⟩
    clear HE9
    go_wp2_with (with_reducible refine wpl_storeA (o := ⟨none, _, _, _, _, _⟩) rfl 32 (.tmp 2) (.tmp 55) rfl r rfl #[.int .u8 0, .int .u32 0, .int .u8 0, .int .i64 0, .int .u32 0, .int .u8 0, .int .i64 0, .int .i32 0, .int .i64 0, .int .i64 0, .int .u32 0, .int .i32 0, .int .u8 0, .int .i64 0] rfl HR9.out ?g5 ?g6 ?g7 ?_)
    case g5 => rfl
    case g6 => exact rowOr
    case g7 => simp [Value.oneCell']
    intro w90 ho hY
    have hB90 := HB9.out.trans (below_only ho (show w.heap.size ≤ r by have := HX.out; omega))
    go_wp2_with fail
    obtain ⟨r0, r1, r2, r3, r4, r5, r6, r7, r8, r9, r10, r11, r12, r13⟩ := blk14 hY
    refine bodyPost_ret (v := .tuple #[.agg #[.int .u8 0, .int .u32 0, .int .u8 0, .int .i64 0, .int .u32 0, .int .u8 0, .int .i64 0, .int .i32 0, .int .i64 0, .int .i64 0, .int .u32 0, .int .i32 0, .int .u8 0, .int .i64 0], .iface 54 (.int .i64 2)]) ?_ rfl ⟨.inr ⟨fun h => HST.out ((co_3 HK.out h).1), rfl⟩, hB90⟩
    simp [results, Tryz.results13, go_sem, Result.andThen, r0, r1, r2, r3, r4, r5, r6, r7, r8, r9, r10, r11, r12, r13]
set_option maxRecDepth 100000 in
set_option maxHeartbeats 4000000 in
theorem Parse_4 (A : Option Addr) (n c Bd : Nat) (q : List UInt8) (w : World) (hRd : Rd w Bd A q) (hn : q.length = n) (hm0 : n ≤ 900000) (hB : Bd ≤ w.heap.size) (hA : A = none → n = 0 ∧ c = 0) (hk : pk q ≠ 1 ∧ pk q ≠ 2 ∧ pk q ≠ 3) : Calls Tryz.prog 13 #[.slice A n c] w (PaP q w) := by
  have hm : n ≤ 1000000 := by omega
  have HK := Lib.hid hk
  have hk9 : uV 255 (some q) = pk q := rfl
  have j1 : ((uV 255 (some q) : Int) == 1) = false := by rw [beq_eq_false_iff_ne, hk9]; omega
  have j2 : ((uV 255 (some q) : Int) == 2) = false := by rw [beq_eq_false_iff_ne, hk9]; omega
  have j3 : ((uV 255 (some q) : Int) == 3) = false := by rw [beq_eq_false_iff_ne, hk9]; omega
  clear hk hk9
  obtain ⟨w1, hw1⟩ : ∃ W, w.alloc (.cells #[.int .u8 0, .int .u32 0, .int .u8 0, .int .i64 0, .int .u32 0, .int .u8 0, .int .i64 0, .int .i32 0, .int .i64 0, .int .i64 0, .int .u32 0, .int .i32 0, .int .u8 0, .int .i64 0] 32) = W := ⟨_, rfl⟩
  obtain ⟨r, hr⟩ : ∃ r, w.heap.size = r := ⟨_, rfl⟩
  have hR1 := Blk.new w 32 #[.int .u8 0, .int .u32 0, .int .u8 0, .int .i64 0, .int .u32 0, .int .u8 0, .int .i64 0, .int .i32 0, .int .i64 0, .int .i64 0, .int .u32 0, .int .i32 0, .int .u8 0, .int .i64 0]
  have hb1 := b_alloc w (.cells #[.int .u8 0, .int .u32 0, .int .u8 0, .int .i64 0, .int .u32 0, .int .u8 0, .int .i64 0, .int .i32 0, .int .i64 0, .int .i64 0, .int .u32 0, .int .i32 0, .int .u8 0, .int .i64 0] 32)
  have hA1 := hRd.below (hb1.mono hB)
  rw [hw1] at hR1 hb1 hA1
  have hLk := Look_any A n c Bd q w1 hA1 hn hm (Nat.le_trans hB hb1.size) hA
  rw [hr] at hR1
  have HR1 := Lib.hid hR1
  have HB1 := Lib.hid hb1
  have HLk := Lib.hid hLk
  have HW1 := Lib.hid (And.intro hw1 hr)
  have HN := Lib.hid hn
  clear hw1 hr hR1 hb1 hA1 hLk hRd hA
  go_enter Tryz.func13, Tryz.ntmps13
  go_upto_region 1 with (fail)
  rw [HW1.out.1, HW1.out.2]
  go_wp2_with fail
  refine HLk.out.mono ?_
  rintro e w2 ⟨b, g, rfl, hb, hg, hgs, hln, hbl⟩
  have hR3 := (HR1.out.below hbl HR1.out.lt).alloc (.cells #[.int .u8 0, .int .u32 0, .int .u8 0, .int .i64 0, .int .u32 0, .int .u8 0, .int .i64 0, .int .i32 0, .int .i64 0, .int .i64 0, .int .u32 0, .int .i32 0, .int .u8 0, .int .i64 0] 32)
  have hb2 := HB1.out.trans (hbl.mono HB1.out.size)
  have hB3 := hb2.alloc hb2.size (.cells #[.int .u8 0, .int .u32 0, .int .u8 0, .int .i64 0, .int .u32 0, .int .u8 0, .int .i64 0, .int .i32 0, .int .i64 0, .int .i64 0, .int .u32 0, .int .i32 0, .int .u8 0, .int .i64 0] 32)
  have hblt := hln.lt
  have hL3 := hln.below (b_alloc w2 (.cells #[.int .u8 0, .int .u32 0, .int .u8 0, .int .i64 0, .int .u32 0, .int .u8 0, .int .i64 0, .int .i32 0, .int .i64 0, .int .i64 0, .int .u32 0, .int .i32 0, .int .u8 0, .int .i64 0] 32))
  have hG3 := Blk.new w2 32 #[.int .u8 0, .int .u32 0, .int .u8 0, .int .i64 0, .int .u32 0, .int .u8 0, .int .i64 0, .int .i32 0, .int .i64 0, .int .i64 0, .int .u32 0, .int .i32 0, .int .u8 0, .int .i64 0]
  have hrr : r < w1.heap.size := HR1.out.lt
  have hs1 := HB1.out.size
  have hs2 := hb2.size
  obtain ⟨w3, hw3⟩ : ∃ W, w2.alloc (.cells #[.int .u8 0, .int .u32 0, .int .u8 0, .int .i64 0, .int .u32 0, .int .u8 0, .int .i64 0, .int .i32 0, .int .i64 0, .int .i64 0, .int .u32 0, .int .i32 0, .int .u8 0, .int .i64 0] 32) = W := ⟨_, rfl⟩
  obtain ⟨G, hGG⟩ : ∃ G, w2.heap.size = G := ⟨_, rfl⟩
  rw [hw3] at hR3 hB3 hL3 hG3
  rw [hGG] at hG3 hgs hblt hs2
  have HX : Hid (w.heap.size = r ∧ r < b ∧ r < g ∧ g < G ∧ b < G ∧ w.heap.size ≤ b ∧ w.heap.size ≤ G ∧ r < G) := Lib.hid (by have := HW1.out.2; omega)
  have HR3 := Lib.hid hR3
  have HB3 := Lib.hid hB3
  have HL3 := Lib.hid hL3
  have HG3 := Lib.hid hG3
  have HW3 := Lib.hid (And.intro hw3 hGG)
  clear hw3 hGG hb hg hgs hln hbl hb2 hblt hL3 hG3 hR3 hB3 hrr hs1 hs2 HLk HR1 HB1
  obtain ⟨x0, hx0⟩ : ∃ x, uV 255 (some q) = x := ⟨_, rfl⟩
  obtain ⟨x1, hx1⟩ : ∃ x, uV 4294967295 (uS 255 (some q)) = x := ⟨_, rfl⟩
  have y0 := uV_le 255 (some q)
  have y1 := uV_le 4294967295 (uS 255 (some q))
  rw [hx0] at y0 j1 j2 j3
  rw [hx1] at y1
  have i0 : IntKind.u8.wrap (x0 : Int) = (x0 : Int) := by rw [IntKind.wrap_u8]; omega
  have i1 : IntKind.u32.wrap (x1 : Int) = (x1 : Int) := by rw [IntKind.wrap_u32]; omega
  have HX0 := Lib.hid hx0
  have HX1 := Lib.hid hx1
  go_upto_region 4 with (fail)
  rw [HW3.out.1, HW3.out.2]
  clear hx0 hx1 HW3 HW1
  go_wp2_with fail
  refine (LUint_any b g 255 (by decide) (some q) _ HL3.out).mono ?_
  rintro e w4 ⟨rfl, hl, hf⟩
  rw [HX0.out]
  have HG4 := Lib.hid (HG3.out.past hf (by have := HX.out; omega) (by simp))
  have HR4 := Lib.hid (HR3.out.past hf (by have := HX.out; omega) (by simp))
  have HB4 := Lib.hid (hf.to_below HB3.out (by have := HX.out; have := HB3.out.size; omega) (by have := HX.out; omega) (by simp))
  have HL4 := Lib.hid hl
  clear hl hf HL3 HG3 HR3 HB3
  have z0 := HG4.out.cell 0
  have f0 := HG4.out.frozen 0
  simp at z0
  go_wp2_with fail
  have hG5 := HG4.out.set_ 0 (.int .u8 (x0 : Int))
  simp only [List.setIfInBounds_toArray, List.set_cons_zero] at hG5
  have hS5 := far_set w4 G 0 (.int .u8 (x0 : Int))
  have hL5 := HL4.out.past hS5 (by have := HX.out; omega) (by simp) (by have := HX.out; omega) (by simp)
  have hR5 := HR4.out.past hS5 (by have := HX.out; omega) (by simp)
  have hB5 := Below.setCell HB4.out (p := ⟨G, 0, none⟩) (by have := HX.out; show w.heap.size ≤ G; omega) (.int .u8 (x0 : Int))
  obtain ⟨w5, hw5⟩ : ∃ W, w4.setCell ⟨G, 0, none⟩ (.int .u8 (x0 : Int)) = W := ⟨_, rfl⟩
  rw [hw5] at hG5 hL5 hR5 hB5
  have HG5 := Lib.hid hG5
  have HL5 := Lib.hid hL5
  have HR5 := Lib.hid hR5
  have HB5 := Lib.hid hB5
  have HW5 := Lib.hid hw5
  clear hS5 hG5 hL5 hR5 hB5 hw5 HG4 HL4 HR4 HB4
  rw [HW5.out]
  clear z0 f0 HW5
  refine (LUint_any b g 4294967295 (by decide) (uS 255 (some q)) _ HL5.out).mono ?_
  rintro e w6 ⟨rfl, hl, hf⟩
  rw [HX1.out]
  have HG6 := Lib.hid (HG5.out.past hf (by have := HX.out; omega) (by simp))
  have HR6 := Lib.hid (HR5.out.past hf (by have := HX.out; omega) (by simp))
  have HB6 := Lib.hid (hf.to_below HB5.out (by have := HX.out; have := HB5.out.size; omega) (by have := HX.out; omega) (by simp))
  have HL6 := Lib.hid hl
  clear hl hf HL5 HG5 HR5 HB5
  have z1 := HG6.out.cell 1
  have f1 := HG6.out.frozen 1
  simp at z1
  have z0 := HG6.out.cell 0
  simp at z0
  have HX0' : Hid (pk q = x0) := HX0
  have HX1' : Hid (pa q = x1) := HX1
  have hG7 := HG6.out.set_ 1 (.int .u32 (x1 : Int))
  simp only [List.setIfInBounds_toArray, List.set_cons_zero, List.set_cons_succ] at hG7
  have hS7 := far_set w6 G 1 (.int .u32 (x1 : Int))
  have hL7 := HL6.out.past hS7 (by have := HX.out; omega) (by simp) (by have := HX.out; omega) (by simp)
  have hR7 := HR6.out.past hS7 (by have := HX.out; omega) (by simp)
  have hB7 := Below.setCell HB6.out (p := ⟨G, 1, none⟩) (by have := HX.out; show w.heap.size ≤ G; omega) (.int .u32 (x1 : Int))
  obtain ⟨w7, hw7⟩ : ∃ W, w6.setCell ⟨G, 1, none⟩ (.int .u32 (x1 : Int)) = W := ⟨_, rfl⟩
  rw [hw7] at hG7 hL7 hR7 hB7
  have HG7 := Lib.hid hG7
  have HL7 := Lib.hid hL7
  have HR7 := Lib.hid hR7
  have HB7 := Lib.hid hB7
  have HW7 := Lib.hid hw7
  clear hS7 hG7 hL7 hR7 hB7 hw7 HG6 HL6 HR6 HB6
  have zz := HG7.out.cell 0
  simp at zz
  rw [← HW7.out] at zz
  go_wp2_with fail
  rw [HW7.out]
  clear z0 z1 f1 zz HW7
  have HE9 := Lib.hid (LEnd_any b g (ps2 q) _ HL7.out)
  by_cases hst : ps2 q = some []
  · rw [if_pos hst] at HE9
    obtain ⟨z0, z1, z2, z3, z4, z5, z6, z7, z8, z9, z10, z11, z12, z13⟩ := blk14 HG7.out
    have HST := Lib.hid hst
    clear hst
    go_wp2_with fail
    refine HE9.out.mono ?_
    rintro e w70 ⟨rfl, rfl⟩
    by_cases hrt : Ord.Right ⟨x0, x1, Trm.zero, Evt.zero⟩
    · have cR := fun W => ORight_true hrt W
      change ∀ W, Calls Tryz.prog _ #[.agg #[.int .u8 (x0 : Int), .int .u32 (x1 : Int), .int .u8 0, .int .i64 0, .int .u32 0, .int .u8 0, .int .i64 0, .int .i32 0, .int .i64 0, .int .i64 0, .int .u32 0, .int .i32 0, .int .u8 0, .int .i64 0]] W _ at cR
      have HRT := Lib.hid hrt
      clear hrt HE9
      go_wp2_with fail
      refine (cR _).mono ?_
      rintro e w71 ⟨rfl, hb⟩
      have HR71 := Lib.hid (HR7.out.below hb HR7.out.lt)
      have HG71 := Lib.hid (HG7.out.below hb HG7.out.lt)
      have HB71 := Lib.hid (HB7.out.trans (hb.mono HB7.out.size))
      clear hb cR z0 z1 z2 z3 z4 z5 z6 z7 z8 z9 z10 z11 z12 z13 HR7 HG7 HB7
      have hso : layO (⟨x0, x1, Trm.zero, Evt.zero⟩ : Ord) = q ∧ Ord.In ⟨x0, x1, Trm.zero, Evt.zero⟩ := by rw [← HX0'.out, ← HX1'.out]; exact so_4 HK.out.1 HK.out.2.1 HK.out.2.2 HST.out
      have HSO := Lib.hid hso
      clear hso
      go_wp2_with (first | (with_reducible refine wpl_loadB (o := ⟨some 57, _, _, _, _, _⟩) rfl 32 (.tmp 5) rfl G 0 rfl HG71.out #[.int .u8 (x0 : Int), .int .u32 (x1 : Int), .int .u8 0, .int .i64 0, .int .u32 0, .int .u8 0, .int .i64 0, .int .i32 0, .int .i64 0, .int .i64 0, .int .u32 0, .int .i32 0, .int .u8 0, .int .i64 0] ?g1 ?g2 ?_) | (with_reducible refine wpl_storeA (o := ⟨none, _, _, _, _, _⟩) rfl 32 (.tmp 2) (.tmp 57) rfl r rfl #[.int .u8 (x0 : Int), .int .u32 (x1 : Int), .int .u8 0, .int .i64 0, .int .u32 0, .int .u8 0, .int .i64 0, .int .i32 0, .int .i64 0, .int .i64 0, .int .u32 0, .int .i32 0, .int .u8 0, .int .i64 0] rfl HR71.out ?g5 ?g6 ?g7 ?_))
      case g1 => exact part_of (by rfl)
      case g2 => exact rowOr
      case g5 => rfl
      case g6 => exact rowOr
      case g7 => simp [Value.oneCell']
      intro w90 ho hY
      have hB90 := HB71.out.trans (below_only ho (show w.heap.size ≤ r by have := HX.out; omega))
      go_wp2_with fail
      obtain ⟨r0, r1, r2, r3, r4, r5, r6, r7, r8, r9, r10, r11, r12, r13⟩ := blk14 hY
      refine bodyPost_ret (v := .tuple #[.agg #[.int .u8 (x0 : Int), .int .u32 (x1 : Int), .int .u8 0, .int .i64 0, .int .u32 0, .int .u8 0, .int .i64 0, .int .i32 0, .int .i64 0, .int .i64 0, .int .u32 0, .int .i32 0, .int .u8 0, .int .i64 0], .nilIface]) ?_ rfl ⟨.inl ⟨_, HSO.out.2, HRT.out, HSO.out.1, rfl⟩, hB90⟩
      simp [results, Tryz.results13, go_sem, Result.andThen, r0, r1, r2, r3, r4, r5, r6, r7, r8, r9, r10, r11, r12, r13]
    · have cR := fun W => ORight_false hrt W
      change ∀ W, Calls Tryz.prog _ #[.agg #[.int .u8 (x0 : Int), .int .u32 (x1 : Int), .int .u8 0, .int .i64 0, .int .u32 0, .int .u8 0, .int .i64 0, .int .i32 0, .int .i64 0, .int .i64 0, .int .u32 0, .int .i32 0, .int .u8 0, .int .i64 0]] W _ at cR
      have HRT := Lib.hid hrt
      clear hrt HE9
      go_wp2_with fail
      refine (cR _).mono ?_
      rintro e w71 ⟨rfl, hb⟩
      have HR71 := Lib.hid (HR7.out.below hb HR7.out.lt)
      have HB71 := Lib.hid (HB7.out.trans (hb.mono HB7.out.size))
      clear hb cR z0 z1 z2 z3 z4 z5 z6 z7 z8 z9 z10 z11 z12 z13 HR7 HG7 HB7
      go_wp2_with (with_reducible refine wpl_storeA (o := ⟨none, _, _, _, _, _⟩) rfl 32 (.tmp 2) (.tmp 55) rfl r rfl #[.int .u8 0, .int .u32 0, .int .u8 0, .int .i64 0, .int .u32 0, .int .u8 0, .int .i64 0, .int .i32 0, .int .i64 0, .int .i64 0, .int .u32 0, .int .i32 0, .int .u8 0, .int .i64 0] rfl HR71.out ?g5 ?g6 ?g7 ?_)
      case g5 => rfl
      case g6 => exact rowOr
      case g7 => simp [Value.oneCell']
      intro w90 ho hY
      have hB90 := HB71.out.trans (below_only ho (show w.heap.size ≤ r by have := HX.out; omega))
      go_wp2_with fail
      obtain ⟨r0, r1, r2, r3, r4, r5, r6, r7, r8, r9, r10, r11, r12, r13⟩ := blk14 hY
      refine bodyPost_ret (v := .tuple #[.agg #[.int .u8 0, .int .u32 0, .int .u8 0, .int .i64 0, .int .u32 0, .int .u8 0, .int .i64 0, .int .i32 0, .int .i64 0, .int .i64 0, .int .u32 0, .int .i32 0, .int .u8 0, .int .i64 0], .iface 54 (.int .i64 2)]) ?_ rfl ⟨.inr ⟨fun h => HRT.out (by rw [← HX0'.out, ← HX1'.out]; exact (co_4 HK.out.1 HK.out.2.1 HK.out.2.2 h).2), rfl⟩, hB90⟩
      simp [results, Tryz.results13, go_sem, Result.andThen, r0, r1, r2, r3, r4, r5, r6, r7, r8, r9, r10, r11, r12, r13]
  · rw [nil_ne hst] at HE9
    have HST := Lib.hid hst
    clear hst
    go_wp2_with fail
    refine HE9.out.mono ?_
    rintro e w70 ⟨rfl, rfl⟩
    clear HE9
    go_wp2_with (with_reducible refine wpl_storeA (o := ⟨none, _, _, _, _, _⟩) rfl 32 (.tmp 2) (.tmp 55) rfl r rfl #[.int .u8 0, .int .u32 0, .int .u8 0, .int .i64 0, .int .u32 0, .int .u8 0, .int .i64 0, .int .i32 0, .int .i64 0, .int .i64 0, .int .u32 0, .int .i32 0, .int .u8 0, .int .i64 0] rfl HR7.out ?g5 ?g6 ?g7 ?_)
    case g5 => rfl
    case g6 => exact rowOr
    case g7 => simp [Value.oneCell']
    intro w90 ho hY
    have hB90 := HB7.out.trans (below_only ho (show w.heap.size ≤ r by have := HX.out; omega))
    go_wp2_with fail
    obtain ⟨r0, r1, r2, r3, r4, r5, r6, r7, r8, r9, r10, r11, r12, r13⟩ := blk14 hY
    refine bodyPost_ret (v := .tuple #[.agg #[.int .u8 0, .int .u32 0, .int .u8 0, .int .i64 0, .int .u32 0, .int .u8 0, .int .i64 0, .int .i32 0, .int .i64 0, .int .i64 0, .int .u32 0, .int .i32 0, .int .u8 0, .int .i64 0], .iface 54 (.int .i64 2)]) ?_ rfl ⟨.inr ⟨fun h => HST.out ((co_4 HK.out.1 HK.out.2.1 HK.out.2.2 h).1), rfl⟩, hB90⟩
    simp [results, Tryz.results13, go_sem, Result.andThen, r0, r1, r2, r3, r4, r5, r6, r7, r8, r9, r10, r11, r12, r13]
theorem Parse_any (A : Option Addr) (n c Bd : Nat) (q : List UInt8) (w : World) (hRd : Rd w Bd A q) (hn : q.length = n) (hm : n ≤ 900000) (hB : Bd ≤ w.heap.size) (hA : A = none → n = 0 ∧ c = 0) : Calls Tryz.prog 13 #[.slice A n c] w (PaP q w) := by
  by_cases k1 : pk q = 1
  · exact Parse_1 A n c Bd q w hRd hn hm hB hA k1
  by_cases k2 : pk q = 2
  · exact Parse_2 A n c Bd q w hRd hn hm hB hA k2
  by_cases k3 : pk q = 3
  · exact Parse_3 A n c Bd q w hRd hn hm hB hA k3
  · exact Parse_4 A n c Bd q w hRd hn hm hB hA ⟨k1, k2, k3⟩
end Go.Proofs.YtjlajnackecfgaaGreatDoor
