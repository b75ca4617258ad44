/-
Digits in so many places: what strconv's numerals are between ten thousand and twenty thousand, and between a hundred and two hundred; what they are read as. No condition.
date: padded, a day's Text. Conditions: the months' lengths and strconv's powers of ten are laid.
strconv.FormatUint at base 10, at every number. Condition: strconv's powers of ten are laid.
coin.Text at every number. Condition: strconv's powers of ten are laid.
date.Read of a day's own text. Conditions: the months' lengths and strconv's powers of ten are laid.
-/
import Derived.Lib.ItoaNum
import Derived.Lib.AtoiAll
import Derived.Lib.Atoi
import Derived.Test.YtpnoecjpplaicaaGreatDoorDateH
import Derived.Test.YtpnoecjpplaicaaGreatDoorShelf
import Derived.Test.YtpnoecjpplaicaaGreatDoorMem
import Derived.Handy
import Derived.Lib.Hide
import Derived.Lib.AppendIntMem
import Derived.Lib.QuietBelow
import Derived.Lib.AtoiErrMem
namespace Go.Proofs.YtpnoecjpplaicaaGreatDoor

/-- A digit as a byte. -/
def dgt (n : Nat) : UInt8 := UInt8.ofNat (48 + n % 10)
def pad2 (n : Nat) : List UInt8 := [dgt (n / 10), dgt n]
def pad4 (n : Nat) : List UInt8 := [dgt (n / 1000), dgt (n / 100), dgt (n / 10), dgt n]
theorem dec_step (u : Nat) (h : ¬ u < 10) : Lib.decDigits u = Lib.decDigits (u / 10) ++ [dgt u] := by
  rw [Lib.decDigits, dif_neg h]
  rfl
theorem itoa_nat (n : Nat) : Lib.itoa (n : Int) = Lib.decDigits n := by
  unfold Lib.itoa
  rw [if_neg (by omega)]
  rfl
theorem itoa_five (n : Nat) (h : n < 10000) : Lib.itoa (10000 + (n : Int)) = 49 :: pad4 n := by
  rw [show (10000 + (n : Int)) = ((10000 + n : Nat) : Int) by omega, itoa_nat]
  rw [dec_step _ (by omega), dec_step _ (by omega), dec_step _ (by omega), dec_step _ (by omega), Lib.decDigits, dif_pos (by omega)]
  have e0 : (10000 + n) / 10 / 10 / 10 / 10 = 1 := by omega
  have d0 : dgt (10000 + n) = dgt n := by unfold dgt; rw [show (10000 + n) % 10 = n % 10 by omega]
  have d1 : dgt ((10000 + n) / 10) = dgt (n / 10) := by unfold dgt; rw [show (10000 + n) / 10 % 10 = n / 10 % 10 by omega]
  have d2 : dgt ((10000 + n) / 10 / 10) = dgt (n / 100) := by unfold dgt; rw [show (10000 + n) / 10 / 10 % 10 = n / 100 % 10 by omega]
  have d3 : dgt ((10000 + n) / 10 / 10 / 10) = dgt (n / 1000) := by unfold dgt; rw [show (10000 + n) / 10 / 10 / 10 % 10 = n / 1000 % 10 by omega]
  rw [e0, d0, d1, d2, d3]
  rfl
theorem itoa_three (n : Nat) (h : n < 100) : Lib.itoa (100 + (n : Int)) = 49 :: pad2 n := by
  rw [show (100 + (n : Int)) = ((100 + n : Nat) : Int) by omega, itoa_nat]
  rw [dec_step _ (by omega), dec_step _ (by omega), Lib.decDigits, dif_pos (by omega)]
  have e0 : (100 + n) / 10 / 10 = 1 := by omega
  have d0 : dgt (100 + n) = dgt n := by unfold dgt; rw [show (100 + n) % 10 = n % 10 by omega]
  have d1 : dgt ((100 + n) / 10) = dgt (n / 10) := by unfold dgt; rw [show (100 + n) / 10 % 10 = n / 10 % 10 by omega]
  rw [e0, d0, d1]
  rfl
theorem dgt_nat (n : Nat) : (dgt n).toNat = 48 + n % 10 := by
  unfold dgt
  simp [UInt8.toNat_ofNat']
  omega
theorem dgt_val (n : Nat) : Lib.digitVal (dgt n) = some (n % 10) := by
  unfold Lib.digitVal
  rw [dgt_nat, if_pos (by omega)]
  congr 1
  omega
theorem dgt_sign (n : Nat) : (dgt n == 45) = false ∧ (dgt n == 43) = false := by
  constructor
  · rw [beq_eq_false_iff_ne]
    intro e
    have := congrArg UInt8.toNat e
    rw [dgt_nat] at this
    simp at this
    omega
  · rw [beq_eq_false_iff_ne]
    intro e
    have := congrArg UInt8.toNat e
    rw [dgt_nat] at this
    simp at this
    omega
theorem atoi_two (n : Nat) (h : n < 100) : Lib.atoi (pad2 n) = some (n : Int) := by
  simp only [pad2, Lib.atoi, (dgt_sign _).1, (dgt_sign _).2, Bool.false_eq_true, if_false, Lib.decNat, List.isEmpty_cons, Lib.decFrom, dgt_val, Option.map_some, Option.some.injEq]
  omega
theorem atoi_four (n : Nat) (h : n < 10000) : Lib.atoi (pad4 n) = some (n : Int) := by
  simp only [pad4, Lib.atoi, (dgt_sign _).1, (dgt_sign _).2, Bool.false_eq_true, if_false, Lib.decNat, List.isEmpty_cons, Lib.decFrom, dgt_val, Option.map_some, Option.some.injEq]
  omega
/-- A day's text. -/
def textL (y m d : Nat) : List UInt8 := pad4 y ++ 45 :: (pad2 m ++ 45 :: pad2 d)
def textS (y m d : Nat) : ByteArray := ⟨(textL y m d).toArray⟩
theorem text_size (y m d : Nat) : (textS y m d).size = 10 := rfl
end Go.Proofs.YtpnoecjpplaicaaGreatDoor
namespace Go.Proofs.YtpnoecjpplaicaaGreatDoor
open Go.RowKit

/-- strconv's powers of ten, as the program's text lays them. -/
def Pows (w : World) : Prop := Lib.TabIs Tryz.prog w "internal/strconv.uint64pow10" .u64 Lib.pow10Tab
theorem below_grown (w : World) (k : Nat) (os : Array Obj) : Below w.heap.size w (Go.Sort.grow (w.drewN k) os) :=
  ⟨rfl, rfl, rfl, by simp [Go.Sort.grow], fun i hi => by
    have : (w.drewN k).heap = w.heap := rfl
    simp [Go.Sort.grow, this, Array.getElem?_append, hi]⟩
theorem Pows.lt {w : World} (h : Pows w) : 3 < w.heap.size := by
  have hg := World.var?_cell (P := Tryz.prog) (show Tryz.prog.globalNamed "internal/strconv.uint64pow10" = some 3 by kernel_rfl) h 0
  rcases Nat.lt_or_ge 3 w.heap.size with hl | hl
  · exact hl
  · simp [World.cell?, Array.getElem?_eq_none hl, Lib.pow10Tab] at hg
theorem Pows.below {w w' : World} (h : Pows w) (hb : Below w.heap.size w w') : Pows w' := by
  have hb' := hb.block _ h.lt
  unfold Pows Lib.TabIs at *
  rw [← h]
  unfold World.var?
  rw [show Tryz.prog.globalNamed "internal/strconv.uint64pow10" = some 3 by kernel_rfl]
  simp only [Option.bind_some]
  rw [hb']
theorem cut_first (l : List UInt8) : ({ data := (49 :: l).toArray } : ByteArray).extract 1 (l.length + 1) = ⟨l.toArray⟩ := by
  apply ByteArray.ext
  rw [ByteArray.data_extract]
  apply Array.toList_inj.1
  simp
theorem ret_string {a b : ByteArray} (h : a = b) : Ending.returned (.string a) = .returned (.string b) := by rw [h]

set_option maxRecDepth 20000 in
set_option maxHeartbeats 1000000 in
theorem padded_any (n top : Nat) (l : List UInt8) (ht : top + n < 100000) (h : Lib.itoa ((top : Int) + (n : Int)) = 49 :: l) (w : World) (hp : Pows w) :
    Calls Tryz.prog 69 #[.int .i64 n, .int .i64 top] w fun e w' => e = .returned (.string ⟨l.toArray⟩) ∧ Below w.heap.size w w' := by
  have hI := Tryz.strconv_Itoa ((top : Int) + (n : Int)) (by omega) (by omega) w hp
  rw [h] at hI
  have hb : ∀ k os, Below w.heap.size w (Go.Sort.grow (w.drewN k) os) := below_grown w
  go_enter Tryz.func69, Tryz.ntmps69
  go_wp2_with fail
  refine hI.mono ?_
  rintro e w1 ⟨rfl, k, os, rfl⟩
  have HB := Lib.hid (hb k os)
  clear hb
  go_wp2_with fail
  go_ret
  exact ⟨ret_string (cut_first l), HB.out⟩

theorem block_nat {n : Int} (h : 0 ≤ n) : ((n.toNat : Nat) : Int) = n := by omega
/-- A day's text. -/
def dayText (n : Int) : ByteArray := textS (cY n).toNat (cM n).toNat (cD n).toNat
theorem join_text (a b c : List UInt8) : (((({ data := a.toArray } : ByteArray) ++ { data := #[45] }) ++ { data := b.toArray }) ++ { data := #[45] }) ++ { data := c.toArray } = ⟨(a ++ 45 :: (b ++ 45 :: c)).toArray⟩ := by
  apply ByteArray.ext
  apply Array.toList_inj.1
  simp [ByteArray.data_append]

set_option maxRecDepth 20000 in
set_option maxHeartbeats 1000000 in
theorem DText_any (n : Int) (h0 : 0 ≤ n) (h1 : n ≤ 3652058) (w : World) (hw : Lens w) (hp : Pows w) :
    Calls Tryz.prog 27 #[.int .i32 n] w fun e w' => e = .returned (.string (dayText n)) ∧ Below w.heap.size w w' := by
  obtain ⟨y1, y2, m1, m2, d1, d2, d3⟩ := civ_in n h0 h1
  have hC := DCivil_any n w h0 h1 hw
  unfold dayText
  obtain ⟨Y, hY⟩ : ∃ Y : Nat, cY n = (Y : Int) := ⟨(cY n).toNat, by omega⟩
  obtain ⟨M, hM⟩ : ∃ M : Nat, cM n = (M : Int) := ⟨(cM n).toNat, by omega⟩
  obtain ⟨D, hD⟩ : ∃ D : Nat, cD n = (D : Int) := ⟨(cD n).toNat, by omega⟩
  rw [hY, hM, hD] at hC ⊢
  rw [hY] at y1 y2
  rw [hM] at m1 m2
  rw [hD] at d1 d3
  rw [Int.toNat_natCast, Int.toNat_natCast, Int.toNat_natCast]
  unfold textS textL
  have pY := fun W (hW : Pows W) => padded_any Y 10000 (pad4 Y) (by omega) (itoa_five Y (by omega)) W hW
  have pM := fun W (hW : Pows W) => padded_any M 100 (pad2 M) (by omega) (itoa_three M (by omega)) W hW
  have pD := fun W (hW : Pows W) => padded_any D 100 (pad2 D) (by omega) (itoa_three D (by omega)) W hW
  have HJ := Lib.hid (join_text (pad4 Y) (pad2 M) (pad2 D))
  have HP := Lib.hid hp
  have lA : (pad4 Y).length ≤ 4 := Nat.le_refl _
  have lB : (pad2 M).length ≤ 2 := Nat.le_refl _
  have lC : (pad2 D).length ≤ 2 := Nat.le_refl _
  generalize pad4 Y = A at *
  generalize pad2 M = B at *
  generalize pad2 D = C at *
  clear hY hM hD d2 hp
  go_enter Tryz.func27, Tryz.ntmps27
  go_wp2_with fail
  refine hC.mono ?_
  rintro e w1 ⟨rfl, hb1⟩
  go_wp2_with fail
  have HB0 := Lib.hid (hb1.alloc hb1.size (.cells #[.int .i64 (Y : Int), .int .i64 (M : Int), .int .i64 (D : Int)] 128))
  obtain ⟨W0, hw0⟩ : ∃ W, w1.alloc (.cells #[.int .i64 (Y : Int), .int .i64 (M : Int), .int .i64 (D : Int)] 128) = W := ⟨_, rfl⟩
  obtain ⟨b0, b1, b2⟩ := box3 hw0
  rw [hw0] at HB0 ⊢
  have AY := fun (dd : Nat) (os : Array Obj) => Calls.regrown_of (pY (Go.Sort.grow (redrawn W0 dd) os) ((HP.out.below HB0.out).below (below_regrown W0 dd os)))
  have AM := fun (dd : Nat) (os : Array Obj) => Calls.regrown_of (pM (Go.Sort.grow (redrawn W0 dd) os) ((HP.out.below HB0.out).below (below_regrown W0 dd os)))
  have AD := fun (dd : Nat) (os : Array Obj) => Calls.regrown_of (pD (Go.Sort.grow (redrawn W0 dd) os) ((HP.out.below HB0.out).below (below_regrown W0 dd os)))
  clear hw0 hb1 pY pM pD hC
  refine wp_region_quiet_below (by kernel_rfl) (by kernel_rfl) ?_
  repeat (go_big_quiet_step (fail))
  go_big_quiet_step (exact AY _ _)
  repeat (go_big_quiet_step (fail))
  go_big_quiet_step (exact AM _ _)
  repeat (go_big_quiet_step (fail))
  go_big_quiet_step (exact AD _ _)
  repeat (go_big_quiet_step (fail))
  refine wpQuiet_nil ?_
  intro w9 hw'
  have hbx : Below W0.heap.size W0 w9 := by
    obtain ⟨p, rfl⟩ := hw'
    exact below_regrown _ _ _
  clear hw' AY AM AD b0 b1 b2
  go_wp2_with fail
  go_ret
  exact ⟨ret_string (HJ.out), HB0.out.trans (hbx.mono HB0.out.size)⟩
end Go.Proofs.YtpnoecjpplaicaaGreatDoor
namespace Go.Proofs.YtpnoecjpplaicaaGreatDoor
open Go.RowKit Go.Sort

theorem below_grow0 (w : World) (k : Nat) (os : Array Obj) : Below w.heap.size w (Go.Sort.grow (w.drewN k) os) :=
  ⟨rfl, rfl, rfl, by simp [Go.Sort.grow], fun i hi => by
    have : (w.drewN k).heap = w.heap := rfl
    simp [Go.Sort.grow, this, Array.getElem?_append, hi]⟩
/-- A number in words. -/
def dec (n : Nat) : ByteArray := ⟨(Lib.decDigits n).toArray⟩

set_option maxRecDepth 100000 in
set_option maxHeartbeats 4000000 in
theorem IFormat_any (u : Nat) (hu64 : u < 18446744073709551616) (w : World) (htab : Pows w) :
    Calls Tryz.prog 97 #[.int .u64 (u : Int), .int .i64 10] w fun e w' => e = .returned (.string (dec u)) ∧ Below w.heap.size w w' := by
  by_cases hs : u < 100
  · have hi : (u : Int) < 100 := by omega
    have i1 : IntKind.i64.wrap (u : Int) = (u : Int) := by rw [IntKind.wrap_i64]; omega
    go_enter Tryz.func97, Tryz.ntmps97
    go_wp2_with fail
    refine (Tryz.internal_strconv_small u hs _).mono ?_
    rintro e w' ⟨rfl, rfl⟩
    go_wp2_with fail
    go_ret
    exact ⟨rfl, Below.refl _ _⟩
  · have hu1 : 1 ≤ u := by omega
    have hi : ¬ (u : Int) < 100 := by omega
    have hnd20 : Lib.nDigits u ≤ 20 := by have := Lib.numDigits_eq u hu1 hu64; split at this <;> omega
    have HT := Lib.hid htab
    have hal : Tryz.prog.arrayLen 205 = 24 := by kernel_rfl
    have hsl1 : ∀ W, (Instr.sliceAt 205 (.pointer (some ⟨w.heap.size, 0, none⟩)) none (some (.int .i64 (Lib.nDigits u : Int))) none).run Tryz.prog W = .ok (.slice (some ⟨w.heap.size, 0, none⟩) (Lib.nDigits u) 24) W := fun W => by
      rw [run_sliceAt_array_h W 205 ⟨w.heap.size, 0, none⟩ (by kernel_rfl) .i64 (Lib.nDigits u : Int) (by omega) (by rw [hal]; omega)]
      rw [show Tryz.prog.elem 205 = 5 by kernel_rfl]
      go_simp
    have hH0 := Lib.holds_zero0 w 205 (Lib.nDigits u) (by omega)
    have hfmt := Tryz.internal_strconv_formatBase10 w.heap.size 0 24 u (Array.replicate (Lib.nDigits u) 0) (w.alloc (.cells Lib.zeros24 205)) hH0 (by rw [Array.size_replicate]; exact Lib.lt_pow_nDigits u) hu64 (by rw [Array.size_replicate]; omega)
    rw [Array.size_replicate] at hfmt
    have HH0 := Lib.hid hH0
    clear htab hs hH0 hal
    go_enter Tryz.func97, Tryz.ntmps97
    go_wp2_with fail
    refine (Tryz.internal_strconv_numDigits u hu1 hu64 _ (Lib.tabIs_alloc HT.out _)).mono ?_
    rintro e w' ⟨rfl, rfl⟩
    go_wp2_with fail
    refine hfmt.mono ?_
    rintro e w' ⟨rfl, k, v', dk, rfl, hF⟩
    have hcv : (convert 29 9 (.slice (some ⟨w.heap.size, 0, none⟩) (Lib.nDigits u) 24)).run Tryz.prog ((putRow (fun (b : UInt8) => Value.int .u8 (b.toNat : Int)) (w.alloc (.cells Lib.zeros24 205)) w.heap.size 0 dk).drewN k) = .ok (.string ⟨(Lib.decDigits u).toArray⟩) ((putRow (fun (b : UInt8) => Value.int .u8 (b.toNat : Int)) (w.alloc (.cells Lib.zeros24 205)) w.heap.size 0 dk).drewN k) := by
      have h := run_convert_bytes_back (P := Tryz.prog) ((putRow (fun (b : UInt8) => Value.int .u8 (b.toNat : Int)) (w.alloc (.cells Lib.zeros24 205)) w.heap.size 0 dk).drewN k) 29 9 5 ⟨w.heap.size, 0, none⟩ 24 (Lib.decDigits u) (by rfl) (by rfl) (by rfl) (fun j hj => by
        rw [Lib.row_is_numeral hF j hj, Lib.add_plain, World.cell?_drewN]
        exact cell?_putRow (fun (b : UInt8) => Value.int .u8 (b.toNat : Int)) _ w.heap.size 0 _ dk HH0.out (by rw [hF.size, Array.size_replicate]) j (by rw [hF.size]; rw [Lib.decDigits_length] at hj; exact hj))
      rw [Lib.decDigits_length] at h
      exact h
    obtain ⟨os, eo⟩ := Lib.fin_at w (.cells Lib.zeros24 205) dk k 0
    rw [eo] at hcv ⊢
    clear hF eo
    go_wp2_with fail
    go_ret
    exact ⟨rfl, below_grow0 w k os⟩

set_option maxRecDepth 100000 in
set_option maxHeartbeats 4000000 in
theorem Format_any (u : Nat) (hu64 : u < 18446744073709551616) (w : World) (htab : Pows w) :
    Calls Tryz.prog 54 #[.int .u64 (u : Int), .int .i64 10] w fun e w' => e = .returned (.string (dec u)) ∧ Below w.heap.size w w' := by
  have HF := Lib.hid (IFormat_any u hu64 w htab)
  clear htab
  go_enter Tryz.func54, Tryz.ntmps54
  go_wp2_with fail
  refine HF.out.mono ?_
  rintro e w1 ⟨rfl, hb⟩
  go_wp2_with fail
  go_ret
  exact ⟨rfl, hb⟩
end Go.Proofs.YtpnoecjpplaicaaGreatDoor
namespace Go.Proofs.YtpnoecjpplaicaaGreatDoor
open Go.RowKit

/-- Two digits. -/
def two (r : Nat) : List UInt8 := [UInt8.ofNat (48 + r / 10), UInt8.ofNat (48 + r % 10)]
theorem dec_two : ∀ r, r < 100 → Lib.decDigits (100 + r) = 49 :: two r := by
  intro r hr
  have h : ∀ i : Fin 100, Lib.decDigits (100 + i.1) = 49 :: two i.1 := by decide +kernel
  exact h ⟨r, hr⟩
def sgnB (a : Int) : ByteArray := if a < 0 then ⟨#[45]⟩ else ⟨#[]⟩
def textC (a : Int) : ByteArray := ((sgnB a ++ dec (a.natAbs / 100)) ++ ⟨#[46]⟩) ++ ⟨(two (a.natAbs % 100)).toArray⟩

set_option maxRecDepth 100000 in
set_option maxHeartbeats 4000000 in
theorem CText_any (a : Int) (ha : -9223372036854775808 ≤ a ∧ a ≤ 9223372036854775807) (w : World) (hp : Pows w) :
    Calls Tryz.prog 53 #[.int .i64 a] w fun e w' => e = .returned (.string (textC a)) ∧ Below w.heap.size w w' := by
  obtain ⟨N, hN⟩ : ∃ N, a.natAbs = N := ⟨_, rfl⟩
  have hNl : N ≤ 9223372036854775808 := by omega
  have H1 := fun W (hP : Pows W) => Format_any (N / 100) (by omega) W hP
  have H2 := fun W (hP : Pows W) => Format_any (100 + N % 100) (by omega) W hP
  obtain ⟨R, hR⟩ : ∃ R, two (N % 100) = R := ⟨_, rfl⟩
  have hdt := dec_two (N % 100) (by omega)
  rw [hR] at hdt
  have hRl : R.length = 2 := by rw [← hR]; rfl
  have hcut := cut_first R
  rw [← hdt] at hcut
  have hd2 : dec (100 + N % 100) = ⟨(Lib.decDigits (100 + N % 100)).toArray⟩ := rfl
  rw [← hd2] at hcut
  rw [hRl] at hcut
  have hsz : (dec (100 + N % 100)).size = 3 := by rw [hd2, hdt]; simp [ByteArray.size, hRl]
  have hT : textC a = ((sgnB a ++ dec (N / 100)) ++ ⟨#[46]⟩) ++ ⟨R.toArray⟩ := by unfold textC; rw [hN, hR]
  obtain ⟨q, hq⟩ : ∃ q, N / 100 = q := ⟨_, rfl⟩
  obtain ⟨s, hs⟩ : ∃ s, 100 + N % 100 = s := ⟨_, rfl⟩
  rw [hq] at H1 hT
  rw [hs] at H2 hcut hsz
  obtain ⟨DQ, hDQ⟩ : ∃ D, dec q = D := ⟨_, rfl⟩
  obtain ⟨DS, hDS⟩ : ∃ D, dec s = D := ⟨_, rfl⟩
  rw [hDQ] at H1 hT
  rw [hDS] at H2 hcut hsz
  obtain ⟨RB, hRB⟩ : ∃ D : ByteArray, (⟨R.toArray⟩ : ByteArray) = D := ⟨_, rfl⟩
  rw [hRB] at hcut hT
  rw [hT]
  have i1 : (N : Int) / 100 = (q : Int) := by omega
  have i2 : (100 : Int) + (N : Int) % 100 = (s : Int) := by omega
  have i3 : IntKind.u64.wrap (s : Int) = (s : Int) := by rw [IntKind.wrap_u64]; omega
  have i4 : IntKind.u64.wrap (N : Int) = (N : Int) := by rw [IntKind.wrap_u64]; omega
  have i5 : IntKind.u64.wrap (q : Int) = (q : Int) := by rw [IntKind.wrap_u64]; omega
  have k1 : DQ.size ≤ 25 := by
    rw [← hDQ]
    have h1 : (dec q).size = Lib.nDigits q := by simp [dec, ByteArray.size, Lib.decDigits_length]
    rw [h1]
    rcases Nat.eq_zero_or_pos q with h | h
    · rw [h, Lib.nDigits_small (by omega)]; omega
    · have := Lib.numDigits_eq q h (by omega)
      split at this <;> omega
  have k2 : RB.size = 2 := by rw [← hRB]; simp [ByteArray.size, hRl]
  have k3 : ∀ S : ByteArray, (S ++ DQ).size = S.size + DQ.size := fun S => ByteArray.size_append
  have HP := Lib.hid hp
  by_cases h0 : a < 0
  · have j1 : IntKind.u64.wrap (-IntKind.u64.wrap a) = (N : Int) := by rw [IntKind.wrap_u64, IntKind.wrap_u64]; omega
    have j2 : IntKind.u64.wrap (0 - IntKind.u64.wrap a) = (N : Int) := by rw [IntKind.wrap_u64, IntKind.wrap_u64]; omega
    have hS : sgnB a = ⟨#[45]⟩ := if_pos h0
    rw [hS]
    clear hN hNl hR hdt hRl hd2 hT hq hs hDQ hDS hRB hS hp
    go_enter Tryz.func53, Tryz.ntmps53
    go_wp2_with fail
    refine (H1 _ HP.out).mono ?_
    rintro e w1 ⟨rfl, hb1⟩
    go_wp2_with fail
    refine (H2 _ (HP.out.below hb1)).mono ?_
    rintro e w2 ⟨rfl, hb2⟩
    go_wp2_with fail
    go_ret
    exact ⟨rfl, hb1.trans (hb2.mono hb1.size)⟩
  · have j1 : IntKind.u64.wrap a = (N : Int) := by rw [IntKind.wrap_u64]; omega
    have hS : sgnB a = ⟨#[]⟩ := if_neg h0
    rw [hS]
    clear hN hNl hR hdt hRl hd2 hT hq hs hDQ hDS hRB hS hp
    go_enter Tryz.func53, Tryz.ntmps53
    go_wp2_with fail
    refine (H1 _ HP.out).mono ?_
    rintro e w1 ⟨rfl, hb1⟩
    go_wp2_with fail
    refine (H2 _ (HP.out.below hb1)).mono ?_
    rintro e w2 ⟨rfl, hb2⟩
    go_wp2_with fail
    go_ret
    exact ⟨rfl, hb1.trans (hb2.mono hb1.size)⟩
end Go.Proofs.YtpnoecjpplaicaaGreatDoor
namespace Go.Proofs.YtpnoecjpplaicaaGreatDoor
open Go.RowKit

theorem below_bytes (w : World) (e : TypeId) (t : ByteArray) : Below w.heap.size w (Lib.bytesWorld w e t) := Lib.bytesWorld_below w e t
theorem ext_text (a b c : List UInt8) (ha : a.length = 4) (hb : b.length = 2) (hc : c.length = 2) :
    (⟨(a ++ 45 :: (b ++ 45 :: c)).toArray⟩ : ByteArray).extract 0 4 = ⟨a.toArray⟩ ∧ (⟨(a ++ 45 :: (b ++ 45 :: c)).toArray⟩ : ByteArray).extract 5 7 = ⟨b.toArray⟩ ∧ (⟨(a ++ 45 :: (b ++ 45 :: c)).toArray⟩ : ByteArray).extract 8 10 = ⟨c.toArray⟩ := by
  match a, ha, b, hb, c, hc with
  | [a0, a1, a2, a3], _, [b0, b1], _, [c0, c1], _ => exact ⟨rfl, rfl, rfl⟩

theorem Atoi_two (n : Nat) (h : n < 100) (w : World) : Calls Tryz.prog 60 #[.string ⟨(pad2 n).toArray⟩] w fun e w' => e = .returned (.tuple #[.int .i64 (n : Int), .nilIface]) ∧ Below w.heap.size w w' :=
  (Tryz.strconv_Atoi ⟨(pad2 n).toArray⟩ n (by show 2 ≤ 18; omega) (atoi_two n h) w).mono fun _ _ ⟨a, t, b⟩ => ⟨a, b ▸ below_bytes _ _ _⟩
theorem Atoi_four (n : Nat) (h : n < 10000) (w : World) : Calls Tryz.prog 60 #[.string ⟨(pad4 n).toArray⟩] w fun e w' => e = .returned (.tuple #[.int .i64 (n : Int), .nilIface]) ∧ Below w.heap.size w w' :=
  (Tryz.strconv_Atoi ⟨(pad4 n).toArray⟩ n (by show 4 ≤ 18; omega) (atoi_four n h) w).mono fun _ _ ⟨a, t, b⟩ => ⟨a, b ▸ below_bytes _ _ _⟩

set_option maxRecDepth 20000 in
set_option maxHeartbeats 1000000 in
theorem Read_text (n : Int) (h0 : 0 ≤ n) (h1 : n ≤ 3652058) (w : World) (hw : Lens w) (hp : Pows w) :
    Calls Tryz.prog 61 #[.string (dayText n)] w fun e w' => e = .returned (.tuple #[.int .i32 n, .nilIface]) ∧ Below w.heap.size w w' := by
  obtain ⟨y1, y2, m1, m2, d1, d2, d3⟩ := civ_in n h0 h1
  obtain ⟨hr, hn⟩ := civ_right n h0 h1
  have hN := fun W (hW : Lens W) => CNum_yes (cY n) (cM n) (cD n) hr W hW
  have hT := fun W (hW : Lens W) (hP : Pows W) => DText_any n h0 h1 W hW hP
  have hS : dayText n = textS (cY n).toNat (cM n).toNat (cD n).toNat := rfl
  rw [hn] at hN
  obtain ⟨Y, hY⟩ : ∃ Y : Nat, cY n = (Y : Int) := ⟨(cY n).toNat, by omega⟩
  obtain ⟨M, hM⟩ : ∃ M : Nat, cM n = (M : Int) := ⟨(cM n).toNat, by omega⟩
  obtain ⟨D, hD⟩ : ∃ D : Nat, cD n = (D : Int) := ⟨(cD n).toNat, by omega⟩
  rw [hY, hM, hD] at hN hS
  rw [hY] at y1 y2
  rw [hM] at m1 m2
  rw [hD] at d1 d3
  rw [Int.toNat_natCast, Int.toNat_natCast, Int.toNat_natCast] at hS
  obtain ⟨x1, x2, x3⟩ := ext_text (pad4 Y) (pad2 M) (pad2 D) rfl rfl rfl
  have aY := fun W => Atoi_four Y (by omega) W
  have aM := fun W => Atoi_two M (by omega) W
  have aD := fun W => Atoi_two D (by omega) W
  have hz : (dayText n).size = 10 := rfl
  have hS' : dayText n = ⟨(pad4 Y ++ 45 :: (pad2 M ++ 45 :: pad2 D)).toArray⟩ := hS
  rw [← hS'] at x1 x2 x3
  generalize dayText n = S at *
  generalize (⟨(pad4 Y).toArray⟩ : ByteArray) = A at *
  generalize (⟨(pad2 M).toArray⟩ : ByteArray) = B at *
  generalize (⟨(pad2 D).toArray⟩ : ByteArray) = C at *
  have HW := Lib.hid hw
  have HP := Lib.hid hp
  clear hY hM hD d2 hp hw hS hS' hr hn
  go_enter Tryz.func61, Tryz.ntmps61
  go_wp2_with fail
  refine (aY _).mono ?_
  rintro e w1 ⟨rfl, hb1⟩
  go_wp2_with fail
  refine (aM _).mono ?_
  rintro e w2 ⟨rfl, hb2⟩
  have HB2 := Lib.hid (hb1.trans (hb2.mono hb1.size))
  clear hb1 hb2
  go_wp2_with fail
  refine (aD _).mono ?_
  rintro e w3 ⟨rfl, hb3⟩
  have HB3 := Lib.hid (HB2.out.trans (hb3.mono HB2.out.size))
  clear hb3
  go_wp2_with fail
  refine (hN _ (HW.out.below HB3.out)).mono ?_
  rintro e w4 ⟨rfl, hb4⟩
  have HB4 := Lib.hid (HB3.out.trans (hb4.mono HB3.out.size))
  clear hb4
  go_wp2_with fail
  refine (hT _ (HW.out.below HB4.out) (HP.out.below HB4.out)).mono ?_
  rintro e w5 ⟨rfl, hb5⟩
  have HB5 := Lib.hid (HB4.out.trans (hb5.mono HB4.out.size))
  clear hb5
  go_wp2_with fail
  go_ret2
  exact ⟨rfl, HB5.out⟩
end Go.Proofs.YtpnoecjpplaicaaGreatDoor
