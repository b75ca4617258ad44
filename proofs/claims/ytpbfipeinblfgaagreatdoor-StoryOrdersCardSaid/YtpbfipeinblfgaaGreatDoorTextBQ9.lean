/-
date.Read of a day's own text. Conditions: the months' lengths and strconv's powers of ten are laid.
-/
import Derived.Test.YtpbfipeinblfgaaGreatDoorTextAQ9
import Derived.Lib.AtoiErrMem
namespace Go.Proofs.YtpbfipeinblfgaaGreatDoor
open Go.RowKit

theorem below_bytes (w : World) (e : TypeId) (t : ByteArray) : Below w.heap.size w (Lib.bytesWorld w e t) := Lib.bytesWorld_below w e t
theorem ext_text (a b c : List UInt8) (ha : a.length = 4) (hb : b.length = 2) (hc : c.length = 2) :
    (⟨(a ++ 45 :: (b ++ 45 :: c)).toArray⟩ : ByteArray).extract 0 4 = ⟨a.toArray⟩ ∧ (⟨(a ++ 45 :: (b ++ 45 :: c)).toArray⟩ : ByteArray).extract 5 7 = ⟨b.toArray⟩ ∧ (⟨(a ++ 45 :: (b ++ 45 :: c)).toArray⟩ : ByteArray).extract 8 10 = ⟨c.toArray⟩ := by
  match a, ha, b, hb, c, hc with
  | [a0, a1, a2, a3], _, [b0, b1], _, [c0, c1], _ => exact ⟨rfl, rfl, rfl⟩

theorem Atoi_two (n : Nat) (h : n < 100) (w : World) : Calls Tryz.prog 41 #[.string ⟨(pad2 n).toArray⟩] w fun e w' => e = .returned (.tuple #[.int .i64 (n : Int), .nilIface]) ∧ Below w.heap.size w w' :=
  (Tryz.strconv_Atoi ⟨(pad2 n).toArray⟩ n (by show 2 ≤ 18; omega) (atoi_two n h) w).mono fun _ _ ⟨a, t, b⟩ => ⟨a, b ▸ below_bytes _ _ _⟩
theorem Atoi_four (n : Nat) (h : n < 10000) (w : World) : Calls Tryz.prog 41 #[.string ⟨(pad4 n).toArray⟩] w fun e w' => e = .returned (.tuple #[.int .i64 (n : Int), .nilIface]) ∧ Below w.heap.size w w' :=
  (Tryz.strconv_Atoi ⟨(pad4 n).toArray⟩ n (by show 4 ≤ 18; omega) (atoi_four n h) w).mono fun _ _ ⟨a, t, b⟩ => ⟨a, b ▸ below_bytes _ _ _⟩

set_option maxRecDepth 20000 in
set_option maxHeartbeats 1000000 in
theorem Read_text (n : Int) (h0 : 0 ≤ n) (h1 : n ≤ 3652058) (w : World) (hw : Lens w) (hp : Pows w) :
    Calls Tryz.prog 42 #[.string (dayText n)] w fun e w' => e = .returned (.tuple #[.int .i32 n, .nilIface]) ∧ Below w.heap.size w w' := by
  obtain ⟨y1, y2, m1, m2, d1, d2, d3⟩ := civ_in n h0 h1
  obtain ⟨hr, hn⟩ := civ_right n h0 h1
  have hN := fun W (hW : Lens W) => CNum_yes (cY n) (cM n) (cD n) hr W hW
  have hT := fun W (hW : Lens W) (hP : Pows W) => DText_any n h0 h1 W hW hP
  have hS : dayText n = textS (cY n).toNat (cM n).toNat (cD n).toNat := rfl
  rw [hn] at hN
  obtain ⟨Y, hY⟩ : ∃ Y : Nat, cY n = (Y : Int) := ⟨(cY n).toNat, by omega⟩
  obtain ⟨M, hM⟩ : ∃ M : Nat, cM n = (M : Int) := ⟨(cM n).toNat, by omega⟩
  obtain ⟨D, hD⟩ : ∃ D : Nat, cD n = (D : Int) := ⟨(cD n).toNat, by omega⟩
  rw [hY, hM, hD] at hN hS
  rw [hY] at y1 y2
  rw [hM] at m1 m2
  rw [hD] at d1 d3
  rw [Int.toNat_natCast, Int.toNat_natCast, Int.toNat_natCast] at hS
  obtain ⟨x1, x2, x3⟩ := ext_text (pad4 Y) (pad2 M) (pad2 D) rfl rfl rfl
  have aY := fun W => Atoi_four Y (by omega) W
  have aM := fun W => Atoi_two M (by omega) W
  have aD := fun W => Atoi_two D (by omega) W
  have hz : (dayText n).size = 10 := rfl
  have hS' : dayText n = ⟨(pad4 Y ++ 45 :: (pad2 M ++ 45 :: pad2 D)).toArray⟩ := hS
  rw [← hS'] at x1 x2 x3
  generalize dayText n = S at *
  generalize (⟨(pad4 Y).toArray⟩ : ByteArray) = A at *
  generalize (⟨(pad2 M).toArray⟩ : ByteArray) = B at *
  generalize (⟨(pad2 D).toArray⟩ : ByteArray) = C at *
  have HW := Lib.hid hw
  have HP := Lib.hid hp
  clear hY hM hD d2 hp hw hS hS' hr hn
  go_enter Tryz.func42, Tryz.ntmps42
  go_wp2_with fail
  refine (aY _).mono ?_
  rintro e w1 ⟨rfl, hb1⟩
  go_wp2_with fail
  refine (aM _).mono ?_
  rintro e w2 ⟨rfl, hb2⟩
  have HB2 := Lib.hid (hb1.trans (hb2.mono hb1.size))
  clear hb1 hb2
  go_wp2_with fail
  refine (aD _).mono ?_
  rintro e w3 ⟨rfl, hb3⟩
  have HB3 := Lib.hid (HB2.out.trans (hb3.mono HB2.out.size))
  clear hb3
  go_wp2_with fail
  refine (hN _ (HW.out.below HB3.out)).mono ?_
  rintro e w4 ⟨rfl, hb4⟩
  have HB4 := Lib.hid (HB3.out.trans (hb4.mono HB3.out.size))
  clear hb4
  go_wp2_with fail
  refine (hT _ (HW.out.below HB4.out) (HP.out.below HB4.out)).mono ?_
  rintro e w5 ⟨rfl, hb5⟩
  have HB5 := Lib.hid (HB4.out.trans (hb5.mono HB4.out.size))
  clear hb5
  go_wp2_with fail
  go_ret2
  exact ⟨rfl, HB5.out⟩
end Go.Proofs.YtpbfipeinblfgaaGreatDoor
