/-
date: padded, a day's Text. Conditions: the months' lengths and strconv's powers of ten are laid.
-/
import Derived.Test.YtpbfipeinblfgaaGreatDoorDateHQ9
import Derived.Test.YtpbfipeinblfgaaGreatDoorPadQ9
import Derived.Test.YtpbfipeinblfgaaGreatDoorShelf
namespace Go.Proofs.YtpbfipeinblfgaaGreatDoor
open Go.RowKit

/-- strconv's powers of ten, as the program's text lays them. -/
def Pows (w : World) : Prop := Lib.TabIs Tryz.prog w "internal/strconv.uint64pow10" .u64 Lib.pow10Tab
theorem below_grown (w : World) (k : Nat) (os : Array Obj) : Below w.heap.size w (Go.Sort.grow (w.drewN k) os) :=
  ⟨rfl, rfl, rfl, by simp [Go.Sort.grow], fun i hi => by
    have : (w.drewN k).heap = w.heap := rfl
    simp [Go.Sort.grow, Array.getElem?_append, hi]⟩
theorem Pows.lt {w : World} (h : Pows w) : 6 < w.heap.size := by
  have hg := World.var?_cell (P := Tryz.prog) (show Tryz.prog.globalNamed "internal/strconv.uint64pow10" = some 6 by kernel_rfl) h 0
  rcases Nat.lt_or_ge 6 w.heap.size with hl | hl
  · exact hl
  · simp [World.cell?, Array.getElem?_eq_none hl, Lib.pow10Tab] at hg
theorem Pows.below {w w' : World} (h : Pows w) (hb : Below w.heap.size w w') : Pows w' := by
  have hb' := hb.block _ h.lt
  unfold Pows Lib.TabIs at *
  rw [← h]
  unfold World.var?
  rw [show Tryz.prog.globalNamed "internal/strconv.uint64pow10" = some 6 by kernel_rfl]
  simp only [Option.bind_some]
  rw [hb']
theorem cut_first (l : List UInt8) : ({ data := (49 :: l).toArray } : ByteArray).extract 1 (l.length + 1) = ⟨l.toArray⟩ := by
  apply ByteArray.ext
  rw [ByteArray.data_extract]
  apply Array.toList_inj.1
  simp
theorem ret_string {a b : ByteArray} (h : a = b) : Ending.returned (.string a) = .returned (.string b) := by rw [h]

set_option maxRecDepth 20000 in
set_option maxHeartbeats 1000000 in
theorem padded_any (n top : Nat) (l : List UInt8) (ht : top + n < 100000) (h : Lib.itoa ((top : Int) + (n : Int)) = 49 :: l) (w : World) (hp : Pows w) :
    Calls Tryz.prog 135 #[.int .i64 n, .int .i64 top] w fun e w' => e = .returned (.string ⟨l.toArray⟩) ∧ Below w.heap.size w w' := by
  have hI := Tryz.strconv_Itoa ((top : Int) + (n : Int)) (by omega) (by omega) w hp
  rw [h] at hI
  have hb : ∀ k os, Below w.heap.size w (Go.Sort.grow (w.drewN k) os) := below_grown w
  go_enter Tryz.func135, Tryz.ntmps135
  go_wp2_with fail
  refine hI.mono ?_
  rintro e w1 ⟨rfl, k, os, rfl⟩
  have HB := Lib.hid (hb k os)
  clear hb
  go_wp2_with fail
  go_ret
  exact ⟨ret_string (cut_first l), HB.out⟩

theorem block_nat {n : Int} (h : 0 ≤ n) : ((n.toNat : Nat) : Int) = n := by omega
/-- A day's text. -/
def dayText (n : Int) : ByteArray := textS (cY n).toNat (cM n).toNat (cD n).toNat
theorem join_text (a b c : List UInt8) : (((({ data := a.toArray } : ByteArray) ++ { data := #[45] }) ++ { data := b.toArray }) ++ { data := #[45] }) ++ { data := c.toArray } = ⟨(a ++ 45 :: (b ++ 45 :: c)).toArray⟩ := by
  apply ByteArray.ext
  apply Array.toList_inj.1
  simp [ByteArray.data_append]

set_option maxRecDepth 20000 in
set_option maxHeartbeats 1000000 in
theorem DText_any (n : Int) (h0 : 0 ≤ n) (h1 : n ≤ 3652058) (w : World) (hw : Lens w) (hp : Pows w) :
    Calls Tryz.prog 80 #[.int .i32 n] w fun e w' => e = .returned (.string (dayText n)) ∧ Below w.heap.size w w' := by
  obtain ⟨y1, y2, m1, m2, d1, d2, d3⟩ := civ_in n h0 h1
  have hC := DCivil_any n w h0 h1 hw
  unfold dayText
  obtain ⟨Y, hY⟩ : ∃ Y : Nat, cY n = (Y : Int) := ⟨(cY n).toNat, by omega⟩
  obtain ⟨M, hM⟩ : ∃ M : Nat, cM n = (M : Int) := ⟨(cM n).toNat, by omega⟩
  obtain ⟨D, hD⟩ : ∃ D : Nat, cD n = (D : Int) := ⟨(cD n).toNat, by omega⟩
  rw [hY, hM, hD] at hC ⊢
  rw [hY] at y1 y2
  rw [hM] at m1 m2
  rw [hD] at d1 d3
  rw [Int.toNat_natCast, Int.toNat_natCast, Int.toNat_natCast]
  unfold textS textL
  have pY := fun W (hW : Pows W) => padded_any Y 10000 (pad4 Y) (by omega) (itoa_five Y (by omega)) W hW
  have pM := fun W (hW : Pows W) => padded_any M 100 (pad2 M) (by omega) (itoa_three M (by omega)) W hW
  have pD := fun W (hW : Pows W) => padded_any D 100 (pad2 D) (by omega) (itoa_three D (by omega)) W hW
  have HJ := Lib.hid (join_text (pad4 Y) (pad2 M) (pad2 D))
  have HP := Lib.hid hp
  have lA : (pad4 Y).length ≤ 4 := Nat.le_refl _
  have lB : (pad2 M).length ≤ 2 := Nat.le_refl _
  have lC : (pad2 D).length ≤ 2 := Nat.le_refl _
  generalize pad4 Y = A at *
  generalize pad2 M = B at *
  generalize pad2 D = C at *
  clear hY hM hD d2 hp
  go_enter Tryz.func80, Tryz.ntmps80
  go_wp2_with fail
  refine hC.mono ?_
  rintro e w1 ⟨rfl, hb1⟩
  go_wp2_with fail
  have HB0 := Lib.hid (hb1.alloc hb1.size (.cells #[.int .i64 (Y : Int), .int .i64 (M : Int), .int .i64 (D : Int)] 153))
  obtain ⟨W0, hw0⟩ : ∃ W, w1.alloc (.cells #[.int .i64 (Y : Int), .int .i64 (M : Int), .int .i64 (D : Int)] 153) = W := ⟨_, rfl⟩
  obtain ⟨b0, b1, b2⟩ := box3 hw0
  rw [hw0] at HB0 ⊢
  have AY := fun (dd : Nat) (os : Array Obj) => Calls.regrown_of (pY (Go.Sort.grow (redrawn W0 dd) os) ((HP.out.below HB0.out).below (below_regrown W0 dd os)))
  have AM := fun (dd : Nat) (os : Array Obj) => Calls.regrown_of (pM (Go.Sort.grow (redrawn W0 dd) os) ((HP.out.below HB0.out).below (below_regrown W0 dd os)))
  have AD := fun (dd : Nat) (os : Array Obj) => Calls.regrown_of (pD (Go.Sort.grow (redrawn W0 dd) os) ((HP.out.below HB0.out).below (below_regrown W0 dd os)))
  clear hw0 hb1 pY pM pD hC
  refine wp_region_quiet_below (by kernel_rfl) (by kernel_rfl) ?_
  repeat (go_big_quiet_step (fail))
  go_big_quiet_step (exact AY _ _)
  repeat (go_big_quiet_step (fail))
  go_big_quiet_step (exact AM _ _)
  repeat (go_big_quiet_step (fail))
  go_big_quiet_step (exact AD _ _)
  repeat (go_big_quiet_step (fail))
  refine wpQuiet_nil ?_
  intro w9 hw'
  have hbx : Below W0.heap.size W0 w9 := by
    obtain ⟨p, rfl⟩ := hw'
    exact below_regrown _ _ _
  clear hw' AY AM AD b0 b1 b2
  go_wp2_with fail
  go_ret
  exact ⟨ret_string (HJ.out), HB0.out.trans (hbx.mono HB0.out.size)⟩
end Go.Proofs.YtpbfipeinblfgaaGreatDoor
