/-
arrearslaw16.awake: the document's example. Conditions: the months' lengths, the powers of ten and two variables of the library are laid.
-/
import Derived.Test.YtpnoecjpplaicaaGreatDoorTrmE
import Derived.Test.YtpnoecjpplaicaaGreatDoorTrmG
namespace Go.Proofs.YtpnoecjpplaicaaGreatDoor
open Go.RowKit

def trm0 : Trm := ⟨1, 120000, 60000, 2, 12, 738915, 1500, 10⟩
theorem trm0_right : trm0.Right := by
  refine ⟨.inl rfl, ?_, ?_, ?_, ?_, ?_, ?_⟩
  · exact ⟨by decide, .inr rfl⟩
  all_goals (unfold trm0; dsimp only; omega)
theorem trm0_text : trm0.text = ⟨#[108, 101, 118, 101, 108, 32, 49, 50, 48, 48, 46, 48, 48, 32, 54, 48, 48, 48, 48, 32, 116, 104, 105, 114, 116, 121, 32, 49, 50, 32, 50, 48, 50, 52, 45, 48, 49, 45, 51, 49, 32, 49, 53, 46, 48, 48, 32, 49, 48]⟩ := by kernel_rfl
theorem due0 : dueD [] 738915 0 = 738944 := by
  unfold dueD
  rw [show plainD 738915 (((0 : Nat) : Int) + 1) = 738944 by kernel_rfl, nextD_yes (by omega) (by decide)]
  rfl
theorem text0229 : dayText 738944 = ⟨#[50, 48, 50, 52, 45, 48, 50, 45, 50, 57]⟩ := by kernel_rfl
theorem trm0_v : trm0.v = .agg #[.int .u8 1, .int .i64 120000, .int .u32 60000, .int .u8 2, .int .i64 12, .int .i32 738915, .int .i64 1500, .int .i64 10] := rfl
set_option maxRecDepth 100000 in
set_option maxHeartbeats 4000000 in
theorem awake16 (w : World) (hw : Lens w) (hp : Pows w) (m : Int) (hm : w.cell? ⟨5, 0, none⟩ = some (.int .i64 m)) (te : TypeId) (pe : Value) (hR : w.cell? ⟨1, 0, none⟩ = some (.iface te pe)) :
    Calls Tryz.prog 8 #[] w (Ret (.bool true) w) := by
  have cR := TRead_text trm0_right w hw hp m hm te pe hR
  rw [trm0_text, trm0_v] at cR
  obtain ⟨y, hy⟩ := lstK_any (K := 1) (R := 60000) (M := 12) (P := 120000) (by omega)
  have cD := fun W hW => Dues_any trm0_right hy none 0 0 [] W hW Rv.nil_ rfl (Nat.le_refl _) (fun v h => by cases h) (by decide)
  have e0 : Trm.v ⟨1, ((120000 : Nat) : Int), 60000, 2, ((12 : Nat) : Int), 738915, 1500, 10⟩ = .agg #[.int .u8 1, .int .i64 120000, .int .u32 60000, .int .u8 2, .int .i64 12, .int .i32 738915, .int .i64 1500, .int .i64 10] := rfl
  rw [e0] at cD
  unfold DuesPost at cD
  obtain ⟨Sm, hSm⟩ : ∃ Sm : Nat → Int, (fun k => paysTo (rowF 60000 y 120000 12) (k + 1)) = Sm := ⟨_, rfl⟩
  rw [hSm] at cD
  clear hSm hy e0
  go_enter Tryz.func8, Tryz.ntmps8
  go_wp2_with fail
  refine cR.mono ?_
  rintro e w1 ⟨rfl, hb1⟩
  have n1 := Blk.new w1 28 #[.int .u8 1, .int .i64 120000, .int .u32 60000, .int .u8 2, .int .i64 12, .int .i32 738915, .int .i64 1500, .int .i64 10]
  have b1 := hb1.alloc hb1.size (.cells #[.int .u8 1, .int .i64 120000, .int .u32 60000, .int .u8 2, .int .i64 12, .int .i32 738915, .int .i64 1500, .int .i64 10] 28)
  obtain ⟨m0, m1, m2, m3, m4, m5, m6, m7⟩ := blk8 n1
  have HB := Lib.hid b1
  have cD2 := cD _ (hw.below b1)
  simp at m0 m1 m2 m3 m4 m5 m6 m7
  clear cR cD hb1 b1 n1
  go_wp2_with fail
  refine cD2.mono ?_
  rintro e w3 ⟨g, rfl, hg, hb3, hk⟩
  have hb4 := HB.out.trans (hb3.mono HB.out.size)
  have d0 := (hk.cell (0 * 2)).trans (pairA_at _ (by omega : 0 < 12)).1
  simp only [due0] at d0
  have cT := DText_any 738944 (by omega) (by omega) w3 (hw.below hb4) (hp.below hb4)
  rw [text0229] at cT
  have HB4 := Lib.hid hb4
  clear hb4 hb3 hk hg HB cD2 m0 m1 m2 m3 m4 m5 m6 m7
  try simp at d0
  go_wp2_with fail
  refine cT.mono ?_
  rintro e w5 ⟨rfl, hb5⟩
  go_wp2_with fail
  go_ret
  exact ⟨by first | rfl | simp, HB4.out.trans (hb5.mono HB4.out.size)⟩
end Go.Proofs.YtpnoecjpplaicaaGreatDoor
