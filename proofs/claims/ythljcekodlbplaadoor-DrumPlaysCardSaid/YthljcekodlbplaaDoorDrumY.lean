/-
  layer 1's awake: the document's example. No condition.
-/
import Derived.Test.YthljcekodlbplaaDoorDrumX
import Derived.Test.YthljcekodlbplaaDoorSame
import Derived.Lib.SlBytesConst
namespace Go.Proofs.YthljcekodlbplaaDoor
open Go.RowKit

theorem rb_one (w : World) (b : Bool) (t : TypeId) : Rb (w.alloc (.cells #[.bool b] t)) (w.heap.size + 1) (some ⟨w.heap.size, 0, none⟩) [b] := fun _ =>
  ⟨w.heap.size, 0, rfl, by omega, fun j u hu => by
    rcases j with _ | j
    · simp only [List.getElem?_cons_zero, Option.some.injEq] at hu
      subst hu
      simp [go_sem]
    · simp at hu⟩
theorem rd_two (w : World) (a b : UInt8) (fr : Nat × Nat) : Rd (w.alloc (.cells #[.int .u8 (a.toNat : Int), .int .u8 (b.toNat : Int)] 5 fr)) (w.heap.size + 1) (some ⟨w.heap.size, 0, none⟩) [a, b] := fun _ =>
  ⟨w.heap.size, 0, rfl, by omega, fun j u hu => by
    rw [Nat.zero_add, World.cell?_alloc_mark]
    rcases j with _ | _ | j
    · simp only [List.getElem?_cons_zero, Option.some.injEq] at hu
      subst hu
      rfl
    · simp only [Nat.zero_add, List.getElem?_cons_succ, List.getElem?_cons_zero, Option.some.injEq] at hu
      subst hu
      rfl
    · simp at hu⟩
set_option maxRecDepth 20000 in
set_option maxHeartbeats 2000000 in
theorem awake1_any (w : World) : Calls Tryd.prog 4 #[] w fun e w' => e = .returned (.bool true) ∧ Below w.heap.size w w' := by
  have kc := fun (w : World) (C : Array Value) (n c : Nat) => Lib.run_convert_bytes_const (P := Tryd.prog) w 31 5 C n c Tryd.underlying31 Tryd.underlying5
  go_enter Tryd.func4, Tryd.ntmps4
  go_wp2_with fail
  refine (New_dr 8 (by decide) (by decide) _).mono ?_
  rintro e w1 ⟨d, o, rfl, hd, hb1⟩
  have HD := Lib.hid hd
  have HB1 := Lib.hid hb1
  clear hd hb1
  go_wp2_with fail
  have hbw2 : Below w1.heap.size w1 (w1.alloc (.cells #[.int .u8 104, .int .u8 105] 5 (2, 3))) := (Below.refl _ w1).alloc (Nat.le_refl _) _
  obtain ⟨w2, hw2⟩ : ∃ w2, w2 = w1.alloc (.cells #[.int .u8 104, .int .u8 105] 5 (2, 3)) := ⟨_, rfl⟩
  have hr2 : Rd w2 w2.heap.size (some ⟨w1.heap.size, 0, none⟩) [104, 105] := by rw [hw2]; exact (rd_two w1 104 105 (2, 3)).more (by simp)
  rw [← hw2] at hbw2 ⊢
  have hd2 := HD.out.below hbw2
  clear hw2 kc
  refine (Write_dr hd2 (by decide) (by decide) 3 2 (by decide) (RdK.of_new hr2 (B := w1.heap.size) (fun b q e => by injection e with e; injection e with e _ _; omega) HD.out.lt) rfl (by decide) (by decide)).mono ?_
  rintro e w3 ⟨rfl, o3, hd3, hk3, ho3⟩
  have hb3 : Below w.heap.size w w3 := (HB1.out.trans (hbw2.mono HB1.out.size)).trans (hk3.below (B := w.heap.size) (by have := HB1.out.size; have := hbw2.size; omega) (fun i hi e => absurd (HD.out.ge i e) (by omega)))
  have HD3 := Lib.hid hd3
  have HB3 := Lib.hid hb3
  clear hr2 hd2 hbw2 hk3 hb3 hd3 HB1 HD
  go_wp2_with fail
  have hb4 : Below w3.heap.size w3 (w3.alloc (.cells #[.bool true] 4)) := (Below.refl _ w3).alloc (Nat.le_refl _) _
  obtain ⟨w4, hw4⟩ : ∃ w4, w4 = w3.alloc (.cells #[.bool true] 4) := ⟨_, rfl⟩
  have hr4 : Rb w4 w4.heap.size (some ⟨w3.heap.size, 0, none⟩) [true] := by rw [hw4]; exact (rb_one w3 true 4).more (by simp)
  rw [← hw4] at hb4 ⊢
  clear hw4
  refine (Fall_dr (HD3.out.below hb4) 1 w4.heap.size [true] hr4 (Nat.le_refl _) rfl (by decide) 1).mono ?_
  rintro e w5 ⟨d5, o5, rfl, hd5, hb5⟩
  have HD5 := Lib.hid hd5
  have HB5 : Hid (Below w.heap.size w w5) := Lib.hid (HB3.out.trans ((hb4.trans (hb5.mono hb4.size)).mono HB3.out.size))
  clear hd5 hb5 hb4 hr4 HB3 HD3
  go_wp2_with fail
  refine (Read_dr HD5.out 3 (by decide)).mono ?_
  rintro e w6 ⟨rfl, hb6, hw6⟩
  have HB6 : Hid (Below w.heap.size w w6) := Lib.hid (HB5.out.trans (hw6.mono HB5.out.size))
  have c0 : w6.cell? ⟨w5.heap.size, 0, none⟩ = some (.int .u8 104) := by rw [hb6.cell]; kernel_rfl
  have c1 : w6.cell? ⟨w5.heap.size, 1, none⟩ = some (.int .u8 0) := by rw [hb6.cell]; kernel_rfl
  clear hb6 hw6 HB5 HD5
  go_wp2
  go_ret
  exact ⟨rfl, HB6.out⟩
end Go.Proofs.YthljcekodlbplaaDoor
