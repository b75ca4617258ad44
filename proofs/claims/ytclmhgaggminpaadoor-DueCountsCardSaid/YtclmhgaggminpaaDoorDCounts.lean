/-
  DueCounts: the walk. Conditions: the months' lengths and strconv's powers of ten are laid.
-/
import Derived.Test.YtclmhgaggminpaaDoorDueC
import Derived.Test.YtclmhgaggminpaaDoorLasts
namespace Go.Proofs.YtclmhgaggminpaaDoor
open Go.RowKit

/-- What stood last lies ahead of all that come. -/
def Ahead (s : Int) (k : Nat) (L : Int) : Prop := -2147483648 ≤ L ∧ L ≤ 3652058 ∧ ∀ j : Nat, k < j → j ≤ 480 → 0 ≤ s → s ≤ 3652058 → pT s (j : Int) < 119988 → L < plainD s (j : Int)
theorem Ahead.start (s : Int) : Ahead s 0 (-1) := ⟨by omega, by omega, fun j _ _ h0 h1 h2 => by have := plain_in h0 h1 (show (0 : Int) ≤ (j : Int) by omega) h2; omega⟩
theorem Ahead.pass {s : Int} {k : Nat} {L : Int} (h : Ahead s k L) : Ahead s (k + 1) L := ⟨h.1, h.2.1, fun j h1 h2 => h.2.2 j (by omega) h2⟩
theorem Ahead.go {s : Int} {k : Nat} (h0 : 0 ≤ s) (h1 : s ≤ 3652058) (h2 : pT s ((k + 1 : Nat) : Int) < 119988) : Ahead s (k + 1) (plainD s ((k + 1 : Nat) : Int)) := by
  have hp := plain_in h0 h1 (show (0 : Int) ≤ ((k + 1 : Nat) : Int) by omega) h2
  exact ⟨by omega, hp.2.1, fun j h3 h4 _ _ h7 => plain_rise h0 h1 (by omega) (by omega) h7⟩
theorem cnt_yes {s d : Int} {k : Nat} (h : hit s d (k + 1) = true) : cnt s d (k + 1) = cnt s d k + 1 := by simp only [cnt]; rw [h, if_pos rfl]
theorem cnt_no {s d : Int} {k : Nat} (h : hit s d (k + 1) = false) : cnt s d (k + 1) = cnt s d k := by simp only [cnt]; rw [h]; rfl

set_option maxRecDepth 20000 in
set_option maxHeartbeats 2000000 in
theorem Counts_any (s n d : Int) (w : World) (hw : Lens w) (hp : Pows w) :
    Calls Tryd.prog 3 #[.int .i32 s, .int .i64 n, .int .i32 d] w fun e w' => e = .returned (.bool true) ∧ Below w.heap.size w w' := by
  have HW := Lib.hid hw
  have HP := Lib.hid hp
  have hM := most_le n
  clear hw hp
  by_cases hn : n ≤ 480
  · have hmost : ((most n : Nat) : Int) = max n 0 ∧ True := ⟨by unfold most; omega, trivial⟩
    go_enter Tryd.func3, Tryd.ntmps3
    go_wp2_with fail
    refine (awake7 _ HW.out HP.out).mono ?_
    rintro e w1 ⟨rfl, hb1⟩
    have HB1 := Lib.hid hb1
    have HMO := Lib.hid hmost.1
    clear hb1 hmost
    go_wp2_with fail
    go_loopw [7, 8, 9] (fun t l i wr => ∃ (k : Nat) (L : Int), k ≤ most n ∧ i = .int .i64 ((k : Int) + 1) ∧ t = .int .i64 (cnt s d k : Nat) ∧ l = .int .i32 L ∧ Hid (Ahead s k L) ∧ Below w.heap.size w wr) (fun _ _ i _ => 482 - (intOf i).toNat)
    case atStart => exact ⟨0, -1, Nat.zero_le _, rfl, rfl, rfl, Lib.hid (Ahead.start s), HB1.out⟩
    case round =>
      obtain ⟨k, L, hk, rfl, rfl, rfl, HA, hbl⟩ := hrel
      have HBL := Lib.hid hbl
      have hcl := cnt_le s d k
      have hA1 := HA.out.1
      have hA2 := HA.out.2.1
      clear hbl
      by_cases hlt : k < most n
      · have ht : (k : Int) + 1 ≤ n := by have := HMO.out; omega
        have hs := Lib.hid hk
        clear hk
        by_cases hs : s < 0 ∨ 3652058 < s
        · have hC := fun W => Plain_arg s ((k : Int) + 1) (by omega) W
          have HH := Lib.hid (cnt_no (d := d) (k := k) (hit_no hs))
          clear hs
          go_wp2_with fail
          refine (hC _).mono ?_
          rintro e w2 ⟨rfl, hb2⟩
          go_wp2_with fail
          go_roundw
          case rel => exact ⟨k + 1, L, by omega, by go_num, by rw [HH.out], rfl, Lib.hid HA.out.pass, HBL.out.trans (hb2.mono HBL.out.size)⟩
          case measure => simp [intOf]; omega
        · have h0 : 0 ≤ s := by omega
          have h1 : s ≤ 3652058 := by omega
          have hk480 : k + 1 ≤ 480 := by omega
          by_cases hp : pT s ((k + 1 : Nat) : Int) < 119988
          · have hC := Plain_ok s ((k + 1 : Nat) : Int) h0 h1 (by omega) (by omega) hp wr (HW.out.below HBL.out)
            have hL := HA.out.2.2 (k + 1) (by omega) hk480 h0 h1 hp
            have hpi := plain_in h0 h1 (show (0 : Int) ≤ ((k + 1 : Nat) : Int) by omega) hp
            have hp0 := hpi.1
            have hp1 := hpi.2.1
            have HG := Lib.hid (Ahead.go (k := k) h0 h1 hp)
            have HX := Lib.hid (hit_at (d := d) h0 h1 hp)
            rw [show ((k + 1 : Nat) : Int) = (k : Int) + 1 by omega] at hC HG HX hL hp0 hp1
            obtain ⟨X, hX⟩ : ∃ X, plainD s ((k : Int) + 1) = X := ⟨_, rfl⟩
            rw [hX] at hC HG HX hL hp0 hp1
            have hnl : ¬ X ≤ L := by omega
            clear hX hp hs hpi hlt
            by_cases hx : X ≤ d
            · have HH := Lib.hid (cnt_yes (s := s) (d := d) (k := k) (by rw [HX.out]; exact decide_eq_true hx))
              go_wp2_with fail
              refine hC.mono ?_
              rintro e w2 ⟨rfl, hb2⟩
              go_wp2_with fail
              go_roundw
              case rel => exact ⟨k + 1, X, by have := HMO.out; omega, by go_num, by rw [HH.out]; go_num, rfl, Lib.hid HG.out, HBL.out.trans (hb2.mono HBL.out.size)⟩
              case measure => simp [intOf]; omega
            · have HH := Lib.hid (cnt_no (s := s) (d := d) (k := k) (by rw [HX.out]; exact decide_eq_false hx))
              go_wp2_with fail
              refine hC.mono ?_
              rintro e w2 ⟨rfl, hb2⟩
              go_wp2_with fail
              go_roundw
              case rel => exact ⟨k + 1, X, by have := HMO.out; omega, by go_num, by rw [HH.out], rfl, Lib.hid HG.out, HBL.out.trans (hb2.mono HBL.out.size)⟩
              case measure => simp [intOf]; omega
          · have hC := Plain_over s ((k + 1 : Nat) : Int) h0 h1 (by omega) (by omega) (by omega) wr (HW.out.below HBL.out)
            rw [show ((k + 1 : Nat) : Int) = (k : Int) + 1 by omega] at hC
            have HH := Lib.hid (cnt_no (s := s) (d := d) (k := k) (hit_over (by omega)))
            clear hp hs
            go_wp2_with fail
            refine hC.mono ?_
            rintro e w2 ⟨rfl, hb2⟩
            go_wp2_with fail
            go_roundw
            case rel => exact ⟨k + 1, L, by omega, by go_num, by rw [HH.out], rfl, Lib.hid HA.out.pass, HBL.out.trans (hb2.mono HBL.out.size)⟩
            case measure => simp [intOf]; omega
      · have ht : ¬ (k : Int) + 1 ≤ n := by have := HMO.out; omega
        have hkm : k = most n := by omega
        have hC := Count_any s n d wr (HW.out.below HBL.out)
        rw [← hkm] at hC
        clear hkm hlt hM hk
        go_wp2_with fail
        refine hC.mono ?_
        rintro e w2 ⟨rfl, hb2⟩
        go_wp2_with fail
        go_ret
        exact ⟨ret_bool (by simp), HBL.out.trans (hb2.mono HBL.out.size)⟩
  · have hmost : ((most n : Nat) : Int) = 480 ∧ True := ⟨by unfold most; omega, trivial⟩
    go_enter Tryd.func3, Tryd.ntmps3
    go_wp2_with fail
    refine (awake7 _ HW.out HP.out).mono ?_
    rintro e w1 ⟨rfl, hb1⟩
    have HB1 := Lib.hid hb1
    have HMO := Lib.hid hmost.1
    clear hb1 hmost
    go_wp2_with fail
    go_loopw [7, 8, 9] (fun t l i wr => ∃ (k : Nat) (L : Int), k ≤ most n ∧ i = .int .i64 ((k : Int) + 1) ∧ t = .int .i64 (cnt s d k : Nat) ∧ l = .int .i32 L ∧ Hid (Ahead s k L) ∧ Below w.heap.size w wr) (fun _ _ i _ => 482 - (intOf i).toNat)
    case atStart => exact ⟨0, -1, Nat.zero_le _, rfl, rfl, rfl, Lib.hid (Ahead.start s), HB1.out⟩
    case round =>
      obtain ⟨k, L, hk, rfl, rfl, rfl, HA, hbl⟩ := hrel
      have HBL := Lib.hid hbl
      have hcl := cnt_le s d k
      have hA1 := HA.out.1
      have hA2 := HA.out.2.1
      clear hbl
      by_cases hlt : k < most n
      · have ht : (k : Int) + 1 ≤ 480 := by have := HMO.out; omega
        have hs := Lib.hid hk
        clear hk
        by_cases hs : s < 0 ∨ 3652058 < s
        · have hC := fun W => Plain_arg s ((k : Int) + 1) (by omega) W
          have HH := Lib.hid (cnt_no (d := d) (k := k) (hit_no hs))
          clear hs
          go_wp2_with fail
          refine (hC _).mono ?_
          rintro e w2 ⟨rfl, hb2⟩
          go_wp2_with fail
          go_roundw
          case rel => exact ⟨k + 1, L, by omega, by go_num, by rw [HH.out], rfl, Lib.hid HA.out.pass, HBL.out.trans (hb2.mono HBL.out.size)⟩
          case measure => simp [intOf]; omega
        · have h0 : 0 ≤ s := by omega
          have h1 : s ≤ 3652058 := by omega
          have hk480 : k + 1 ≤ 480 := by omega
          by_cases hp : pT s ((k + 1 : Nat) : Int) < 119988
          · have hC := Plain_ok s ((k + 1 : Nat) : Int) h0 h1 (by omega) (by omega) hp wr (HW.out.below HBL.out)
            have hL := HA.out.2.2 (k + 1) (by omega) hk480 h0 h1 hp
            have hpi := plain_in h0 h1 (show (0 : Int) ≤ ((k + 1 : Nat) : Int) by omega) hp
            have hp0 := hpi.1
            have hp1 := hpi.2.1
            have HG := Lib.hid (Ahead.go (k := k) h0 h1 hp)
            have HX := Lib.hid (hit_at (d := d) h0 h1 hp)
            rw [show ((k + 1 : Nat) : Int) = (k : Int) + 1 by omega] at hC HG HX hL hp0 hp1
            obtain ⟨X, hX⟩ : ∃ X, plainD s ((k : Int) + 1) = X := ⟨_, rfl⟩
            rw [hX] at hC HG HX hL hp0 hp1
            have hnl : ¬ X ≤ L := by omega
            clear hX hp hs hpi hlt
            by_cases hx : X ≤ d
            · have HH := Lib.hid (cnt_yes (s := s) (d := d) (k := k) (by rw [HX.out]; exact decide_eq_true hx))
              go_wp2_with fail
              refine hC.mono ?_
              rintro e w2 ⟨rfl, hb2⟩
              go_wp2_with fail
              go_roundw
              case rel => exact ⟨k + 1, X, by have := HMO.out; omega, by go_num, by rw [HH.out]; go_num, rfl, Lib.hid HG.out, HBL.out.trans (hb2.mono HBL.out.size)⟩
              case measure => simp [intOf]; omega
            · have HH := Lib.hid (cnt_no (s := s) (d := d) (k := k) (by rw [HX.out]; exact decide_eq_false hx))
              go_wp2_with fail
              refine hC.mono ?_
              rintro e w2 ⟨rfl, hb2⟩
              go_wp2_with fail
              go_roundw
              case rel => exact ⟨k + 1, X, by have := HMO.out; omega, by go_num, by rw [HH.out], rfl, Lib.hid HG.out, HBL.out.trans (hb2.mono HBL.out.size)⟩
              case measure => simp [intOf]; omega
          · have hC := Plain_over s ((k + 1 : Nat) : Int) h0 h1 (by omega) (by omega) (by omega) wr (HW.out.below HBL.out)
            rw [show ((k + 1 : Nat) : Int) = (k : Int) + 1 by omega] at hC
            have HH := Lib.hid (cnt_no (s := s) (d := d) (k := k) (hit_over (by omega)))
            clear hp hs
            go_wp2_with fail
            refine hC.mono ?_
            rintro e w2 ⟨rfl, hb2⟩
            go_wp2_with fail
            go_roundw
            case rel => exact ⟨k + 1, L, by omega, by go_num, by rw [HH.out], rfl, Lib.hid HA.out.pass, HBL.out.trans (hb2.mono HBL.out.size)⟩
            case measure => simp [intOf]; omega
      · have ht : ¬ (k : Int) + 1 ≤ 480 := by have := HMO.out; omega
        have hkm : k = most n := by omega
        have hC := Count_any s n d wr (HW.out.below HBL.out)
        rw [← hkm] at hC
        clear hkm hlt hM hk
        go_wp2_with fail
        refine hC.mono ?_
        rintro e w2 ⟨rfl, hb2⟩
        go_wp2_with fail
        go_ret
        exact ⟨ret_bool (by simp), HBL.out.trans (hb2.mono HBL.out.size)⟩
end Go.Proofs.YtclmhgaggminpaaDoor
