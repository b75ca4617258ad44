/-
  The reference's Read of any short text. No condition.
-/
import Derived.Test.YtclmhgaggminpaaDoorReadM
import Derived.Test.YtclmhgaggminpaaDoorReadN
import Derived.StillTailTactics
import Derived.Deep.RegionHeld3
namespace Go.Proofs.YtclmhgaggminpaaDoor
open Go.RowKit

theorem step_cells {L : List UInt8} {i k : Nat} (hi : i < 10) (h47 : ¬ (i = 4 ∨ i = 7)) (hk : k = if i ≤ 4 then 0 else if i ≤ 7 then 1 else 2) (hok : okN L i = true) :
    ∃ v : Int, (#[Value.int .i64 (rdN L i).1, .int .i64 (rdN L i).2.1, .int .i64 (rdN L i).2.2] : Array Value)[k]? = some (.int .i64 v) ∧ 0 ≤ v ∧ v ≤ 10000000000 ∧
      (#[Value.int .i64 (rdN L i).1, .int .i64 (rdN L i).2.1, .int .i64 (rdN L i).2.2] : Array Value).setIfInBounds k (.int .i64 (10 * v + (((L.getD i 0).toNat : Int) - 48))) = #[.int .i64 (rdN L (i + 1)).1, .int .i64 (rdN L (i + 1)).2.1, .int .i64 (rdN L (i + 1)).2.2] ∧
      k + 0 = if i + 1 ≤ 4 then 0 else if i + 1 ≤ 7 then 1 else 2 := by
  obtain ⟨⟨a0, a1⟩, ⟨b0, b1⟩, ⟨c0, c1⟩⟩ := rdN_bd i (by omega) hok
  have e : rdN L (i + 1) = if i < 4 then (10 * (rdN L i).1 + (((L.getD i 0).toNat : Int) - 48), (rdN L i).2.1, (rdN L i).2.2)
      else if i < 7 then ((rdN L i).1, 10 * (rdN L i).2.1 + (((L.getD i 0).toNat : Int) - 48), (rdN L i).2.2)
      else ((rdN L i).1, (rdN L i).2.1, 10 * (rdN L i).2.2 + (((L.getD i 0).toNat : Int) - 48)) := by
    simp only [rdN]
    rw [if_neg h47]
  rcases (show i < 4 ∨ (4 < i ∧ i < 7) ∨ 7 < i by omega) with h | ⟨h, h'⟩ | h
  · rw [if_pos (by omega)] at hk
    subst hk
    rw [e, if_pos h]
    exact ⟨_, rfl, a0, a1, rfl, by rw [if_pos (by omega)]⟩
  · rw [if_neg (by omega), if_pos (by omega)] at hk
    subst hk
    rw [e, if_neg (by omega), if_pos h']
    exact ⟨_, rfl, b0, b1, rfl, by rw [if_neg (by omega), if_pos (by omega)]⟩
  · rw [if_neg (by omega), if_neg (by omega)] at hk
    subst hk
    rw [e, if_neg (by omega), if_neg (by omega)]
    exact ⟨_, rfl, c0, c1, rfl, by rw [if_neg (by omega), if_neg (by omega)]⟩
theorem four_lt {s : ByteArray} (h : s.size = 10) : 4 < s.size := by omega
theorem seven_lt {s : ByteArray} (h : s.size = 10) : 7 < s.size := by omega
theorem byte_at (s : ByteArray) (i : Nat) (h : i < s.size) : s.data.toList.getD i 0 = s[i] := by
  have h' : i < s.data.size := h
  simp only [List.getD, Array.getElem?_toList]
  rw [Array.getElem?_eq_getElem h']
  rfl

set_option maxRecDepth 20000 in
set_option maxHeartbeats 2000000 in
theorem RRead_any (s : ByteArray) (hl : s.size ≤ 20) (w : World) :
    Calls Tryd.prog 17 #[.string s] w fun e w' => e = .returned (.int .i64 (rdL s.data.toList)) ∧ Below w.heap.size w w' := by
  have hlen : s.data.toList.length = s.size := by simp
  by_cases hz : s.size = 10
  case neg =>
    have hz1 : ((s.size : Int) == 10) = false := by rw [beq_eq_false_iff_ne]; omega
    have hz2 : ((s.size : Int) != 10) = true := by rw [bne_iff_ne]; omega
    have hR : rdL s.data.toList = -1 := by unfold rdL; rw [if_neg]; rintro ⟨h, _⟩; omega
    rw [hR]
    clear hR
    go_enter Tryd.func17, Tryd.ntmps17
    go_wp2_with fail
    go_ret
    exact ⟨rfl, Below.refl _ _⟩
  have g4 := byte_at s 4 (by omega)
  have g7 := byte_at s 7 (by omega)
  have hzz : (s.size : Int) = 10 := by omega
  by_cases h4 : (s[4]'(four_lt hz)).toNat = 45
  case neg =>
    have hR : rdL s.data.toList = -1 := by unfold rdL; rw [if_neg]; rintro ⟨_, h, _⟩; rw [g4] at h; omega
    have q4 : (((s[4]'(four_lt hz)).toNat : Int) != 45) = true := by rw [bne_iff_ne]; omega
    have p4 : ¬ (((s[4]'(four_lt hz)).toNat : Int)) = 45 := by omega
    rw [hR]
    clear hR g4 g7 h4
    go_enter Tryd.func17, Tryd.ntmps17
    go_wp2_with fail
    go_ret
    exact ⟨rfl, Below.refl _ _⟩
  by_cases h7 : (s[7]'(seven_lt hz)).toNat = 45
  case neg =>
    have hR : rdL s.data.toList = -1 := by unfold rdL; rw [if_neg]; rintro ⟨_, _, h, _⟩; rw [g7] at h; omega
    have q4 : (((s[4]'(four_lt hz)).toNat : Int) != 45) = false := by rw [h4]; rfl
    have p4 : (((s[4]'(four_lt hz)).toNat : Int)) = 45 := by rw [h4]; rfl
    have q7 : (((s[7]'(seven_lt hz)).toNat : Int) != 45) = true := by rw [bne_iff_ne]; omega
    have p7 : ¬ (((s[7]'(seven_lt hz)).toNat : Int)) = 45 := by omega
    rw [hR]
    clear hR g4 g7 h4 h7
    go_enter Tryd.func17, Tryd.ntmps17
    go_wp2_with fail
    go_ret
    exact ⟨rfl, Below.refl _ _⟩
  have G4 := Lib.hid (g4 ▸ h4 : (s.data.toList.getD 4 0).toNat = 45)
  have G7 := Lib.hid (g7 ▸ h7 : (s.data.toList.getD 7 0).toNat = 45)
  have q4 : (((s[4]'(four_lt hz)).toNat : Int) != 45) = false := by rw [h4]; rfl
  have p4 : (((s[4]'(four_lt hz)).toNat : Int)) = 45 := by rw [h4]; rfl
  have q7 : (((s[7]'(seven_lt hz)).toNat : Int) != 45) = false := by rw [h7]; rfl
  have p7 : (((s[7]'(seven_lt hz)).toNat : Int)) = 45 := by rw [h7]; rfl
  clear g4 g7 h4 h7
  obtain ⟨L, hL⟩ : ∃ L, s.data.toList = L := ⟨_, rfl⟩
  have HLEN := Lib.hid (hlen.trans hz)
  clear hlen
  rw [hL] at G4 G7 HLEN ⊢
  have HB := Lib.hid (fun (i : Nat) (h : i < s.size) => hL ▸ byte_at s i h : ∀ (i : Nat) (h : i < s.size), L.getD i 0 = s[i])
  clear hL
  go_enter Tryd.func17, Tryd.ntmps17
  go_wp2_with fail
  clear p4 p7 q4 q7
  go_loopw [4, 5] (fun kk ii wr => ∃ i k : Nat, i ≤ 10 ∧ k ≤ 2 ∧ ii = .int .i64 i ∧ kk = .int .i64 k ∧ Hid (k = if i ≤ 4 then 0 else if i ≤ 7 then 1 else 2) ∧ Hid (okN L i = true) ∧ Hid (Blk wr w.heap.size 3 #[.int .i64 (rdN L i).1, .int .i64 (rdN L i).2.1, .int .i64 (rdN L i).2.2]) ∧ Hid (Below w.heap.size w wr)) (fun _ ii _ => 10 - (intOf ii).toNat)
  case atStart => exact ⟨0, 0, by omega, by omega, rfl, rfl, Lib.hid rfl, Lib.hid rfl, Lib.hid (Blk.new w _ _), Lib.hid ((Below.refl _ _).alloc (Nat.le_refl _) _)⟩
  case round =>
    obtain ⟨i, k, hi, hk, rfl, rfl, HK, HOK, HBK, HBL⟩ := hrel
    by_cases hlt : i < 10
    · by_cases h47 : i = 4 ∨ i = 7
      · have e1 : rdN L (i + 1) = rdN L i := by simp only [rdN]; rw [if_pos h47]
        have e2 : okN L (i + 1) = true := by simp only [okN]; rw [HOK.out, decide_eq_true h47]; rfl
        have e3 : k + 1 = if i + 1 ≤ 4 then 0 else if i + 1 ≤ 7 then 1 else 2 := by rw [HK.out]; rcases h47 with rfl | rfl <;> rfl
        have E1 := Lib.hid e1
        have E2 := Lib.hid e2
        have E3 := Lib.hid e3
        have hk2 : k + 1 ≤ 2 := by rw [e3]; split <;> (try split) <;> omega
        clear e1 e2 e3
        rcases h47 with rfl | rfl
        all_goals
          go_wp2_with fail
          go_roundw
          case rel => first | exact ⟨4 + 1, k + 1, by omega, hk2, rfl, by go_num, E3, E2, Lib.hid (by rw [E1.out]; exact HBK.out), HBL⟩ | exact ⟨7 + 1, k + 1, by omega, hk2, rfl, by go_num, E3, E2, Lib.hid (by rw [E1.out]; exact HBK.out), HBL⟩
          case measure => simp [intOf]
      · have hb := HB.out i (by omega)
        have n4 : ((i : Int) == 4) = false := by rw [beq_eq_false_iff_ne]; omega
        have n7 : ((i : Int) == 7) = false := by rw [beq_eq_false_iff_ne]; omega
        have m4 : ¬ (i : Int) = 4 := by omega
        have m7 : ¬ (i : Int) = 7 := by omega
        have his : i < s.size := by omega
        by_cases hd : 48 ≤ (s[i]'his).toNat ∧ (s[i]'his).toNat ≤ 57
        · obtain ⟨d0, d1⟩ := hd
          have d0' : 48 ≤ ((s[i]'his).toNat : Int) := by omega
          have d1' : ((s[i]'his).toNat : Int) ≤ 57 := by omega
          have e2 : okN L (i + 1) = true := by simp only [okN]; rw [HOK.out, hb, decide_eq_true (⟨d0, d1⟩ : 48 ≤ (s[i]'his).toNat ∧ (s[i]'his).toNat ≤ 57)]; simp
          have E2 := Lib.hid e2
          obtain ⟨v, hv, v0, v1, hset, hkk⟩ := step_cells hlt h47 HK.out HOK.out
          rw [hb] at hset
          have HSET := Lib.hid hset
          have HKK := Lib.hid hkk
          have HE := Lib.hid hb
          have k3 : (k : Int) < 3 := by omega
          clear e2 hset hkk hb h47
          go_wp2_with fail
          obtain ⟨W3, hW3⟩ : ∃ W, wr.drew = W := ⟨_, rfl⟩
          have kb : Blk W3 w.heap.size 3 #[.int .i64 (rdN L i).1, .int .i64 (rdN L i).2.1, .int .i64 (rdN L i).2.2] := by rw [← hW3]; exact HBK.out
          have hb3 : Below w.heap.size w W3 := by rw [← hW3]; exact HBL.out.drew
          have HKB := Lib.hid kb
          have HB3 := Lib.hid hb3
          have c0 := (kb.cell k).trans hv
          have f0 := kb.frozen k
          clear kb hb3 hv
          refine wp_region_still_tail 13 (by kernel_rfl) (by kernel_rfl) ?_
          simp only [List.take_succ_cons, List.take_zero, List.drop_succ_cons, List.drop_zero]
          change wpStill _ _ wr.drew _ _ _
          rw [hW3]
          change wpStill _ _ W3 (fun a' => wpList _ _ _ _ a' wr.drew) _ _
          rw [hW3]
          clear hW3
          iterate 13 still_step
          refine wpStill_nil ?_
          go_wp2_with fail
          go_roundw
          case rel => exact ⟨i + 1, k, by omega, hk, by go_num, rfl, Lib.hid HKK.out, E2, Lib.hid (by rw [← HSET.out]; exact HKB.out.set_ k _), Lib.hid (HB3.out.setCell (Nat.le_refl _) _)⟩
          case measure => simp [intOf]; omega
        · have e2 : okN L 10 = false := okN_end (show i + 1 ≤ 10 by omega) (by simp only [okN]; rw [HOK.out, hb, decide_eq_false hd, decide_eq_false h47]; rfl)
          have hR : rdL L = -1 := by unfold rdL; rw [if_neg]; rintro ⟨_, _, _, h, _⟩; rw [e2] at h; cases h
          have E := Lib.hid hR
          have hd' : ((s[i]'his).toNat : Int) < 48 ∨ 57 < ((s[i]'his).toNat : Int) := by omega
          clear e2 hR hd hb
          rcases hd' with hd' | hd'
          · go_wp2_with fail
            go_ret
            exact ⟨by rw [E.out]; rfl, HBL.out⟩
          · have hd2 : ¬ ((s[i]'his).toNat : Int) < 48 := by omega
            go_wp2_with fail
            go_ret
            exact ⟨by rw [E.out]; rfl, HBL.out⟩
    · obtain rfl : i = 10 := by omega
      have hR : rdL L = if rightB (rdN L 10).1 (rdN L 10).2.1 (rdN L 10).2.2 = true then num (rdN L 10).1 (rdN L 10).2.1 (rdN L 10).2.2 else -1 := by
        unfold rdL
        by_cases hr : rightB (rdN L 10).1 (rdN L 10).2.1 (rdN L 10).2.2 = true
        · rw [if_pos ⟨HLEN.out, G4.out, G7.out, HOK.out, hr⟩, if_pos hr]
        · rw [if_neg hr, if_neg (fun h => hr h.2.2.2.2)]
      have HR := Lib.hid hR
      have hRR := fun W => RRight_any (rdN L 10).1 (rdN L 10).2.1 (rdN L 10).2.2 W
      have hNN := fun h W => RNum_any (rdN L 10).1 (rdN L 10).2.1 (rdN L 10).2.2 h W
      clear hR
      generalize (rdN L 10).1 = Y at *
      generalize (rdN L 10).2.1 = M at *
      generalize (rdN L 10).2.2 = D at *
      have c0 := HBK.out.cell 0
      have c1 := HBK.out.cell 1
      have c2 := HBK.out.cell 2
      simp at c0 c1 c2
      go_wp2_with fail
      have n0 := World.new_ne wr _ c0
      have n1 := World.new_ne wr _ c1
      have n2 := World.new_ne wr _ c2
      go_region_held3 (fun W => W.cell? ⟨w.heap.size, 0, none⟩ = some (.int .i64 Y) ∧ W.cell? ⟨w.heap.size, 1, none⟩ = some (.int .i64 M) ∧ W.cell? ⟨w.heap.size, 2, none⟩ = some (.int .i64 D)) (go_keep) (fail)
      have hba := (HBL.out.alloc HBL.out.size (.cells #[.int .i64 Y, .int .i64 M, .int .i64 D] 60)).drew
      have hk4 := (Blk.new wr 60 #[.int .i64 Y, .int .i64 M, .int .i64 D]).drew
      have HBA := Lib.hid hba
      have HK4 := Lib.hid hk4
      clear hba hk4 c0 c1 c2 n0 n1 n2
      cases hr : rightB Y M D
      · have hX := hRR
        simp only [hr] at hX
        have HR2 := Lib.hid (HR.out.trans (by rw [hr]; rfl : _ = (-1 : Int)))
        clear HR hRR hNN hr
        go_wp2_with fail
        refine (hX _).mono ?_
        rintro e w4 ⟨rfl, hb4⟩
        go_wp2_with fail
        go_ret
        exact ⟨by rw [HR2.out]; rfl, HBA.out.trans (hb4.mono HBA.out.size)⟩
      · have hX := hRR
        have hN := hNN hr
        simp only [hr] at hX
        have HR2 := Lib.hid (HR.out.trans (by rw [hr]; rfl : _ = num Y M D))
        generalize num Y M D = N at HR2 hN
        clear HR hRR hNN hr
        go_wp2_with fail
        refine (hX _).mono ?_
        rintro e w4 ⟨rfl, hb4⟩
        have hk5 := HK4.out.below hb4 HK4.out.lt
        have HB4 := Lib.hid (HBA.out.trans (hb4.mono HBA.out.size))
        have c0 := hk5.cell 0
        have c1 := hk5.cell 1
        have c2 := hk5.cell 2
        simp at c0 c1 c2
        clear hb4 hk5 hX
        go_wp2_with fail
        refine (hN _).mono ?_
        rintro e w5 ⟨rfl, hb5⟩
        go_wp2_with fail
        go_ret
        exact ⟨by rw [HR2.out]; rfl, HB4.out.trans (hb5.mono HB4.out.size)⟩
end Go.Proofs.YtclmhgaggminpaaDoor
