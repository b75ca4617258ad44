/-
  CoinSums: the walk. Conditions: the numbers are there; errors.errorType is laid; the document's example holds.
-/
import Derived.Test.YthbifpmjkaonnaaGreatDoorCSumA
import Derived.Test.YthbifpmjkaonnaaGreatDoorCodeC
namespace Go.Proofs.YthbifpmjkaonnaaGreatDoor
open Go.RowKit Go.BigFrame

def Sd (x y : Value) (o : Option Int) : Prop :=
  match o with
  | some s => x = .int .i64 s ∧ y = .bool true ∧ Fits s
  | Option.none => x = .int .i64 0 ∧ y = .bool false

set_option maxRecDepth 20000 in
set_option maxHeartbeats 8000000 in
theorem CSums_any (A : Option Addr) (n c : Nat) (l : List Int) (w : World) (cW : Calls Tryz.prog 5 #[] w fun e w' => e = .returned (.bool true) ∧ Below w.heap.size w w') (hw : Laid w) (hR : Rv w w.heap.size A (l.map encI)) (hn : l.length = n) (hm : n ≤ 140737488355328) (hnc : n ≤ c) (hcm : c ≤ maxLen) (hA : A = none → c = 0)
    (hl : ∀ u ∈ l, -9223372036854775808 ≤ u ∧ u ≤ 9223372036854775807) :
    Calls Tryz.prog 4 #[.slice A n c] w fun e w' => e = .returned (.bool true) ∧ Below w.heap.size w w' := by
  have HW := Lib.hid hw
  have HR := Lib.hid hR
  have HN := Lib.hid hn
  have HA := Lib.hid hA
  have HL := Lib.hid hl
  clear hw hR hn hA hl
  unfold maxLen at hcm
  obtain ⟨m, hmm⟩ : ∃ m, min n 40 = m := ⟨_, rfl⟩
  have hm40 : m ≤ 40 := by omega
  have hmn : m ≤ n := by omega
  have imin : min (n : Int) 40 = (m : Int) := by omega
  have HLm : Hid ((l.take m).length = m) := Lib.hid (by rw [List.length_take, HN.out]; omega)
  have HLb : Hid (∀ u ∈ l.take m, Fits u) := Lib.hid (fun u hu => HL.out u (List.mem_of_mem_take hu))
  clear hmm
  go_enter Tryz.func4, Tryz.ntmps4
  go_wp2_with fail
  refine cW.mono ?_
  rintro e w1 ⟨rfl, hb1⟩
  clear cW
  have HR1 : Hid (Rv (w1.alloc (.cells #[] 2)) w.heap.size A ((l.take m).map encI)) := Lib.hid (by
    have h := ((HR.out.below hb1).below ((Below.refl w.heap.size w1).alloc hb1.size (.cells #[] 2))).take m
    rw [← List.map_take] at h
    exact h)
  have HO : Hid (OwnI (w1.alloc (.cells #[] 2)) w1.heap.size (.slice (some ⟨w1.heap.size, 0, none⟩) 0 0) 0 []) := Lib.hid (World.ownsRow_lit w1 #[] 0 (Nat.le_refl _) (by decide) (by simp))
  obtain ⟨A0, hA0⟩ : ∃ B : Option Addr, B = A := ⟨_, rfl⟩
  have HA0 := Lib.hid hA0
  clear hA0
  rcases A with _ | ad
  · obtain rfl : c = 0 := HA.out rfl
    obtain rfl : n = 0 := by omega
    obtain rfl : m = 0 := by omega
    go_wp2_with (with_reducible refine wpList_appendI (o := ⟨some 20, _, _, _, _, _⟩) rfl (.tmp 14) (.tmp 19) rfl w1.heap.size (.slice (some ⟨w1.heap.size, 0, none⟩) 0 0) 0 [] ?h1 HO.out w.heap.size none 0 0 (l.take 0) ?h2 HR1.out HLm.out ?h3 ?h4 ?_)
    case h1 => rfl
    case h2 => rfl
    case h3 => omega
    case h4 => simp
    intro v' w2 hown hg
    obtain ⟨hl2, A', c', rfl, hc1, hc2, hrd⟩ := own_formI hown
    have hbw : Below w.heap.size w w2 := ((Below.refl _ _).trans hb1).trans (((Below.refl w.heap.size w1).alloc hb1.size _).grown hg (by have := hb1.size; simp; omega) (fun k hk => by have h := (World.ownsRow.lt HO.out k hk).1; have := hb1.size; omega))
    have HRd := Lib.hid hrd
    have HBW := Lib.hid hbw
    obtain ⟨l', hl'⟩ : ∃ l', l.take 0 = l' := ⟨_, rfl⟩
    have HRd : Hid (Rv w2 w2.heap.size A' (l'.map encI)) := by rw [← hl']; exact HRd
    rw [hl'] at HLm HLb
    have hc1 : 0 ≤ c' := by omega
    unfold maxLen at hc2
    clear hown hg hrd hbw hl2 hb1 HO HR1 hl' HL HN HR HA HA0 imin hmn hm hnc hcm
    go_wp2_with fail
    go_loopw [3, 23] (fun v i wr => ∃ k : Nat, k ≤ 0 ∧ i = .int .i64 k ∧ OwnC wr w2.heap.size v k (l'.take k) ∧ Below w2.heap.size w2 wr) (fun _ i _ => 0 - (intOf i).toNat)
    case atStart => exact ⟨0, Nat.zero_le _, rfl, ⟨rfl, Or.inl ⟨rfl, rfl⟩⟩, Below.refl _ _⟩
    case round =>
      obtain ⟨k, hk, rfl, hown, hbr⟩ := hrel
      by_cases hlt : k < 0
      · exact absurd hlt (Nat.not_lt_zero k)
      · obtain rfl : 0 = k := by omega
        obtain ⟨hl3, A3, c3, rfl, d1, d2, hrd3⟩ := own_formC hown
        have hfull : l'.take 0 = l' := List.take_of_length_le (by rw [HLm.out]; exact Nat.le_refl _)
        rw [hfull] at hrd3
        have hS := CSum_any A3 0 c3 wr.heap.size l' wr hrd3 HLm.out d1 d2 HLb.out
        have HRw := Lib.hid (HRd.out.below hbr)
        have HBR := Lib.hid (HBW.out.trans (hbr.mono HBW.out.size))
        have HFu := Lib.hid hfull
        unfold maxLen at d2
        clear hown hbr hrd3 hl3 HRd HBW hfull hlt hk
        cases hO : sumO l' with
        | none =>
          rw [hO] at hS
          simp only [sumV] at hS
          have HOn := Lib.hid hO
          clear hO
          go_wp2_with fail
          refine hS.mono ?_
          rintro e w9 ⟨rfl, rfl⟩
          clear hS
          go_wp2_with fail
          go_loop [8, 9, 39] (fun x y i => ∃ (j : Nat) (o : Option Int), j ≤ 0 ∧ i = .int .i64 j ∧ Hid (sumO (l'.take j) = o) ∧ Sd x y o) (fun _ _ i => 0 - (intOf i).toNat)
          case atStart => exact ⟨0, some 0, Nat.zero_le _, rfl, Lib.hid rfl, rfl, rfl, by decide⟩
          case round =>
            obtain ⟨j, o, hj, rfl, HS, hsd⟩ := hrel
            by_cases hjl : j < 0
            · exact absurd hjl (Nat.not_lt_zero j)
            obtain rfl : 0 = j := by omega
            rcases o with _ | s
            · obtain ⟨rfl, rfl⟩ := hsd
              go_wp2_with fail
              refine (Code_errno 12 _ (HW.out.below HBR.out)).mono ?_
              rintro e w10 ⟨rfl, hb10⟩
              go_wp2_with fail
              go_ret
              exact ⟨by first | rfl | simp, HBR.out.trans (hb10.mono HBR.out.size)⟩
            · obtain ⟨rfl, rfl, hs⟩ := hsd
              exact absurd (HS.out.symm.trans ((congrArg sumO HFu.out).trans HOn.out)) (by intro h; cases h)
        | some t =>
          rw [hO] at hS
          simp only [sumV] at hS
          have HOn := Lib.hid hO
          clear hO
          go_wp2_with fail
          refine hS.mono ?_
          rintro e w9 ⟨rfl, rfl⟩
          clear hS
          go_wp2_with fail
          go_loop [8, 9, 39] (fun x y i => ∃ (j : Nat) (o : Option Int), j ≤ 0 ∧ i = .int .i64 j ∧ Hid (sumO (l'.take j) = o) ∧ Sd x y o) (fun _ _ i => 0 - (intOf i).toNat)
          case atStart => exact ⟨0, some 0, Nat.zero_le _, rfl, Lib.hid rfl, rfl, rfl, by decide⟩
          case round =>
            obtain ⟨j, o, hj, rfl, HS, hsd⟩ := hrel
            by_cases hjl : j < 0
            · exact absurd hjl (Nat.not_lt_zero j)
            obtain rfl : 0 = j := by omega
            rcases o with _ | s
            · obtain ⟨rfl, rfl⟩ := hsd
              exact absurd (HS.out.symm.trans ((congrArg sumO HFu.out).trans HOn.out)) (by intro h; cases h)
            · obtain ⟨rfl, rfl, hs⟩ := hsd
              obtain rfl : s = t := Option.some.inj (HS.out.symm.trans ((congrArg sumO HFu.out).trans HOn.out))
              go_wp2_with fail
              go_ret
              exact ⟨by first | rfl | simp, HBR.out⟩
  · by_cases h40 : n ≤ 40
    · obtain rfl : m = n := by omega
      go_wp2_with (with_reducible refine wpList_appendI (o := ⟨some 20, _, _, _, _, _⟩) rfl (.tmp 14) (.tmp 19) rfl w1.heap.size (.slice (some ⟨w1.heap.size, 0, none⟩) 0 0) 0 [] ?h1 HO.out w.heap.size (some ad) m c (l.take m) ?h2 HR1.out HLm.out ?h3 ?h4 ?_)
      case h1 => rfl
      case h2 => rfl
      case h3 => omega
      case h4 => simp
      intro v' w2 hown hg
      obtain ⟨hl2, A', c', rfl, hc1, hc2, hrd⟩ := own_formI hown
      have hbw : Below w.heap.size w w2 := ((Below.refl _ _).trans hb1).trans (((Below.refl w.heap.size w1).alloc hb1.size _).grown hg (by have := hb1.size; simp; omega) (fun k hk => by have h := (World.ownsRow.lt HO.out k hk).1; have := hb1.size; omega))
      have HRd := Lib.hid hrd
      have HBW := Lib.hid hbw
      obtain ⟨l', hl'⟩ : ∃ l', l.take m = l' := ⟨_, rfl⟩
      have HRd : Hid (Rv w2 w2.heap.size A' (l'.map encI)) := by rw [← hl']; exact HRd
      rw [hl'] at HLm HLb
      have hc1 : m ≤ c' := by omega
      unfold maxLen at hc2
      clear hown hg hrd hbw hl2 hb1 HO HR1 hl' HL HN HR HA HA0 imin hmn hm hnc hcm
      go_wp2_with fail
      go_loopw [3, 23] (fun v i wr => ∃ k : Nat, k ≤ m ∧ i = .int .i64 k ∧ OwnC wr w2.heap.size v k (l'.take k) ∧ Below w2.heap.size w2 wr) (fun _ i _ => m - (intOf i).toNat)
      case atStart => exact ⟨0, Nat.zero_le _, rfl, ⟨rfl, Or.inl ⟨rfl, rfl⟩⟩, Below.refl _ _⟩
      case round =>
        obtain ⟨k, hk, rfl, hown, hbr⟩ := hrel
        by_cases hlt : k < m
        · have hltI : (k : Int) < (m : Int) := by omega
          have hkl : k < l'.length := by rw [HLm.out]; exact hlt
          obtain ⟨b, o, rfl, hb, hc⟩ := HRd.out.at_ (k := k) (by rw [List.length_map]; exact hkl)
          rw [List.getElem_map] at hc
          unfold encI at hc
          have hc' := (hbr.cell (p := ⟨b, o + k, none⟩) hb).trans hc
          have htk : l'.take (k + 1) = l'.take k ++ [l'[k]'hkl] := List.take_succ_eq_append_getElem hkl
          obtain ⟨a, ha⟩ : ∃ a, l'[k]'hkl = a := ⟨_, rfl⟩
          rw [ha] at hc' htk
          have hsz := hbr.size
          have HOW : Hid (OwnC (wr.alloc (.cells #[.int .i64 a] 22)) w2.heap.size _ k (l'.take k)) := Lib.hid (World.ownsRow.alloc hown _)
          have HRa : Hid (Rv (wr.alloc (.cells #[.int .i64 a] 22)) (wr.heap.size + 1) (some ⟨wr.heap.size, 0, none⟩) ([a].map encC)) := Lib.hid (fun _ => ⟨wr.heap.size, 0, rfl, by omega, fun j u hu => by
            match j, hu with
            | 0, hu => injection hu with hu; subst hu; simp [encC]
            | j + 1, hu => simp at hu⟩)
          have HBR := Lib.hid hbr
          have HTK := Lib.hid htk
          clear hown hbr hc ha htk hkl
          go_wp2_with (with_reducible refine wpList_appendC (o := ⟨some 30, _, _, _, _, _⟩) rfl (.tmp 27) (.tmp 29) rfl w2.heap.size _ k (l'.take k) ?g1 HOW.out (wr.heap.size + 1) (some ⟨wr.heap.size, 0, none⟩) 1 1 [a] ?g2 HRa.out rfl ?g3 ?g4 ?_)
          case g1 => rfl
          case g2 => rfl
          case g3 => omega
          case g4 => simp; omega
          intro v' w3 hown' hg
          have hb3 : Below w2.heap.size w2 w3 := (HBR.out.alloc HBR.out.size (.cells #[.int .i64 a] 22)).grown hg (by have := HBR.out.size; simp; omega) (fun q hq => (World.ownsRow.lt HOW.out q hq).1)
          have HO3 : Hid (OwnC w3 w2.heap.size v' (k + 1) (l'.take (k + 1))) := Lib.hid (by rw [HTK.out]; exact hown')
          have HB3 := Lib.hid hb3
          clear hown' hg hb3 HOW HRa hc'
          go_wp2_with fail
          go_roundw
          case rel => exact ⟨k + 1, by omega, by go_num, HO3.out, HB3.out⟩
          case measure => simp [intOf]; omega
        · obtain rfl : m = k := by omega
          obtain ⟨hl3, A3, c3, rfl, d1, d2, hrd3⟩ := own_formC hown
          have hfull : l'.take m = l' := List.take_of_length_le (by rw [HLm.out]; exact Nat.le_refl _)
          rw [hfull] at hrd3
          have hS := CSum_any A3 m c3 wr.heap.size l' wr hrd3 HLm.out d1 d2 HLb.out
          have HRw := Lib.hid (HRd.out.below hbr)
          have HBR := Lib.hid (HBW.out.trans (hbr.mono HBW.out.size))
          have HFu := Lib.hid hfull
          unfold maxLen at d2
          clear hown hbr hrd3 hl3 HRd HBW hfull hlt hk
          cases hO : sumO l' with
          | none =>
            rw [hO] at hS
            simp only [sumV] at hS
            have HOn := Lib.hid hO
            clear hO
            go_wp2_with fail
            refine hS.mono ?_
            rintro e w9 ⟨rfl, rfl⟩
            clear hS
            go_wp2_with fail
            go_loop [8, 9, 39] (fun x y i => ∃ (j : Nat) (o : Option Int), j ≤ m ∧ i = .int .i64 j ∧ Hid (sumO (l'.take j) = o) ∧ Sd x y o) (fun _ _ i => m - (intOf i).toNat)
            case atStart => exact ⟨0, some 0, Nat.zero_le _, rfl, Lib.hid rfl, rfl, rfl, by decide⟩
            case round =>
              obtain ⟨j, o, hj, rfl, HS, hsd⟩ := hrel
              by_cases hjl : j < m
              · have hjI : (j : Int) < (m : Int) := by omega
                have hkl : j < l'.length := by rw [HLm.out]; exact hjl
                obtain ⟨b, o', rfl, hb, hc⟩ := HRw.out.at_ (k := j) (by rw [List.length_map]; exact hkl)
                rw [List.getElem_map] at hc
                unfold encI at hc
                have hx := sumO_next l' j hkl
                have ha : Fits (l'[j]'hkl) := HLb.out _ (List.getElem_mem hkl)
                obtain ⟨a, hae⟩ : ∃ a, l'[j]'hkl = a := ⟨_, rfl⟩
                rw [hae] at hc hx ha
                rw [HS.out] at hx
                clear hae hkl
                rcases o with _ | s
                · obtain ⟨rfl, rfl⟩ := hsd
                  have HX : Hid (sumO (l'.take (j + 1)) = Option.none) := Lib.hid hx
                  clear hx ha HS
                  go_wp2_with fail
                  go_round
                  case rel => exact ⟨j + 1, Option.none, by omega, by go_num, HX, rfl, rfl⟩
                  case measure => simp [intOf]; omega
                · obtain ⟨rfl, rfl, hs⟩ := hsd
                  have rA := fun W => RefCAdd_any s a hs ha W
                  by_cases hf : Fits (s + a)
                  · have HX := Lib.hid (hx.trans (if_pos hf))
                    have HF := Lib.hid hf
                    simp only [hf, if_true] at rA
                    clear hx ha hs hf HS
                    go_wp2_with (go_at_call 9; refine (rA _).mono ?_; rintro e w' ⟨rfl, rfl⟩)
                    go_round
                    case rel => exact ⟨j + 1, some (s + a), by omega, by go_num, HX, rfl, rfl, HF.out⟩
                    case measure => simp [intOf]; omega
                  · have HX := Lib.hid (hx.trans (if_neg hf))
                    simp only [hf, if_false] at rA
                    clear hx ha hs hf HS
                    go_wp2_with (go_at_call 9; refine (rA _).mono ?_; rintro e w' ⟨rfl, rfl⟩)
                    go_round
                    case rel => exact ⟨j + 1, Option.none, by omega, by go_num, HX, rfl, rfl⟩
                    case measure => simp [intOf]; omega
              obtain rfl : m = j := by omega
              rcases o with _ | s
              · obtain ⟨rfl, rfl⟩ := hsd
                go_wp2_with fail
                refine (Code_errno 12 _ (HW.out.below HBR.out)).mono ?_
                rintro e w10 ⟨rfl, hb10⟩
                go_wp2_with fail
                go_ret
                exact ⟨by first | rfl | simp, HBR.out.trans (hb10.mono HBR.out.size)⟩
              · obtain ⟨rfl, rfl, hs⟩ := hsd
                exact absurd (HS.out.symm.trans ((congrArg sumO HFu.out).trans HOn.out)) (by intro h; cases h)
          | some t =>
            rw [hO] at hS
            simp only [sumV] at hS
            have HOn := Lib.hid hO
            clear hO
            go_wp2_with fail
            refine hS.mono ?_
            rintro e w9 ⟨rfl, rfl⟩
            clear hS
            go_wp2_with fail
            go_loop [8, 9, 39] (fun x y i => ∃ (j : Nat) (o : Option Int), j ≤ m ∧ i = .int .i64 j ∧ Hid (sumO (l'.take j) = o) ∧ Sd x y o) (fun _ _ i => m - (intOf i).toNat)
            case atStart => exact ⟨0, some 0, Nat.zero_le _, rfl, Lib.hid rfl, rfl, rfl, by decide⟩
            case round =>
              obtain ⟨j, o, hj, rfl, HS, hsd⟩ := hrel
              by_cases hjl : j < m
              · have hjI : (j : Int) < (m : Int) := by omega
                have hkl : j < l'.length := by rw [HLm.out]; exact hjl
                obtain ⟨b, o', rfl, hb, hc⟩ := HRw.out.at_ (k := j) (by rw [List.length_map]; exact hkl)
                rw [List.getElem_map] at hc
                unfold encI at hc
                have hx := sumO_next l' j hkl
                have ha : Fits (l'[j]'hkl) := HLb.out _ (List.getElem_mem hkl)
                obtain ⟨a, hae⟩ : ∃ a, l'[j]'hkl = a := ⟨_, rfl⟩
                rw [hae] at hc hx ha
                rw [HS.out] at hx
                clear hae hkl
                rcases o with _ | s
                · obtain ⟨rfl, rfl⟩ := hsd
                  have HX : Hid (sumO (l'.take (j + 1)) = Option.none) := Lib.hid hx
                  clear hx ha HS
                  go_wp2_with fail
                  go_round
                  case rel => exact ⟨j + 1, Option.none, by omega, by go_num, HX, rfl, rfl⟩
                  case measure => simp [intOf]; omega
                · obtain ⟨rfl, rfl, hs⟩ := hsd
                  have rA := fun W => RefCAdd_any s a hs ha W
                  by_cases hf : Fits (s + a)
                  · have HX := Lib.hid (hx.trans (if_pos hf))
                    have HF := Lib.hid hf
                    simp only [hf, if_true] at rA
                    clear hx ha hs hf HS
                    go_wp2_with (go_at_call 9; refine (rA _).mono ?_; rintro e w' ⟨rfl, rfl⟩)
                    go_round
                    case rel => exact ⟨j + 1, some (s + a), by omega, by go_num, HX, rfl, rfl, HF.out⟩
                    case measure => simp [intOf]; omega
                  · have HX := Lib.hid (hx.trans (if_neg hf))
                    simp only [hf, if_false] at rA
                    clear hx ha hs hf HS
                    go_wp2_with (go_at_call 9; refine (rA _).mono ?_; rintro e w' ⟨rfl, rfl⟩)
                    go_round
                    case rel => exact ⟨j + 1, Option.none, by omega, by go_num, HX, rfl, rfl⟩
                    case measure => simp [intOf]; omega
              obtain rfl : m = j := by omega
              rcases o with _ | s
              · obtain ⟨rfl, rfl⟩ := hsd
                exact absurd (HS.out.symm.trans ((congrArg sumO HFu.out).trans HOn.out)) (by intro h; cases h)
              · obtain ⟨rfl, rfl, hs⟩ := hsd
                obtain rfl : s = t := Option.some.inj (HS.out.symm.trans ((congrArg sumO HFu.out).trans HOn.out))
                go_wp2_with fail
                go_ret
                exact ⟨by first | rfl | simp, HBR.out⟩
    · obtain rfl : m = 40 := by omega
      go_wp2_with (with_reducible refine wpList_appendI (o := ⟨some 20, _, _, _, _, _⟩) rfl (.tmp 14) (.tmp 19) rfl w1.heap.size (.slice (some ⟨w1.heap.size, 0, none⟩) 0 0) 0 [] ?h1 HO.out w.heap.size (some ad) 40 c (l.take 40) ?h2 HR1.out HLm.out ?h3 ?h4 ?_)
      case h1 => rfl
      case h2 => rfl
      case h3 => omega
      case h4 => simp
      intro v' w2 hown hg
      obtain ⟨hl2, A', c', rfl, hc1, hc2, hrd⟩ := own_formI hown
      have hbw : Below w.heap.size w w2 := ((Below.refl _ _).trans hb1).trans (((Below.refl w.heap.size w1).alloc hb1.size _).grown hg (by have := hb1.size; simp; omega) (fun k hk => by have h := (World.ownsRow.lt HO.out k hk).1; have := hb1.size; omega))
      have HRd := Lib.hid hrd
      have HBW := Lib.hid hbw
      obtain ⟨l', hl'⟩ : ∃ l', l.take 40 = l' := ⟨_, rfl⟩
      have HRd : Hid (Rv w2 w2.heap.size A' (l'.map encI)) := by rw [← hl']; exact HRd
      rw [hl'] at HLm HLb
      have hc1 : 40 ≤ c' := by omega
      unfold maxLen at hc2
      clear hown hg hrd hbw hl2 hb1 HO HR1 hl' HL HN HR HA HA0 imin hmn hm hnc hcm
      go_wp2_with fail
      go_loopw [3, 23] (fun v i wr => ∃ k : Nat, k ≤ 40 ∧ i = .int .i64 k ∧ OwnC wr w2.heap.size v k (l'.take k) ∧ Below w2.heap.size w2 wr) (fun _ i _ => 40 - (intOf i).toNat)
      case atStart => exact ⟨0, Nat.zero_le _, rfl, ⟨rfl, Or.inl ⟨rfl, rfl⟩⟩, Below.refl _ _⟩
      case round =>
        obtain ⟨k, hk, rfl, hown, hbr⟩ := hrel
        by_cases hlt : k < 40
        · have hltI : (k : Int) < 40 := by omega
          have hkl : k < l'.length := by rw [HLm.out]; exact hlt
          obtain ⟨b, o, rfl, hb, hc⟩ := HRd.out.at_ (k := k) (by rw [List.length_map]; exact hkl)
          rw [List.getElem_map] at hc
          unfold encI at hc
          have hc' := (hbr.cell (p := ⟨b, o + k, none⟩) hb).trans hc
          have htk : l'.take (k + 1) = l'.take k ++ [l'[k]'hkl] := List.take_succ_eq_append_getElem hkl
          obtain ⟨a, ha⟩ : ∃ a, l'[k]'hkl = a := ⟨_, rfl⟩
          rw [ha] at hc' htk
          have hsz := hbr.size
          have HOW : Hid (OwnC (wr.alloc (.cells #[.int .i64 a] 22)) w2.heap.size _ k (l'.take k)) := Lib.hid (World.ownsRow.alloc hown _)
          have HRa : Hid (Rv (wr.alloc (.cells #[.int .i64 a] 22)) (wr.heap.size + 1) (some ⟨wr.heap.size, 0, none⟩) ([a].map encC)) := Lib.hid (fun _ => ⟨wr.heap.size, 0, rfl, by omega, fun j u hu => by
            match j, hu with
            | 0, hu => injection hu with hu; subst hu; simp [encC]
            | j + 1, hu => simp at hu⟩)
          have HBR := Lib.hid hbr
          have HTK := Lib.hid htk
          clear hown hbr hc ha htk hkl
          go_wp2_with (with_reducible refine wpList_appendC (o := ⟨some 30, _, _, _, _, _⟩) rfl (.tmp 27) (.tmp 29) rfl w2.heap.size _ k (l'.take k) ?g1 HOW.out (wr.heap.size + 1) (some ⟨wr.heap.size, 0, none⟩) 1 1 [a] ?g2 HRa.out rfl ?g3 ?g4 ?_)
          case g1 => rfl
          case g2 => rfl
          case g3 => omega
          case g4 => simp; omega
          intro v' w3 hown' hg
          have hb3 : Below w2.heap.size w2 w3 := (HBR.out.alloc HBR.out.size (.cells #[.int .i64 a] 22)).grown hg (by have := HBR.out.size; simp; omega) (fun q hq => (World.ownsRow.lt HOW.out q hq).1)
          have HO3 : Hid (OwnC w3 w2.heap.size v' (k + 1) (l'.take (k + 1))) := Lib.hid (by rw [HTK.out]; exact hown')
          have HB3 := Lib.hid hb3
          clear hown' hg hb3 HOW HRa hc'
          go_wp2_with fail
          go_roundw
          case rel => exact ⟨k + 1, by omega, by go_num, HO3.out, HB3.out⟩
          case measure => simp [intOf]; omega
        · obtain rfl : 40 = k := by omega
          obtain ⟨hl3, A3, c3, rfl, d1, d2, hrd3⟩ := own_formC hown
          have hfull : l'.take 40 = l' := List.take_of_length_le (by rw [HLm.out]; exact Nat.le_refl _)
          rw [hfull] at hrd3
          have hS := CSum_any A3 40 c3 wr.heap.size l' wr hrd3 HLm.out d1 d2 HLb.out
          have HRw := Lib.hid (HRd.out.below hbr)
          have HBR := Lib.hid (HBW.out.trans (hbr.mono HBW.out.size))
          have HFu := Lib.hid hfull
          unfold maxLen at d2
          clear hown hbr hrd3 hl3 HRd HBW hfull hlt hk
          cases hO : sumO l' with
          | none =>
            rw [hO] at hS
            simp only [sumV] at hS
            have HOn := Lib.hid hO
            clear hO
            go_wp2_with fail
            refine hS.mono ?_
            rintro e w9 ⟨rfl, rfl⟩
            clear hS
            go_wp2_with fail
            go_loop [8, 9, 39] (fun x y i => ∃ (j : Nat) (o : Option Int), j ≤ 40 ∧ i = .int .i64 j ∧ Hid (sumO (l'.take j) = o) ∧ Sd x y o) (fun _ _ i => 40 - (intOf i).toNat)
            case atStart => exact ⟨0, some 0, Nat.zero_le _, rfl, Lib.hid rfl, rfl, rfl, by decide⟩
            case round =>
              obtain ⟨j, o, hj, rfl, HS, hsd⟩ := hrel
              by_cases hjl : j < 40
              · have hjI : (j : Int) < 40 := by omega
                have hkl : j < l'.length := by rw [HLm.out]; exact hjl
                obtain ⟨b, o', rfl, hb, hc⟩ := HRw.out.at_ (k := j) (by rw [List.length_map]; exact hkl)
                rw [List.getElem_map] at hc
                unfold encI at hc
                have hx := sumO_next l' j hkl
                have ha : Fits (l'[j]'hkl) := HLb.out _ (List.getElem_mem hkl)
                obtain ⟨a, hae⟩ : ∃ a, l'[j]'hkl = a := ⟨_, rfl⟩
                rw [hae] at hc hx ha
                rw [HS.out] at hx
                clear hae hkl
                rcases o with _ | s
                · obtain ⟨rfl, rfl⟩ := hsd
                  have HX : Hid (sumO (l'.take (j + 1)) = Option.none) := Lib.hid hx
                  clear hx ha HS
                  go_wp2_with fail
                  go_round
                  case rel => exact ⟨j + 1, Option.none, by omega, by go_num, HX, rfl, rfl⟩
                  case measure => simp [intOf]; omega
                · obtain ⟨rfl, rfl, hs⟩ := hsd
                  have rA := fun W => RefCAdd_any s a hs ha W
                  by_cases hf : Fits (s + a)
                  · have HX := Lib.hid (hx.trans (if_pos hf))
                    have HF := Lib.hid hf
                    simp only [hf, if_true] at rA
                    clear hx ha hs hf HS
                    go_wp2_with (go_at_call 9; refine (rA _).mono ?_; rintro e w' ⟨rfl, rfl⟩)
                    go_round
                    case rel => exact ⟨j + 1, some (s + a), by omega, by go_num, HX, rfl, rfl, HF.out⟩
                    case measure => simp [intOf]; omega
                  · have HX := Lib.hid (hx.trans (if_neg hf))
                    simp only [hf, if_false] at rA
                    clear hx ha hs hf HS
                    go_wp2_with (go_at_call 9; refine (rA _).mono ?_; rintro e w' ⟨rfl, rfl⟩)
                    go_round
                    case rel => exact ⟨j + 1, Option.none, by omega, by go_num, HX, rfl, rfl⟩
                    case measure => simp [intOf]; omega
              obtain rfl : 40 = j := by omega
              rcases o with _ | s
              · obtain ⟨rfl, rfl⟩ := hsd
                go_wp2_with fail
                refine (Code_errno 12 _ (HW.out.below HBR.out)).mono ?_
                rintro e w10 ⟨rfl, hb10⟩
                go_wp2_with fail
                go_ret
                exact ⟨by first | rfl | simp, HBR.out.trans (hb10.mono HBR.out.size)⟩
              · obtain ⟨rfl, rfl, hs⟩ := hsd
                exact absurd (HS.out.symm.trans ((congrArg sumO HFu.out).trans HOn.out)) (by intro h; cases h)
          | some t =>
            rw [hO] at hS
            simp only [sumV] at hS
            have HOn := Lib.hid hO
            clear hO
            go_wp2_with fail
            refine hS.mono ?_
            rintro e w9 ⟨rfl, rfl⟩
            clear hS
            go_wp2_with fail
            go_loop [8, 9, 39] (fun x y i => ∃ (j : Nat) (o : Option Int), j ≤ 40 ∧ i = .int .i64 j ∧ Hid (sumO (l'.take j) = o) ∧ Sd x y o) (fun _ _ i => 40 - (intOf i).toNat)
            case atStart => exact ⟨0, some 0, Nat.zero_le _, rfl, Lib.hid rfl, rfl, rfl, by decide⟩
            case round =>
              obtain ⟨j, o, hj, rfl, HS, hsd⟩ := hrel
              by_cases hjl : j < 40
              · have hjI : (j : Int) < 40 := by omega
                have hkl : j < l'.length := by rw [HLm.out]; exact hjl
                obtain ⟨b, o', rfl, hb, hc⟩ := HRw.out.at_ (k := j) (by rw [List.length_map]; exact hkl)
                rw [List.getElem_map] at hc
                unfold encI at hc
                have hx := sumO_next l' j hkl
                have ha : Fits (l'[j]'hkl) := HLb.out _ (List.getElem_mem hkl)
                obtain ⟨a, hae⟩ : ∃ a, l'[j]'hkl = a := ⟨_, rfl⟩
                rw [hae] at hc hx ha
                rw [HS.out] at hx
                clear hae hkl
                rcases o with _ | s
                · obtain ⟨rfl, rfl⟩ := hsd
                  have HX : Hid (sumO (l'.take (j + 1)) = Option.none) := Lib.hid hx
                  clear hx ha HS
                  go_wp2_with fail
                  go_round
                  case rel => exact ⟨j + 1, Option.none, by omega, by go_num, HX, rfl, rfl⟩
                  case measure => simp [intOf]; omega
                · obtain ⟨rfl, rfl, hs⟩ := hsd
                  have rA := fun W => RefCAdd_any s a hs ha W
                  by_cases hf : Fits (s + a)
                  · have HX := Lib.hid (hx.trans (if_pos hf))
                    have HF := Lib.hid hf
                    simp only [hf, if_true] at rA
                    clear hx ha hs hf HS
                    go_wp2_with (go_at_call 9; refine (rA _).mono ?_; rintro e w' ⟨rfl, rfl⟩)
                    go_round
                    case rel => exact ⟨j + 1, some (s + a), by omega, by go_num, HX, rfl, rfl, HF.out⟩
                    case measure => simp [intOf]; omega
                  · have HX := Lib.hid (hx.trans (if_neg hf))
                    simp only [hf, if_false] at rA
                    clear hx ha hs hf HS
                    go_wp2_with (go_at_call 9; refine (rA _).mono ?_; rintro e w' ⟨rfl, rfl⟩)
                    go_round
                    case rel => exact ⟨j + 1, Option.none, by omega, by go_num, HX, rfl, rfl⟩
                    case measure => simp [intOf]; omega
              obtain rfl : 40 = j := by omega
              rcases o with _ | s
              · obtain ⟨rfl, rfl⟩ := hsd
                exact absurd (HS.out.symm.trans ((congrArg sumO HFu.out).trans HOn.out)) (by intro h; cases h)
              · obtain ⟨rfl, rfl, hs⟩ := hsd
                obtain rfl : s = t := Option.some.inj (HS.out.symm.trans ((congrArg sumO HFu.out).trans HOn.out))
                go_wp2_with fail
                go_ret
                exact ⟨by first | rfl | simp, HBR.out⟩
end Go.Proofs.YthbifpmjkaonnaaGreatDoor
