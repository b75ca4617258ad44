/-
  DueRight: the walk. Conditions: the days are there; the months' lengths and strconv's powers of ten are laid.
-/
import Derived.Test.YtclmhgaggminpaaDoorHRight
import Derived.Test.YtclmhgaggminpaaDoorLasts
namespace Go.Proofs.YtclmhgaggminpaaDoor
open Go.ChangeShapes Go.WideShapes Go.ChangeAt Go.RowKit

/-- The first m days. -/
def firsts : Nat → List Int
  | 0 => []
  | m + 1 => firsts m ++ [(m : Int)]
theorem firsts_len (m : Nat) : (firsts m).length = m := by
  induction m with
  | zero => rfl
  | succ m ih => simp [firsts, ih]
theorem firsts_at {m k : Nat} (h : k < m) : (firsts m).getD k 0 = (k : Int) := by
  induction m with
  | zero => omega
  | succ m ih =>
    have hl := firsts_len m
    simp only [firsts, List.getD_eq_getElem?_getD]
    rcases Nat.lt_or_ge k m with h1 | h1
    · rw [List.getElem?_append_left (by omega), ← List.getD_eq_getElem?_getD]
      exact ih h1
    · obtain rfl : k = m := by omega
      rw [List.getElem?_append_right (by omega), hl, Nat.sub_self]
      rfl
theorem firsts_up {m : Nat} (hm : m ≤ 1000) : ∀ k, k ≤ m → upB (firsts m) k = true := by
  intro k
  induction k with
  | zero => intro _; rfl
  | succ k ih =>
    intro h
    rw [upB_step (firsts_at (show k < m from h)), ih (by omega)]
    have hd : dayB (k : Int) = true := day_yes (by omega) (by omega)
    rw [hd]
    rcases Nat.eq_zero_or_pos k with h0 | h0
    · subst h0; rfl
    · rw [firsts_at (show k - 1 < m by omega), decide_eq_true (by omega)]
      simp
theorem firsts_right {m : Nat} (hm : m ≤ 1000) : rightL (firsts m) = decide (m ≤ 200) := by
  unfold rightL
  rw [firsts_len, firsts_up hm m (Nat.le_refl _), Bool.and_true]
theorem firsts_wf {m : Nat} (hm : m ≤ 1000) : ∀ u ∈ firsts m, -2147483648 ≤ u ∧ u ≤ 2147483647 := by
  intro u hu
  obtain ⟨k, hk, rfl⟩ := List.getElem_of_mem hu
  rw [firsts_len] at hk
  have := firsts_at hk
  rw [getD_at (by rw [firsts_len]; exact hk)] at this
  omega
theorem rightL_few {l : List Int} (h : l.length ≤ 60) : rightL l = upB l l.length := by
  unfold rightL
  rw [decide_eq_true (by omega), Bool.true_and]

set_option maxRecDepth 20000 in
set_option maxHeartbeats 2000000 in
theorem DRights_any (A : Option Addr) (n c : Nat) (l : List Int) (many : Bool) (w : World) (hR : Rv w w.heap.size A (l.map encL)) (hn : l.length = n) (hm : n ≤ 140737488355328) (hwf : ∀ u ∈ l, -2147483648 ≤ u ∧ u ≤ 2147483647) (hw : Lens w) (hp : Pows w) :
    Calls Tryd.prog 4 #[.slice A n c, .bool many] w fun e w' => e = .returned (.bool true) ∧ Below w.heap.size w w' := by
  have HW := Lib.hid hw
  have HP := Lib.hid hp
  have HR := Lib.hid hR
  have HF := Lib.hid hwf
  have HN := Lib.hid hn
  clear hw hp hR hwf hn
  go_enter Tryd.func4, Tryd.ntmps4
  go_wp2_with fail
  refine (awake7 _ HW.out HP.out).mono ?_
  rintro e w1 ⟨rfl, hb1⟩
  have HB1 := Lib.hid hb1
  have hR1 := HR.out.below hb1
  clear hb1
  go_wp2_with fail
  refine (Few_any A n c w.heap.size l w1 hR1 HN.out hm HB1.out.size HF.out).mono ?_
  rintro e w2 ⟨A1, A2, c1, c2, rfl, hc1, hc2, hm1, hm2, hr1, hr2, hb2⟩
  have hlen : (l.take 60).length ≤ 60 := by rw [List.length_take]; omega
  have hwf2 : ∀ u ∈ l.take 60, -2147483648 ≤ u ∧ u ≤ 2147483647 := fun u hu => HF.out u (List.mem_of_mem_take hu)
  generalize l.take 60 = x at *
  have HB2 := Lib.hid (HB1.out.trans (hb2.mono HB1.out.size))
  have HR1 := Lib.hid hr1
  have HR2 := Lib.hid hr2
  have HF2 := Lib.hid hwf2
  clear hR1 hr1 hr2 hwf2 hb2 hm1 hm2 HB1
  go_wp2_with fail
  go_loop [7, 20] (fun t i => ∃ k : Nat, k ≤ x.length ∧ i = .int .i64 k ∧ t = .bool (upB x k)) (fun _ i => x.length - (intOf i).toNat)
  case atStart => exact ⟨0, Nat.zero_le _, rfl, rfl⟩
  case round =>
    obtain ⟨k, hk, rfl, rfl⟩ := hrel
    by_cases hlt : k < x.length
    · have hRl : k < (x.map encN).length := by rw [List.length_map]; exact hlt
      obtain ⟨b, o, rfl, hb, hc⟩ := HR2.out.at_ hRl
      rw [List.getElem_map] at hc
      have hwf := HF2.out x[k] (List.getElem_mem hlt)
      have hgd := getD_at hlt
      obtain ⟨u, hu⟩ : ∃ u, x[k] = u := ⟨_, rfl⟩
      rw [hu] at hc hwf hgd
      simp only [encN] at hc
      obtain ⟨u0, u1⟩ := hwf
      have HS := Lib.hid (upB_step (l := x) (k := k) hgd)
      clear hu hgd
      cases hU : upB x k
      · have HE := Lib.hid (show upB x (k + 1) = false by rw [HS.out, hU]; rfl)
        clear hU
        go_wp2_with fail
        go_round
        case rel => exact ⟨k + 1, by omega, by go_num, by rw [HE.out]⟩
        case measure => simp [intOf]; omega
      · rw [hU] at HS
        clear hU
        by_cases h0 : 0 ≤ u
        · by_cases h1 : u ≤ 3652058
          · rw [day_yes h0 h1] at HS
            by_cases hk0 : k = 0
            · subst hk0
              rw [Nat.add_zero] at hc
              have HE := Lib.hid (show upB x (0 + 1) = true by rw [HS.out]; rfl)
              go_wp2_with fail
              go_round
              case rel => exact ⟨1, by omega, by go_num, by rw [HE.out]⟩
              case measure => simp [intOf]; omega
            · have hk1 : k - 1 < x.length := by omega
              have hRl1 : k - 1 < (x.map encN).length := by rw [List.length_map]; exact hk1
              obtain ⟨b', o', he, hb', hc1⟩ := HR2.out.at_ hRl1
              injection he with he
              injection he with e1 e2 e3
              subst e1
              subst e2
              rw [List.getElem_map] at hc1
              have hgd1 := getD_at hk1
              obtain ⟨p, hp⟩ : ∃ p, x[k - 1] = p := ⟨_, rfl⟩
              rw [hp] at hc1 hgd1
              simp only [encN] at hc1
              rw [hgd1] at HS
              have hk2 : (0 : Int) < (k : Int) := by omega
              have hk3 : ((k : Int) == 0) = false := by rw [beq_eq_false_iff_ne]; omega
              have hk4 : ¬ (k : Int) = 0 := by omega
              have hj : ((k : Int) - 1).toNat = k - 1 := by omega
              clear hp hgd1 hRl1 hRl
              have HE := Lib.hid (show upB x (k + 1) = decide (p < u) by rw [HS.out]; simp [hk0])
              go_wp2_with fail
              go_round
              case rel => exact ⟨k + 1, by omega, by go_num, by rw [HE.out]⟩
              case measure => simp [intOf]; omega
          · rw [day_no (.inr (by omega))] at HS
            have HE := Lib.hid (show upB x (k + 1) = false by rw [HS.out]; rfl)
            go_wp2_with fail
            go_round
            case rel => exact ⟨k + 1, by omega, by go_num, by rw [HE.out]⟩
            case measure => simp [intOf]; omega
        · rw [day_no (.inl (by omega))] at HS
          have HE := Lib.hid (show upB x (k + 1) = false by rw [HS.out]; rfl)
          go_wp2_with fail
          go_round
          case rel => exact ⟨k + 1, by omega, by go_num, by rw [HE.out]⟩
          case measure => simp [intOf]; omega
    · obtain rfl : k = x.length := by omega
      cases many
      · have hH := HRight_any A1 x.length c1 w2.heap.size x w2 HR1.out rfl (by omega) HF2.out
        rw [rightL_few hlen] at hH
        generalize upB x x.length = U at hH ⊢
        go_wp2_with fail
        refine hH.mono ?_
        rintro e w3 ⟨rfl, rfl⟩
        go_wp2_with fail
        go_ret
        exact ⟨ret_bool (by simp), HB2.out⟩
      · generalize upB x x.length = U
        clear HR1 HR2 HF2
        obtain ⟨M, hM⟩ : ∃ M : Nat, 198 + x.length = M := ⟨_, rfl⟩
        have hM2 : (198 : Int) + (x.length : Int) = (M : Int) := by omega
        have hM3 : M ≤ 258 := by omega
        have HLM := Lib.hid hM2
        clear hM
        go_wp2_with fail
        clear hM2
        go_loopw [5, 57] (fun v i wr => ∃ k : Nat, k ≤ M ∧ i = .int .i64 k ∧ Hid (OwnH wr w.heap.size v k (firsts k)) ∧ Hid (Below w.heap.size w wr)) (fun _ i _ => M - (intOf i).toNat)
        case atStart => exact ⟨0, Nat.zero_le _, rfl, Lib.hid (World.ownsRow_nil w2 w.heap.size 22 1), HB2⟩
        case round =>
          obtain ⟨k, hk, rfl, HH, HBL⟩ := hrel
          by_cases hlt : k < M
          · have hsz := HBL.out.size
            have HO := Lib.hid (HH.out.alloc (.cells #[.int .i32 (k : Int)] 22))
            have HR1 := Lib.hid (rv_oneH wr (k : Int))
            have HAL := Lib.hid (HBL.out.alloc hsz (.cells #[.int .i32 (k : Int)] 22))
            clear HH
            go_wp2_with (with_reducible refine wpList_appendH (o := ⟨some 64, _, _, _, _, _⟩) rfl (.tmp 60) (.tmp 63) rfl w.heap.size _ k (firsts k) ?h1 HO.out (wr.heap.size + 1) (some ⟨wr.heap.size, 0, none⟩) 1 1 [(k : Int)] ?h2 HR1.out rfl ?h3 ?h4 ?_)
            try (case h1 => rfl)
            try (case h2 => rfl)
            case h3 => omega
            case h4 => simp; omega
            intro v1 w3 hown1 hg1
            have hb1 : Below w.heap.size w w3 := HAL.out.grown hg1 HAL.out.size (fun g hg => (World.ownsRow.lt HO.out g hg).1)
            have HO1 := Lib.hid hown1
            have HB3 := Lib.hid hb1
            clear hown1 hg1 hb1 HO HR1 HAL
            go_wp2_with fail
            go_roundw
            case rel => exact ⟨k + 1, by omega, by go_num, HO1, HB3⟩
            case measure => simp [intOf]; omega
          · obtain rfl : k = M := by omega
            have h := HH.out
            obtain ⟨hl1, A3, c3, hv1, hc1, hm1, hr1⟩ := own_formH h
            subst hv1
            have hX := HRight_any A3 k c3 wr.heap.size (firsts k) wr hr1 (firsts_len k) (by omega) (firsts_wf (by omega))
            rw [firsts_right (by omega)] at hX
            clear h HH hl1 hr1
            go_wp2_with fail
            refine hX.mono ?_
            rintro e w3 ⟨rfl, rfl⟩
            by_cases hk2 : k ≤ 200
            · rw [decide_eq_true hk2]
              go_wp2_with fail
              go_ret
              exact ⟨ret_bool (by simp <;> omega), HBL.out⟩
            · rw [decide_eq_false hk2]
              go_wp2_with fail
              go_ret
              exact ⟨ret_bool (by simp <;> omega), HBL.out⟩
end Go.Proofs.YtclmhgaggminpaaDoor
