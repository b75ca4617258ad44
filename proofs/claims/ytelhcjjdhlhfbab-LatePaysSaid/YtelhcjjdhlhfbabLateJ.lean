/-
  LatePays: the walk. Condition: the bytes are there.
-/
import Derived.Test.YtelhcjjdhlhfbabLateI
namespace Go.Proofs.Ytelhcjjdhlhfbab
open Go.ChangeShapes Go.WideShapes Go.ChangeAt Go.RowKit

set_option maxRecDepth 20000 in
set_option maxHeartbeats 4000000 in
theorem LatePays_any (A : Option Addr) (n c B : Nat) (ds : List UInt8) (e k : Nat) (w : World) (hR : Rd w B A ds) (hn : ds.length = n) (hm : n ≤ maxLen) (hB : B ≤ w.heap.size) (he : e < 65536) (hk : k < 256) :
    Calls Try.prog 6 #[.slice A n c, .int .u16 (e : Int), .int .u8 (k : Int)] w (Ret (.bool true) w) := by
  subst hn
  have HR := Lib.hid hR
  unfold maxLen at hm
  clear hR
  go_enter Try.func6, Try.ntmps6
  go_wp2_with fail
  refine (awake12 _).mono ?_
  rintro e0 w1 ⟨rfl, hb1⟩
  have HB1 := Lib.hid hb1
  clear hb1
  go_wp2_with fail
  go_loopw [7, 8, 9, 10, 11, 19] (fun v a s _ _ i wr => ∃ j : Nat, j ≤ ds.length ∧ i = .int .i64 j ∧ a = .int .i32 ((atD ds (min j 40) : Nat) : Int) ∧ s = .int .i64 ((sumD e (min j 40) : Nat) : Int) ∧ Hid (OwnS dueT 32 wr w.heap.size v (min j 40) (rowsP ds e (min j 40))) ∧ Hid (Below w.heap.size w wr)) (fun _ _ _ _ _ i _ => ds.length - (intOf i).toNat)
  case atStart => exact ⟨0, Nat.zero_le _, rfl, by rw [Nat.zero_min]; rfl, by rw [Nat.zero_min]; simp [sumD], Lib.hid (by rw [Nat.zero_min]; exact OwnS.nil_ _ _ _), HB1⟩
  case round =>
    obtain ⟨j, hj, rfl, rfl, rfl, HO, HBL⟩ := hrel
    by_cases hlt : j < ds.length
    · obtain ⟨b1, o1, rfl, hb1, c0⟩ := HR.out.at_ hlt
      have d0 := (HBL.out.cell (p := ⟨b1, o1 + j, none⟩) (by exact Nat.lt_of_lt_of_le hb1 hB)).trans c0
      have hv := UInt8.toNat_lt ds[j]
      have ha := atD_le ds j
      have hat : atD ds (j + 1) = atD ds j + 1 + (ds.getD j 0).toNat := rfl
      rw [show ds.getD j 0 = ds[j] by simp [List.getD, hlt]] at hat
      have hsu := sumD_succ e j
      obtain ⟨v, hvv⟩ : ∃ v, ds[j].toNat = v := ⟨_, rfl⟩
      rw [hvv] at d0 hv hat
      clear hvv c0
      by_cases h40 : j < 40
      · rw [Nat.min_eq_left (by omega)] at HO ⊢
        have hs := sumD_le e j he (by omega)
        obtain ⟨a, haa⟩ : ∃ a, atD ds j = a := ⟨_, rfl⟩
        obtain ⟨s, hss⟩ : ∃ s, sumD e j = s := ⟨_, rfl⟩
        have HP := Lib.hid (show rowsP ds e j ++ [((a : Int) + 1 + (v : Int), (s : Int) + 1 + (e : Int))] = rowsP ds e (j + 1) by
          rw [rowsP_snoc]
          unfold rowP
          rw [hat, hsu, haa, hss]
          simp)
        rw [haa] at ha hat ⊢
        rw [hss] at hs hsu ⊢
        have HA := Lib.hid hat
        have HS := Lib.hid hsu
        have hsz := HBL.out.size
        have HO1 := Lib.hid (HO.out.alloc (.cells #[.int .i32 ((a : Int) + 1 + (v : Int)), .int .i64 ((s : Int) + 1 + (e : Int))] 32))
        have HB4 := Lib.hid (HBL.out.alloc hsz (.cells #[.int .i32 ((a : Int) + 1 + (v : Int)), .int .i64 ((s : Int) + 1 + (e : Int))] 32))
        have HN := Lib.hid (Rs.block (T := dueT) (u := ((a : Int) + 1 + (v : Int), (s : Int) + 1 + (e : Int))) (Blk.new wr 32 #[.int .i32 ((a : Int) + 1 + (v : Int)), .int .i64 ((s : Int) + 1 + (e : Int))]))
        clear haa hss hat hsu HO
        go_wp2_with (with_reducible refine wpList_appendS (o := ⟨some 41, _, _, _, _, _⟩) rfl rowDue (.tmp 36) (.tmp 40) rfl w.heap.size _ j (rowsP ds e j) ?h1 HO1.out _ (some ⟨wr.heap.size, 0, none⟩) 1 1 [((a : Int) + 1 + (v : Int), (s : Int) + 1 + (e : Int))] ?h2 HN.out rfl ?h3 ?h4 ?h5 ?_)
        try (case h1 => rfl)
        try (case h2 => rfl)
        try (case h3 => unfold maxLen; omega)
        try (case h4 => omega)
        try (case h5 => first | omega | (simp; omega))
        intro v2 w2 ho2 hg2 _ _
        have hb2 : Below w.heap.size w w2 := HB4.out.grown hg2 HB4.out.size (fun g hg => (HO1.out.lt g hg).1)
        rw [HP.out] at ho2
        have HO2 := Lib.hid ho2
        have HB2 := Lib.hid hb2
        clear ho2 hg2 hb2 HO1 HB4 HN
        go_wp2_with fail
        go_roundw
        case rel => exact ⟨j + 1, by omega, by go_num, by rw [Nat.min_eq_left (by omega), HA.out]; simp, by rw [Nat.min_eq_left (by omega), HS.out]; simp, Lib.hid (by rw [Nat.min_eq_left (by omega)]; exact HO2.out), HB2⟩
        case measure => simp [intOf]; omega
      · have HE := Lib.hid (show min (j + 1) 40 = min j 40 by omega)
        go_wp2_with fail
        go_roundw
        case rel => exact ⟨j + 1, by omega, by go_num, by rw [HE.out], by rw [HE.out], Lib.hid (by rw [HE.out]; exact HO.out), HBL⟩
        case measure => simp [intOf]; omega
    · obtain rfl : j = ds.length := by omega
      obtain ⟨m, hmm⟩ : ∃ m, min ds.length 40 = m := ⟨_, rfl⟩
      have hm40 : m ≤ 40 := by omega
      rw [hmm] at HO ⊢
      clear hmm
      obtain ⟨_, A2, c2, rfl, hc2, _, hr2⟩ := HO.out.form (by decide)
      have HR2 := Lib.hid hr2
      clear hr2
      rcases Nat.eq_zero_or_pos m with h0 | h0
      · subst h0
        go_wp2_with fail
        go_ret
        exact ⟨rfl, HBL.out⟩
      · obtain ⟨i, hi⟩ : ∃ i, k % m = i := ⟨_, rfl⟩
        have him : i < m := by rw [← hi]; exact Nat.mod_lt _ h0
        have hi2 : (k : Int) % (m : Int) = (i : Int) := by rw [← hi]; simp
        have hm1 : ¬ (m : Int) = 0 := by omega
        have hl := rowsP_len ds e m
        have hIn := rowsP_in ds e m he hm40
        have hmx : m ≤ maxLen := by unfold maxLen; omega
        have e1 := sin_a ds e m i him
        have e2 := sin_b ds e m i him
        have e3 := sin_c ds e m i him
        have ho := old_at ds e m i him
        have ha := atD_le ds (i + 1)
        have hs := sumD_le e (i + 1) he (by omega)
        obtain ⟨b2, o2, rfl, hb2, d0, d1⟩ := HR2.out.due (k := i) (by rw [hl]; exact him)
        rw [rowsP_at] at d0 d1
        simp only [rowP] at d0 d1
        obtain ⟨L, hL⟩ : ∃ L, rowsP ds e m = L := ⟨_, rfl⟩
        obtain ⟨x, hx⟩ : ∃ x, atD ds (i + 1) = x := ⟨_, rfl⟩
        obtain ⟨y, hy⟩ : ∃ y, sumD e (i + 1) = y := ⟨_, rfl⟩
        rw [hL] at hl hIn e1 e2 e3 ho HR2
        rw [hx] at d0 ha e1 e2 e3
        rw [hy] at d1 hs e1 e2 e3 ho
        have HOL := Lib.hid ho
        have D1 := Lib.hid d1
        have q0 := cell_regrown d0
        have q1 := cell_regrown d1
        have HIN := Lib.hid hIn
        have i1 : IntKind.i32.wrap ((x : Int) + 1) = (x : Int) + 1 := by rw [IntKind.wrap_i32]; omega
        have i2 : IntKind.i64.wrap ((y : Int) - 1) = (y : Int) - 1 := by rw [IntKind.wrap_i64]; omega
        have A1 := fun (p t : Int) (ht : -2147483648 ≤ t ∧ t ≤ 2147483647) (dd : Nat) (os : Array Obj) => Calls.regrown_of (Since_any (some ⟨b2, o2, none⟩) m c2 wr.heap.size L p t (Go.Sort.grow (redrawn wr dd) os) (HR2.out.below (below_regrown wr dd os)) hl hmx (below_regrown wr dd os).size HIN.out ht)
        clear hL hx hy hi hIn d0 d1 ho hc2
        go_wp2_with fail
        rw [hi2]
        refine wp_region_quiet_below (by kernel_rfl) (by kernel_rfl) ?_
        repeat (go_big_quiet_step ((go_at_call 11; exact A1 _ _ ⟨by omega, by omega⟩ _ _)))
        refine wpQuiet_nil ?_
        intro w5 hw5
        have hb5 : Below wr.heap.size wr w5 := by
          obtain ⟨p, rfl⟩ := hw5
          exact below_regrown _ _ _
        have d5 := (hb5.cell (p := ⟨b2, o2 + i * 2 + 1, none⟩) hb2).trans D1.out
        have HW5 := Lib.hid hb5
        have HB5 := Lib.hid (HBL.out.trans (hb5.mono HBL.out.size))
        have hO := Oldest_any (some ⟨b2, o2, none⟩) m c2 wr.heap.size L (y : Int) w5 (HR2.out.below hb5) hl hmx hb5.size
        rw [HOL.out] at hO
        clear hw5 hb5 q0 q1 A1 e1 e2 e3 i1 i2
        by_cases h1 : i + 1 < m
        · rw [if_pos h1] at hO
          simp only [oldV] at hO
          have h2 : (i : Int) + 1 < (m : Int) := by omega
          go_wp2_with fail
          refine hO.mono ?_
          rintro e w6 ⟨rfl, hb6⟩
          have HB6 := Lib.hid (HB5.out.trans (hb6.mono HB5.out.size))
          clear hb6 hO d5
          go_wp2_with fail
          go_ret
          exact ⟨by first | rfl | (simp; done) | (simp; omega), HB6.out⟩
        · rw [if_neg h1] at hO
          simp only [oldV] at hO
          have h2 : ¬ (i : Int) + 1 < (m : Int) := by omega
          go_wp2_with fail
          refine hO.mono ?_
          rintro e w6 ⟨rfl, hb6⟩
          have HB6 := Lib.hid (HB5.out.trans (hb6.mono HB5.out.size))
          clear hb6 hO d5
          go_wp2_with fail
          go_ret
          exact ⟨by first | rfl | (simp; done) | (simp; omega), HB6.out⟩
end Go.Proofs.Ytelhcjjdhlhfbab
