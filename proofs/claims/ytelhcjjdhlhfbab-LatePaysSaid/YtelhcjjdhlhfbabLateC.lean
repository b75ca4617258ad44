/-
  late: Since, Behind, Bucket, Name; the document's; the law's few. Conditions: the rows are there.
-/
import Derived.Test.YtelhcjjdhlhfbabLateB
namespace Go.Proofs.Ytelhcjjdhlhfbab
open Go.ChangeShapes Go.WideShapes Go.ChangeAt Go.RowKit

theorem getD_at {l : List (Int × Int)} {k : Nat} (h : k < l.length) : l.getD k (0, 0) = l[k] := by simp [List.getD, h]
set_option maxRecDepth 20000 in
set_option maxHeartbeats 1000000 in
theorem Since_any (A : Option Addr) (n c B : Nat) (l : List (Int × Int)) (p t : Int) (w : World) (hR : Rs dueT w B A l) (hn : l.length = n) (hm : n ≤ maxLen) (hB : B ≤ w.heap.size) (hI : ∀ u ∈ l, DueIn u) (ht : -2147483648 ≤ t ∧ t ≤ 2147483647) :
    Calls Try.prog 11 #[.slice A n c, .int .i64 p, .int .i32 t] w (Ret (.int .i64 (sinD l p t)) w) := by
  have hO := fun W (h : Below w.heap.size w W) => Oldest_any A n c B l p W (hR.below (h.mono hB)) hn hm (Nat.le_trans hB h.size)
  obtain ⟨t0, t1⟩ := ht
  subst hn
  have HR := Lib.hid hR
  have HI := Lib.hid hI
  have hm' := hm
  unfold maxLen at hm'
  clear hR hI hm
  have hOw := hO w (Below.refl _ _)
  clear hO
  cases ho : oldD p l with
  | none =>
    rw [ho] at hOw
    simp only [oldV] at hOw
    rw [sinD_none ho]
    clear ho
    go_enter Try.func11, Try.ntmps11
    go_wp2_with fail
    refine hOw.mono ?_
    rintro e w2 ⟨rfl, hb2⟩
    clear hOw
    go_wp2_with fail
    go_ret
    exact ⟨rfl, hb2⟩
  | some k =>
    obtain ⟨hk, _, _⟩ := oldD_some ho
    rw [ho] at hOw
    simp only [oldV] at hOw
    rw [sinD_some ho, getD_at hk]
    obtain ⟨b1, o1, rfl, hb1, c0, c1⟩ := HR.out.due hk
    obtain ⟨⟨x0, x1⟩, _⟩ := HI.out _ (List.getElem_mem hk)
    obtain ⟨x, hx⟩ : ∃ x, (l[k]).1 = x := ⟨_, rfl⟩
    rw [hx] at x0 x1 c0 ⊢
    clear ho hx c1
    by_cases h : x < t
    · rw [if_pos h]
      go_enter Try.func11, Try.ntmps11
      go_wp2_with fail
      refine hOw.mono ?_
      rintro e w2 ⟨rfl, hb2⟩
      clear hOw
      have d0 := (hb2.cell (p := ⟨b1, o1 + k * 2, none⟩) (by exact Nat.lt_of_lt_of_le hb1 hB)).trans c0
      have HB2 := Lib.hid hb2
      clear c0 hb2
      go_wp2_with fail
      all_goals first | (exfalso; omega) | skip
      all_goals go_ret
      all_goals exact ⟨by first | rfl | (apply ret_int; omega), HB2.out⟩
    · rw [if_neg h]
      go_enter Try.func11, Try.ntmps11
      go_wp2_with fail
      refine hOw.mono ?_
      rintro e w2 ⟨rfl, hb2⟩
      clear hOw
      have d0 := (hb2.cell (p := ⟨b1, o1 + k * 2, none⟩) (by exact Nat.lt_of_lt_of_le hb1 hB)).trans c0
      have HB2 := Lib.hid hb2
      clear c0 hb2
      go_wp2_with fail
      all_goals first | (exfalso; omega) | skip
      all_goals go_ret
      all_goals exact ⟨by first | rfl | (apply ret_int; omega), HB2.out⟩
set_option maxRecDepth 20000 in
set_option maxHeartbeats 1000000 in
theorem RSince_any (A : Option Addr) (n c B : Nat) (l : List (Int × Int)) (p t : Int) (w : World) (hR : Rs refT w B A l) (hn : l.length = n) (hm : n ≤ maxLen) (hB : B ≤ w.heap.size) (hI : ∀ u ∈ l, DueIn u) (ht : -2147483648 ≤ t ∧ t ≤ 2147483647) :
    Calls Try.prog 12 #[.slice A n c, .int .i64 p, .int .i64 t] w (Ret (.int .i64 (sinD l p t)) w) := by
  obtain ⟨t0, t1⟩ := ht
  subst hn
  have HR := Lib.hid hR
  have HI := Lib.hid hI
  unfold maxLen at hm
  clear hR hI
  go_enter Try.func12, Try.ntmps12
  go_wp2_with fail
  go_loopw [8, 11] (fun _ i wr => ∃ k : Nat, k ≤ l.length ∧ i = .int .i64 k ∧ Hid (∀ j, (hj : j < l.length) → j < k → (l[j]'hj).2 ≤ p) ∧ Hid (Below w.heap.size w wr)) (fun _ i _ => l.length - (intOf i).toNat)
  case atStart => exact ⟨0, Nat.zero_le _, rfl, Lib.hid (fun j _ h => absurd h (by omega)), Lib.hid (Below.refl _ _)⟩
  case round =>
    obtain ⟨k, hk, rfl, HP, HBL⟩ := hrel
    by_cases hlt : k < l.length
    · obtain ⟨b1, o1, rfl, hb1, c0, c1⟩ := HR.out.ref hlt
      have d0 := (HBL.out.cell (p := ⟨b1, o1 + k * 2, none⟩) (by exact Nat.lt_of_lt_of_le hb1 hB)).trans c0
      have d1 := (HBL.out.cell (p := ⟨b1, o1 + k * 2 + 1, none⟩) (by exact Nat.lt_of_lt_of_le hb1 hB)).trans c1
      obtain ⟨⟨x0, x1⟩, _⟩ := HI.out _ (List.getElem_mem hlt)
      have hg := getD_at hlt
      obtain ⟨x, hx⟩ : ∃ x, (l[k]).1 = x := ⟨_, rfl⟩
      obtain ⟨y, hy⟩ : ∃ y, (l[k]).2 = y := ⟨_, rfl⟩
      rw [hx] at d0 x0 x1
      rw [hy] at d1
      have HY := Lib.hid hy
      have HG := Lib.hid (show (l.getD k (0, 0)).1 = x by rw [hg, hx])
      have HAL := Lib.hid (HBL.out.alloc HBL.out.size (.cells #[.int .i64 x, .int .i64 y] 48))
      clear hx hy c0 c1 hg
      by_cases h : p < y
      · have HE := Lib.hid (show sinD l p t = if x < t then t - x else 0 by rw [sinD_some (oldD_of hlt (by rw [HY.out]; exact h) (fun j hj => HP.out j (by omega) hj)), HG.out])
        by_cases hxt : x < t
        · have HE := Lib.hid (HE.out.trans (if_pos hxt))
          go_wp2_with fail
          go_ret
          exact ⟨by rw [HE.out]; first | rfl | (apply ret_int; omega), HAL.out⟩
        · have HE := Lib.hid (HE.out.trans (if_neg hxt))
          go_wp2_with fail
          go_ret
          exact ⟨by rw [HE.out]; first | rfl | (apply ret_int; omega), HAL.out⟩
      · go_wp2_with fail
        go_roundw
        case rel => exact ⟨k + 1, by omega, by go_num, Lib.hid (fun j hj hjk => by
          rcases Nat.lt_or_ge j k with h | h
          · exact HP.out j hj h
          · obtain rfl : j = k := by omega
            rw [HY.out]; omega), HAL⟩
        case measure => simp [intOf]; omega
    · have HE := Lib.hid (show sinD l p t = 0 from sinD_none (oldD_no (fun d hd => by
        obtain ⟨j, hj, rfl⟩ := List.mem_iff_getElem.1 hd
        exact HP.out j hj (by omega))))
      go_wp2_with fail
      go_ret
      exact ⟨by rw [HE.out]; rfl, HBL.out⟩
set_option maxRecDepth 20000 in
set_option maxHeartbeats 1000000 in
theorem Behind_any (A : Option Addr) (n c B : Nat) (l : List (Int × Int)) (p t : Int) (w : World) (hR : Rs dueT w B A l) (hn : l.length = n) (hm : n ≤ maxLen) (hB : B ≤ w.heap.size) (hI : ∀ u ∈ l, DueIn u) (hp : -9223372036854775808 ≤ p ∧ p ≤ 9223372036854775807) :
    Calls Try.prog 13 #[.slice A n c, .int .i64 p, .int .i32 t] w (Ret (.int .i64 (behD l p t)) w) := by
  subst hn
  have HR := Lib.hid hR
  have HI := Lib.hid hI
  have HP := Lib.hid hp
  unfold maxLen at hm
  clear hR hI hp
  go_enter Try.func13, Try.ntmps13
  go_wp2_with fail
  go_loopw [7, 14] (fun m i wr => ∃ k : Nat, k ≤ l.length ∧ i = .int .i64 k ∧ m = .int .i64 (behD (l.take k) p t) ∧ Hid (Below w.heap.size w wr)) (fun _ i _ => l.length - (intOf i).toNat)
  case atStart => exact ⟨0, Nat.zero_le _, rfl, rfl, Lib.hid (Below.refl _ _)⟩
  case round =>
    obtain ⟨k, hk, rfl, rfl, HBL⟩ := hrel
    by_cases hlt : k < l.length
    · obtain ⟨b1, o1, rfl, hb1, c0, c1⟩ := HR.out.due hlt
      have d0 := (HBL.out.cell (p := ⟨b1, o1 + k * 2, none⟩) (by exact Nat.lt_of_lt_of_le hb1 hB)).trans c0
      have d1 := (HBL.out.cell (p := ⟨b1, o1 + k * 2 + 1, none⟩) (by exact Nat.lt_of_lt_of_le hb1 hB)).trans c1
      obtain ⟨_, y0, y1⟩ := HI.out _ (List.getElem_mem hlt)
      have hs := behD_snoc (l.take k) l[k] p t
      rw [← List.take_succ_eq_append_getElem hlt] at hs
      have hge := behD_ge (l.take k) p t
      obtain ⟨x, hx⟩ : ∃ x, (l[k]).1 = x := ⟨_, rfl⟩
      obtain ⟨y, hy⟩ : ∃ y, (l[k]).2 = y := ⟨_, rfl⟩
      obtain ⟨M, hM⟩ : ∃ M, behD (l.take k) p t = M := ⟨_, rfl⟩
      rw [hx] at d0
      rw [hy] at d1 y0 y1
      rw [hx, hy, hM] at hs
      rw [hM] at hge ⊢
      obtain ⟨g0, g1⟩ := hge
      have HS := Lib.hid hs
      have HAL := Lib.hid (HBL.out.alloc HBL.out.size (.cells #[.int .i32 x, .int .i64 y] 32))
      clear hx hy c0 c1 hs hM
      by_cases ht : x < t
      · have hC := fun W => CoinSub_any y p ⟨y0, y1⟩ HP.out W
        by_cases hf : Fits (y - p)
        · simp only [if_pos hf] at hC
          obtain ⟨f0, f1⟩ := hf
          obtain ⟨z, hz⟩ : ∃ z, y - p = z := ⟨_, rfl⟩
          rw [hz] at hC f0 f1
          have HE := Lib.hid (show behD (l.take (k + 1)) p t = max M z by
            rw [HS.out, hz]
            by_cases hc : M < z
            · rw [if_pos ⟨ht, f0, f1, hc⟩]; omega
            · rw [if_neg (fun h => hc h.2.2.2)]; omega)
          clear hz
          by_cases hmz : M < z
          all_goals
            go_wp2_with fail
            refine (hC _).mono ?_
            rintro e w2 ⟨rfl, rfl⟩
            clear hC
            go_wp2_with fail
            all_goals first | (exfalso; omega) | skip
            all_goals go_roundw
            case rel => exact ⟨k + 1, by omega, by go_num, by rw [HE.out]; first | rfl | (congr 1; omega), HAL⟩
            case measure => simp [intOf]; omega
        · simp only [if_neg hf] at hC
          have HE := Lib.hid (show behD (l.take (k + 1)) p t = M by rw [HS.out, if_neg (fun h => hf ⟨h.2.1, h.2.2.1⟩)])
          clear hf
          go_wp2_with fail
          refine (hC _).mono ?_
          rintro e w2 ⟨rfl, rfl⟩
          clear hC
          go_wp2_with fail
          go_roundw
          case rel => exact ⟨k + 1, by omega, by go_num, by rw [HE.out], HAL⟩
          case measure => simp [intOf]; omega
      · have HE := Lib.hid (show behD (l.take (k + 1)) p t = M by rw [HS.out, if_neg (fun h => ht h.1)])
        go_wp2_with fail
        go_roundw
        case rel => exact ⟨k + 1, by omega, by go_num, by rw [HE.out], HAL⟩
        case measure => simp [intOf]; omega
    · have HE := Lib.hid (show l.take k = l from List.take_of_length_le (by omega))
      go_wp2_with fail
      go_ret
      exact ⟨by rw [HE.out]; rfl, HBL.out⟩
end Go.Proofs.Ytelhcjjdhlhfbab
