/-
  LateOwes: the walk. Conditions: the rows are there.
-/
import Derived.Test.YtelhcjjdhlhfbabLateE
namespace Go.Proofs.Ytelhcjjdhlhfbab
open Go.ChangeShapes Go.WideShapes Go.ChangeAt Go.RowKit

def PosL (l : List (Int × Int)) : Prop := ∀ d ∈ l, 0 ≤ d.2 ∧ d.2 ≤ 9223372036854775807
def owesB (l : List (Int × Int)) (p t : Int) : Bool := l.all (fun d => decide (t ≤ d.1) || decide (d.2 ≤ p))
theorem owesB_snoc (l : List (Int × Int)) (d : Int × Int) (p t : Int) : owesB (l ++ [d]) p t = (owesB l p t && (decide (t ≤ d.1) || decide (d.2 ≤ p))) := by simp [owesB]
theorem pos_fit {l : List (Int × Int)} {p : Int} (h : PosL l) (h0 : 0 ≤ p) (h1 : p ≤ 9223372036854775807) : ∀ d ∈ l, -9223372036854775808 ≤ d.2 - p ∧ d.2 - p ≤ 9223372036854775807 := fun d hd => by
  have := h d hd
  omega
theorem beh_more {l : List (Int × Int)} {p m t : Int} (h : PosL l) (h0 : 0 ≤ p) (hm : 0 ≤ m) (h1 : p + m ≤ 9223372036854775807) : behD l (p + m) t ≤ behD l p t := by
  obtain ⟨a1, _⟩ := behD_is l (p + m) t (pos_fit h (by omega) h1)
  obtain ⟨_, b2⟩ := behD_is l p t (pos_fit h h0 (by omega))
  have := behD_ge l p t
  rcases a1 with a1 | ⟨d, hd, hlt, a1⟩
  · omega
  · have := b2 d hd hlt
    omega
theorem beh_fit {l : List (Int × Int)} {p t : Int} (h : PosL l) (h0 : 0 ≤ p) (h1 : p ≤ 9223372036854775807) : p + behD l p t ≤ 9223372036854775807 := by
  obtain ⟨a1, _⟩ := behD_is l p t (pos_fit h h0 h1)
  rcases a1 with a1 | ⟨d, hd, hlt, a1⟩
  · omega
  · have := h d hd
    omega
theorem beh_all {l : List (Int × Int)} {p t : Int} (h : PosL l) (h0 : 0 ≤ p) (h1 : p ≤ 9223372036854775807) : behD l (p + behD l p t) t = 0 := by
  have hg := behD_ge l p t
  have hf := beh_fit (t := t) h h0 h1
  obtain ⟨a1, _⟩ := behD_is l (p + behD l p t) t (pos_fit h (by omega) hf)
  obtain ⟨_, b2⟩ := behD_is l p t (pos_fit h h0 h1)
  have := behD_ge l (p + behD l p t) t
  rcases a1 with a1 | ⟨d, hd, hlt, a1⟩
  · exact a1
  · have := b2 d hd hlt
    omega
theorem beh_none {l : List (Int × Int)} {p t : Int} (h : PosL l) (h0 : 0 ≤ p) (h1 : p ≤ 9223372036854775807) : (behD l p t == 0) = owesB l p t := by
  obtain ⟨a1, a2⟩ := behD_is l p t (pos_fit h h0 h1)
  have hg := behD_ge l p t
  rw [Bool.eq_iff_iff]
  simp only [owesB, List.all_eq_true, beq_iff_eq, Bool.or_eq_true, decide_eq_true_eq]
  constructor
  · intro e d hd
    rcases Int.lt_or_le d.1 t with hh | hh
    · have := a2 d hd hh
      right; omega
    · exact .inl hh
  · intro hall
    rcases a1 with a1 | ⟨d, hd, hlt, a1⟩
    · exact a1
    · have := hall d hd
      omega
set_option maxRecDepth 20000 in
set_option maxHeartbeats 4000000 in
theorem LateOwes_any (A : Option Addr) (n c B : Nat) (l : List (Int × Int)) (p m t : Int) (w : World) (hR : Rs dueT w B A l) (hn : l.length = n) (hnc : n ≤ c) (hm : n ≤ maxLen) (hB : B ≤ w.heap.size) (hI : ∀ u ∈ l, DueIn u) (hp : -9223372036854775808 ≤ p ∧ p ≤ 9223372036854775807) (ht : -2147483648 ≤ t ∧ t ≤ 2147483647) :
    Calls Try.prog 4 #[.slice A n c, .int .i64 p, .int .i64 m, .int .i32 t] w (Ret (.bool true) w) := by
  have hFew := fun W (h : Below w.heap.size w W) => Few_any A n c B l W (hR.below (h.mono hB)) hn hnc hm (Nat.le_trans hB h.size) hI
  have hI2 : ∀ u ∈ l.take 60, DueIn u := fun u hu => hI u (List.mem_of_mem_take hu)
  obtain ⟨l2, hl2⟩ : ∃ l2, l.take 60 = l2 := ⟨_, rfl⟩
  have h60 : l2.length ≤ 60 := by rw [← hl2, List.length_take]; omega
  have hmx : l2.length ≤ maxLen := by unfold maxLen; omega
  rw [hl2] at hFew hI2
  clear hR hI hl2
  obtain ⟨p0, p1⟩ := hp
  obtain ⟨t0, t1⟩ := ht
  go_enter Try.func4, Try.ntmps4
  go_wp2_with fail
  refine (awake12 _).mono ?_
  rintro e w1 ⟨rfl, hb1⟩
  have HB1 := Lib.hid hb1
  clear hb1
  go_wp2_with fail
  refine (hFew w1 HB1.out).mono ?_
  rintro e w2 ⟨A1, A2, c1, c2, rfl, hr1, hr2, hb2⟩
  have HB2 := Lib.hid (HB1.out.trans (hb2.mono HB1.out.size))
  have HR1 := Lib.hid hr1
  have HR2 := Lib.hid hr2
  clear hFew hb2 hr1 hr2
  go_wp2_with fail
  go_loopw [11, 25] (fun _ i wr => ∃ k : Nat, k ≤ l2.length ∧ i = .int .i64 k ∧ Hid (∀ j, (hj : j < l2.length) → j < k → 0 ≤ (l2[j]'hj).2) ∧ Hid (Below w2.heap.size w2 wr) ∧ Hid (Below w.heap.size w wr)) (fun _ i _ => l2.length - (intOf i).toNat)
  case atStart => exact ⟨0, Nat.zero_le _, rfl, Lib.hid (fun j _ h => absurd h (by omega)), Lib.hid (Below.refl _ _), HB2⟩
  case round =>
    obtain ⟨k, hk, rfl, HP, HW, HK⟩ := hrel
    by_cases hlt : k < l2.length
    · obtain ⟨b1, o1, rfl, hb1, c0, c1'⟩ := HR1.out.due hlt
      have d0 := (HW.out.cell (p := ⟨b1, o1 + k * 2, none⟩) hb1).trans c0
      have d1 := (HW.out.cell (p := ⟨b1, o1 + k * 2 + 1, none⟩) hb1).trans c1'
      obtain ⟨x, hx⟩ : ∃ x, (l2[k]).1 = x := ⟨_, rfl⟩
      obtain ⟨y, hy⟩ : ∃ y, (l2[k]).2 = y := ⟨_, rfl⟩
      rw [hx] at d0
      rw [hy] at d1
      have HW4 := Lib.hid (HW.out.alloc HW.out.size (.cells #[.int .i32 x, .int .i64 y] 32))
      have HK4 := Lib.hid (HK.out.alloc HK.out.size (.cells #[.int .i32 x, .int .i64 y] 32))
      have HX := Lib.hid hx
      have HY := Lib.hid hy
      clear hx hy c0 c1'
      by_cases hy0 : y < 0
      · go_wp2_with fail
        go_ret
        exact ⟨rfl, HK4.out⟩
      · go_wp2_with fail
        go_roundw
        case rel => exact ⟨k + 1, by omega, by go_num, Lib.hid (fun j hj hjk => by
          rcases Nat.lt_or_ge j k with h | h
          · exact HP.out j hj h
          · obtain rfl : j = k := by omega
            rw [HY.out]; omega), HW4, HK4⟩
        case measure => simp [intOf]; omega
    · have hpos : PosL l2 := fun d hd => by
        obtain ⟨j, hj, rfl⟩ := List.mem_iff_getElem.1 hd
        exact ⟨HP.out j hj (by omega), (hI2 _ hd).2.2⟩
      clear HP
      rcases (show p < 0 ∨ (0 ≤ p ∧ m < 0) ∨ (0 ≤ p ∧ 0 ≤ m ∧ 1000000000000 < m) ∨ (0 ≤ p ∧ 0 ≤ m ∧ m ≤ 1000000000000 ∧ 1000000000000000 < p) ∨ (0 ≤ p ∧ 0 ≤ m ∧ m ≤ 1000000000000 ∧ p ≤ 1000000000000000) by omega) with h | ⟨h, h'⟩ | ⟨h, h', h''⟩ | ⟨h, h', h'', h3⟩ | ⟨h, h', h'', h3⟩
      · clear hpos
        go_wp2_with fail
        go_ret
        exact ⟨rfl, HK.out⟩
      · clear hpos
        go_wp2_with fail
        go_ret
        exact ⟨rfl, HK.out⟩
      · clear hpos
        go_wp2_with fail
        go_ret
        exact ⟨rfl, HK.out⟩
      · clear hpos
        go_wp2_with fail
        go_ret
        exact ⟨rfl, HK.out⟩
      · have hN := behD_ge l2 p t
        have hmore := beh_more (t := t) hpos h h' (by omega)
        have hfit := beh_fit (t := t) hpos h (by omega)
        have hall := beh_all (t := t) hpos h (by omega)
        have hnone := beh_none (t := t) hpos h (by omega)
        have hRf := pos_fit hpos h (by omega)
        obtain ⟨N, hNN⟩ : ∃ N, behD l2 p t = N := ⟨_, rfl⟩
        obtain ⟨M, hMM⟩ : ∃ M, behD l2 (p + m) t = M := ⟨_, rfl⟩
        rw [hNN] at hN hmore hfit hall hnone
        rw [hMM] at hmore
        obtain ⟨n0, n1⟩ := hN
        have HNN := Lib.hid hNN
        have HMM := Lib.hid hMM
        have HALL := Lib.hid hall
        have HNONE := Lib.hid hnone
        have HRF := Lib.hid hRf
        have hle : ¬ N < M := by omega
        clear hNN hMM hall hnone hRf hmore hpos
        have hC := fun W (hW : Below w2.heap.size w2 W) => Behind_any A1 l2.length c1 w2.heap.size l2 p t W (HR1.out.below hW) rfl hmx hW.size hI2 ⟨by omega, by omega⟩
        rw [HNN.out] at hC
        go_wp2_with fail
        refine (hC _ HW.out).mono ?_
        rintro e w4 ⟨rfl, hb4⟩
        have HW4 := Lib.hid (HW.out.trans (hb4.mono HW.out.size))
        have HK4 := Lib.hid (HK.out.trans (hb4.mono HK.out.size))
        clear hb4 hC
        have hC := fun W (hW : Below w2.heap.size w2 W) => RBehind_any A2 l2.length c2 w2.heap.size l2 p t W (HR2.out.below hW) rfl hmx hW.size HRF.out
        rw [HNN.out] at hC
        go_wp2_with fail
        refine (hC _ HW4.out).mono ?_
        rintro e w5 ⟨rfl, hb5⟩
        have HW5 := Lib.hid (HW4.out.trans (hb5.mono HW4.out.size))
        have HK5 := Lib.hid (HK4.out.trans (hb5.mono HK4.out.size))
        clear hb5 hC
        have hC := fun W (hW : Below w2.heap.size w2 W) => Behind_any A1 l2.length c1 w2.heap.size l2 (p + m) t W (HR1.out.below hW) rfl hmx hW.size hI2 ⟨by omega, by omega⟩
        rw [HMM.out] at hC
        go_wp2_with fail
        refine (hC _ HW5.out).mono ?_
        rintro e w6 ⟨rfl, hb6⟩
        have HW6 := Lib.hid (HW5.out.trans (hb6.mono HW5.out.size))
        have HK6 := Lib.hid (HK5.out.trans (hb6.mono HK5.out.size))
        clear hb6 hC
        go_wp2_with fail
        clear HW HK hk hlt
        go_loopw [13, 15, 70] (fun q _ i wr => ∃ k : Nat, k ≤ l2.length ∧ i = .int .i64 k ∧ q = .bool (owesB (l2.take k) p t) ∧ Hid (Below w2.heap.size w2 wr) ∧ Hid (Below w.heap.size w wr)) (fun _ _ i _ => l2.length - (intOf i).toNat)
        case atStart => exact ⟨0, Nat.zero_le _, rfl, rfl, HW6, HK6⟩
        case round =>
          clear HW4 HK4
          obtain ⟨k, hk, rfl, rfl, HW, HK⟩ := hrel
          by_cases hlt : k < l2.length
          · have hs := owesB_snoc (l2.take k) l2[k] p t
            rw [← List.take_succ_eq_append_getElem hlt] at hs
            obtain ⟨b1, o1, rfl, hb1, c0, c1'⟩ := HR1.out.due hlt
            have d0 := (HW.out.cell (p := ⟨b1, o1 + k * 2, none⟩) hb1).trans c0
            have d1 := (HW.out.cell (p := ⟨b1, o1 + k * 2 + 1, none⟩) hb1).trans c1'
            obtain ⟨x, hx⟩ : ∃ x, (l2[k]).1 = x := ⟨_, rfl⟩
            obtain ⟨y, hy⟩ : ∃ y, (l2[k]).2 = y := ⟨_, rfl⟩
            rw [hx] at d0
            rw [hy] at d1
            have HW4 := Lib.hid (HW.out.alloc HW.out.size (.cells #[.int .i32 x, .int .i64 y] 32))
            have HK4 := Lib.hid (HK.out.alloc HK.out.size (.cells #[.int .i32 x, .int .i64 y] 32))
            have HX := Lib.hid hx
            have HY := Lib.hid hy
            rw [hx, hy] at hs
            clear hx hy c0 c1'
            obtain ⟨q, hq⟩ : ∃ q, owesB (l2.take k) p t = q := ⟨_, rfl⟩
            rw [hq] at hs ⊢
            have HS := Lib.hid hs
            clear hs hq
            cases q
            · have HS := Lib.hid (show owesB (l2.take (k + 1)) p t = false by rw [HS.out]; rfl)
              go_wp2_with fail
              go_roundw
              case rel => exact ⟨k + 1, by omega, by go_num, by rw [HS.out], HW4, HK4⟩
              case measure => simp [intOf]; omega
            · by_cases hxt : t ≤ x
              · have HS := Lib.hid (show owesB (l2.take (k + 1)) p t = true by rw [HS.out, decide_eq_true hxt]; rfl)
                go_wp2_with fail
                go_roundw
                case rel => exact ⟨k + 1, by omega, by go_num, by rw [HS.out], HW4, HK4⟩
                case measure => simp [intOf]; omega
              · by_cases hyp : y ≤ p
                · have HS := Lib.hid (show owesB (l2.take (k + 1)) p t = true by rw [HS.out, decide_eq_true hyp]; simp)
                  go_wp2_with fail
                  go_roundw
                  case rel => exact ⟨k + 1, by omega, by go_num, by rw [HS.out], HW4, HK4⟩
                  case measure => simp [intOf]; omega
                · have HS := Lib.hid (show owesB (l2.take (k + 1)) p t = false by rw [HS.out, decide_eq_false hyp, decide_eq_false hxt]; rfl)
                  go_wp2_with fail
                  go_roundw
                  case rel => exact ⟨k + 1, by omega, by go_num, by rw [HS.out], HW4, HK4⟩
                  case measure => simp [intOf]; omega
          · have HE := Lib.hid (show owesB (l2.take k) p t = (N == 0) by rw [List.take_of_length_le (by omega), HNONE.out])
            rw [HE.out]
            by_cases hN0 : N = 0
            · subst hN0
              have hC := fun W (hW : Below w2.heap.size w2 W) => Behind_any A1 l2.length c1 w2.heap.size l2 p t W (HR1.out.below hW) rfl hmx hW.size hI2 ⟨by omega, by omega⟩
              rw [HNN.out] at hC
              go_wp2_with fail
              refine (hC _ HW.out).mono ?_
              rintro e w7 ⟨rfl, hb7⟩
              have HK7 := Lib.hid (HK.out.trans (hb7.mono HK.out.size))
              clear hb7 hC
              go_wp2_with fail
              go_ret
              exact ⟨by first | rfl | simp, HK7.out⟩
            · have hN1 : (N == 0) = false := by rw [beq_eq_false_iff_ne]; exact hN0
              have hC := fun W (hW : Below w2.heap.size w2 W) => Behind_any A1 l2.length c1 w2.heap.size l2 (p + N) t W (HR1.out.below hW) rfl hmx hW.size hI2 ⟨by omega, by omega⟩
              rw [HALL.out] at hC
              go_wp2_with fail
              refine (hC _ HW.out).mono ?_
              rintro e w7 ⟨rfl, hb7⟩
              have HK7 := Lib.hid (HK.out.trans (hb7.mono HK.out.size))
              clear hb7 hC
              go_wp2_with fail
              go_ret
              exact ⟨by first | rfl | simp, HK7.out⟩
end Go.Proofs.Ytelhcjjdhlhfbab
