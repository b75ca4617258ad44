/-
  LateGoes: the walk. Conditions: the rows are there.
-/
import Derived.Test.YtelhcjjdhlhfbabLateE
namespace Go.Proofs.Ytelhcjjdhlhfbab
open Go.ChangeShapes Go.WideShapes Go.ChangeAt Go.RowKit

theorem old_le {l : List (Int × Int)} {p q : Int} {i j : Nat} (hpq : p ≤ q) (h : oldD p l = some i) (g : oldD q l = some j) : i ≤ j := by
  obtain ⟨h1, h2, h3⟩ := oldD_some h
  obtain ⟨g1, g2, g3⟩ := oldD_some g
  rcases Nat.lt_or_ge j i with h | h
  · have := h3 j h
    omega
  · exact h
theorem old_no {l : List (Int × Int)} {p q : Int} (hpq : p ≤ q) (h : oldD p l = none) : oldD q l = none := oldD_no (fun d hd => by have := oldD_none h d hd; omega)
theorem old_lt {l : List (Int × Int)} {p : Int} {j : Nat} (h : oldD p l = some j) : j < l.length := (oldD_some h).choose
theorem sin_ge (l : List (Int × Int)) (p t : Int) : 0 ≤ sinD l p t := by
  unfold sinD
  split
  · omega
  · split <;> omega
set_option maxRecDepth 20000 in
set_option maxHeartbeats 4000000 in
theorem LateGoes_any (A : Option Addr) (n c B : Nat) (l : List (Int × Int)) (p m : Nat) (t : Int) (w : World) (hR : Rs dueT w B A l) (hn : l.length = n) (hnc : n ≤ c) (hm : n ≤ maxLen) (hB : B ≤ w.heap.size) (hI : ∀ u ∈ l, DueIn u) (hp : p < 4294967296) (hmm : m < 4294967296) (ht : -2147483648 ≤ t ∧ t ≤ 2147483647) :
    Calls Try.prog 7 #[.slice A n c, .int .u32 (p : Int), .int .u32 (m : Int), .int .i32 t] w (Ret (.bool true) w) := by
  have hFew := fun W (h : Below w.heap.size w W) => Few_any A n c B l W (hR.below (h.mono hB)) hn hnc hm (Nat.le_trans hB h.size) hI
  have hI2 : ∀ u ∈ l.take 60, DueIn u := fun u hu => hI u (List.mem_of_mem_take hu)
  obtain ⟨l2, hl2⟩ : ∃ l2, l.take 60 = l2 := ⟨_, rfl⟩
  have h60 : l2.length ≤ 60 := by rw [← hl2, List.length_take]; omega
  have hmx : l2.length ≤ maxLen := by unfold maxLen; omega
  rw [hl2] at hFew hI2
  clear hR hI hl2
  obtain ⟨t0, t1⟩ := ht
  rcases (show t < 0 ∨ 3652057 < t ∨ (0 ≤ t ∧ t ≤ 3652057) by omega) with h | h | ⟨h, h'⟩
  · go_enter Try.func7, Try.ntmps7
    go_wp2_with fail
    refine (awake12 _).mono ?_
    rintro e w1 ⟨rfl, hb1⟩
    have HB1 := Lib.hid hb1
    clear hb1
    go_wp2_with fail
    refine (hFew w1 HB1.out).mono ?_
    rintro e w2 ⟨A1, A2, c1, c2, rfl, hr1, hr2, hb2⟩
    have HB2 := Lib.hid (HB1.out.trans (hb2.mono HB1.out.size))
    have HR1 := Lib.hid hr1
    have HR2 := Lib.hid hr2
    clear hFew hb2 hr1 hr2
    go_wp2_with fail
    go_ret
    exact ⟨rfl, HB2.out⟩
  · go_enter Try.func7, Try.ntmps7
    go_wp2_with fail
    refine (awake12 _).mono ?_
    rintro e w1 ⟨rfl, hb1⟩
    have HB1 := Lib.hid hb1
    clear hb1
    go_wp2_with fail
    refine (hFew w1 HB1.out).mono ?_
    rintro e w2 ⟨A1, A2, c1, c2, rfl, hr1, hr2, hb2⟩
    have HB2 := Lib.hid (HB1.out.trans (hb2.mono HB1.out.size))
    have HR1 := Lib.hid hr1
    have HR2 := Lib.hid hr2
    clear hFew hb2 hr1 hr2
    go_wp2_with fail
    go_ret
    exact ⟨rfl, HB2.out⟩
  · cases ho : oldD (p : Int) l2 with
    | none =>
      have hA := Lib.hid (sinD_none (t := t) ho)
      have hBb := Lib.hid (sinD_none (t := t + 1) ho)
      have hQ := Lib.hid (old_no (q := (p : Int) + (m : Int)) (by omega) ho)
      have HO := Lib.hid ho
      clear ho
      go_enter Try.func7, Try.ntmps7
      go_wp2_with fail
      refine (awake12 _).mono ?_
      rintro e w1 ⟨rfl, hb1⟩
      have HB1 := Lib.hid hb1
      clear hb1
      go_wp2_with fail
      refine (hFew w1 HB1.out).mono ?_
      rintro e w2 ⟨A1, A2, c1, c2, rfl, hr1, hr2, hb2⟩
      have HB2 := Lib.hid (HB1.out.trans (hb2.mono HB1.out.size))
      have HR1 := Lib.hid hr1
      have HR2 := Lib.hid hr2
      clear hFew hb2 hr1 hr2
      have hC := fun W (h : Below w2.heap.size w2 W) => Since_any A1 l2.length c1 w2.heap.size l2 (p : Int) t W (HR1.out.below h) rfl hmx h.size hI2 ⟨t0, t1⟩
      rw [hA.out] at hC
      go_wp2_with fail
      refine (hC _ (Below.refl _ _)).mono ?_
      rintro e w3 ⟨rfl, hb3⟩
      have HW3 := Lib.hid (Below.trans (Below.refl w2.heap.size w2) (hb3.mono (Below.size (Below.refl w2.heap.size w2))))
      have HB3 := Lib.hid (Below.trans HB2.out (hb3.mono (Below.size HB2.out)))
      clear hb3 hC
      have hC := fun W (h : Below w2.heap.size w2 W) => Since_any A1 l2.length c1 w2.heap.size l2 (p : Int) (t + 1) W (HR1.out.below h) rfl hmx h.size hI2 ⟨by omega, by omega⟩
      rw [hBb.out] at hC
      go_wp2_with fail
      refine (hC _ HW3.out).mono ?_
      rintro e w4 ⟨rfl, hb4⟩
      have HW4 := Lib.hid (Below.trans HW3.out (hb4.mono (Below.size HW3.out)))
      have HB4 := Lib.hid (Below.trans HB3.out (hb4.mono (Below.size HB3.out)))
      clear hb4 hC
      have hC := fun W (h : Below w2.heap.size w2 W) => Oldest_any A1 l2.length c1 w2.heap.size l2 (p : Int) W (HR1.out.below h) rfl hmx h.size
      rw [HO.out] at hC
      simp only [oldV] at hC
      go_wp2_with fail
      refine (hC _ HW4.out).mono ?_
      rintro e w5 ⟨rfl, hb5⟩
      have HW5 := Lib.hid (Below.trans HW4.out (hb5.mono (Below.size HW4.out)))
      have HB5 := Lib.hid (Below.trans HB4.out (hb5.mono (Below.size HB4.out)))
      clear hb5 hC
      have hC := fun W (h : Below w2.heap.size w2 W) => Oldest_any A1 l2.length c1 w2.heap.size l2 ((p : Int) + (m : Int)) W (HR1.out.below h) rfl hmx h.size
      rw [hQ.out] at hC
      simp only [oldV] at hC
      go_wp2_with fail
      refine (hC _ HW5.out).mono ?_
      rintro e w6 ⟨rfl, hb6⟩
      have HW6 := Lib.hid (Below.trans HW5.out (hb6.mono (Below.size HW5.out)))
      have HB6 := Lib.hid (Below.trans HB5.out (hb6.mono (Below.size HB5.out)))
      clear hb6 hC
      go_wp2_with fail
      go_ret
      exact ⟨by first | rfl | simp, HB6.out⟩
    | some i =>
      have hil := old_lt ho
      have hQ : oldD ((p : Int) + (m : Int)) l2 = none ∨ ∃ j, oldD ((p : Int) + (m : Int)) l2 = some j ∧ i ≤ j := by
        cases hq : oldD ((p : Int) + (m : Int)) l2 with
        | none => exact .inl rfl
        | some j => exact .inr ⟨j, rfl, old_le (by omega) ho hq⟩
      obtain ⟨x, hx⟩ : ∃ x, (l2[i]).1 = x := ⟨_, rfl⟩
      have hA := sinD_some (t := t) ho
      have hBb := sinD_some (t := t + 1) ho
      rw [getD_at hil, hx] at hA hBb
      have HX := Lib.hid hx
      have HO := Lib.hid ho
      clear ho hx
      by_cases hxt : x ≤ t
      · have hab : sinD l2 (p : Int) (t + 1) = sinD l2 (p : Int) t + 1 := by
          rw [hA, hBb]
          repeat' split
          all_goals omega
        have a0 := sin_ge l2 (p : Int) t
        have a1 : sinD l2 (p : Int) t ≤ 3652057 + 2147483648 := by
          have := (hI2 _ (List.getElem_mem hil)).1.1
          rw [HX.out] at this
          rw [hA]
          split <;> omega
        obtain ⟨a, ha⟩ : ∃ a, sinD l2 (p : Int) t = a := ⟨_, rfl⟩
        rw [ha] at hab a0 a1
        clear hA hBb
        have hA := Lib.hid ha
        have hBb := Lib.hid hab
        clear ha hab
        rcases hQ with hq | ⟨j, hq, hij⟩
        · have hQ := Lib.hid hq
          clear hq
          go_enter Try.func7, Try.ntmps7
          go_wp2_with fail
          refine (awake12 _).mono ?_
          rintro e w1 ⟨rfl, hb1⟩
          have HB1 := Lib.hid hb1
          clear hb1
          go_wp2_with fail
          refine (hFew w1 HB1.out).mono ?_
          rintro e w2 ⟨A1, A2, c1, c2, rfl, hr1, hr2, hb2⟩
          have HB2 := Lib.hid (HB1.out.trans (hb2.mono HB1.out.size))
          have HR1 := Lib.hid hr1
          have HR2 := Lib.hid hr2
          clear hFew hb2 hr1 hr2
          obtain ⟨b0, o0, rfl, hb0, d0, _⟩ := HR1.out.due hil
          rw [HX.out] at d0
          have hC := fun W (h : Below w2.heap.size w2 W) => Since_any (some ⟨b0, o0, none⟩) l2.length c1 w2.heap.size l2 (p : Int) t W (HR1.out.below h) rfl hmx h.size hI2 ⟨t0, t1⟩
          rw [hA.out] at hC
          go_wp2_with fail
          refine (hC _ (Below.refl _ _)).mono ?_
          rintro e w3 ⟨rfl, hb3⟩
          have HW3 := Lib.hid (Below.trans (Below.refl w2.heap.size w2) (hb3.mono (Below.size (Below.refl w2.heap.size w2))))
          have HB3 := Lib.hid (Below.trans HB2.out (hb3.mono (Below.size HB2.out)))
          clear hb3 hC
          have hC := fun W (h : Below w2.heap.size w2 W) => Since_any (some ⟨b0, o0, none⟩) l2.length c1 w2.heap.size l2 (p : Int) (t + 1) W (HR1.out.below h) rfl hmx h.size hI2 ⟨by omega, by omega⟩
          rw [hBb.out] at hC
          go_wp2_with fail
          refine (hC _ HW3.out).mono ?_
          rintro e w4 ⟨rfl, hb4⟩
          have HW4 := Lib.hid (Below.trans HW3.out (hb4.mono (Below.size HW3.out)))
          have HB4 := Lib.hid (Below.trans HB3.out (hb4.mono (Below.size HB3.out)))
          clear hb4 hC
          have hC := fun W (h : Below w2.heap.size w2 W) => Oldest_any (some ⟨b0, o0, none⟩) l2.length c1 w2.heap.size l2 (p : Int) W (HR1.out.below h) rfl hmx h.size
          rw [HO.out] at hC
          simp only [oldV] at hC
          go_wp2_with fail
          refine (hC _ HW4.out).mono ?_
          rintro e w5 ⟨rfl, hb5⟩
          have HW5 := Lib.hid (Below.trans HW4.out (hb5.mono (Below.size HW4.out)))
          have HB5 := Lib.hid (Below.trans HB4.out (hb5.mono (Below.size HB4.out)))
          clear hb5 hC
          have hC := fun W (h : Below w2.heap.size w2 W) => Oldest_any (some ⟨b0, o0, none⟩) l2.length c1 w2.heap.size l2 ((p : Int) + (m : Int)) W (HR1.out.below h) rfl hmx h.size
          rw [hQ.out] at hC
          simp only [oldV] at hC
          go_wp2_with fail
          refine (hC _ HW5.out).mono ?_
          rintro e w6 ⟨rfl, hb6⟩
          have HW6 := Lib.hid (Below.trans HW5.out (hb6.mono (Below.size HW5.out)))
          have HB6 := Lib.hid (Below.trans HB5.out (hb6.mono (Below.size HB5.out)))
          clear hb6 hC
          have d6 := (HW6.out.cell (p := ⟨b0, o0 + i * 2, none⟩) hb0).trans d0
          clear d0
          go_wp2_with fail
          go_ret
          exact ⟨by first | rfl | simp, HB6.out⟩
        · have hQ := Lib.hid hq
          have hij2 : (i : Int) ≤ (j : Int) := by omega
          clear hq
          go_enter Try.func7, Try.ntmps7
          go_wp2_with fail
          refine (awake12 _).mono ?_
          rintro e w1 ⟨rfl, hb1⟩
          have HB1 := Lib.hid hb1
          clear hb1
          go_wp2_with fail
          refine (hFew w1 HB1.out).mono ?_
          rintro e w2 ⟨A1, A2, c1, c2, rfl, hr1, hr2, hb2⟩
          have HB2 := Lib.hid (HB1.out.trans (hb2.mono HB1.out.size))
          have HR1 := Lib.hid hr1
          have HR2 := Lib.hid hr2
          clear hFew hb2 hr1 hr2
          obtain ⟨b0, o0, rfl, hb0, d0, _⟩ := HR1.out.due hil
          rw [HX.out] at d0
          have hC := fun W (h : Below w2.heap.size w2 W) => Since_any (some ⟨b0, o0, none⟩) l2.length c1 w2.heap.size l2 (p : Int) t W (HR1.out.below h) rfl hmx h.size hI2 ⟨t0, t1⟩
          rw [hA.out] at hC
          go_wp2_with fail
          refine (hC _ (Below.refl _ _)).mono ?_
          rintro e w3 ⟨rfl, hb3⟩
          have HW3 := Lib.hid (Below.trans (Below.refl w2.heap.size w2) (hb3.mono (Below.size (Below.refl w2.heap.size w2))))
          have HB3 := Lib.hid (Below.trans HB2.out (hb3.mono (Below.size HB2.out)))
          clear hb3 hC
          have hC := fun W (h : Below w2.heap.size w2 W) => Since_any (some ⟨b0, o0, none⟩) l2.length c1 w2.heap.size l2 (p : Int) (t + 1) W (HR1.out.below h) rfl hmx h.size hI2 ⟨by omega, by omega⟩
          rw [hBb.out] at hC
          go_wp2_with fail
          refine (hC _ HW3.out).mono ?_
          rintro e w4 ⟨rfl, hb4⟩
          have HW4 := Lib.hid (Below.trans HW3.out (hb4.mono (Below.size HW3.out)))
          have HB4 := Lib.hid (Below.trans HB3.out (hb4.mono (Below.size HB3.out)))
          clear hb4 hC
          have hC := fun W (h : Below w2.heap.size w2 W) => Oldest_any (some ⟨b0, o0, none⟩) l2.length c1 w2.heap.size l2 (p : Int) W (HR1.out.below h) rfl hmx h.size
          rw [HO.out] at hC
          simp only [oldV] at hC
          go_wp2_with fail
          refine (hC _ HW4.out).mono ?_
          rintro e w5 ⟨rfl, hb5⟩
          have HW5 := Lib.hid (Below.trans HW4.out (hb5.mono (Below.size HW4.out)))
          have HB5 := Lib.hid (Below.trans HB4.out (hb5.mono (Below.size HB4.out)))
          clear hb5 hC
          have hC := fun W (h : Below w2.heap.size w2 W) => Oldest_any (some ⟨b0, o0, none⟩) l2.length c1 w2.heap.size l2 ((p : Int) + (m : Int)) W (HR1.out.below h) rfl hmx h.size
          rw [hQ.out] at hC
          simp only [oldV] at hC
          go_wp2_with fail
          refine (hC _ HW5.out).mono ?_
          rintro e w6 ⟨rfl, hb6⟩
          have HW6 := Lib.hid (Below.trans HW5.out (hb6.mono (Below.size HW5.out)))
          have HB6 := Lib.hid (Below.trans HB5.out (hb6.mono (Below.size HB5.out)))
          clear hb6 hC
          have d6 := (HW6.out.cell (p := ⟨b0, o0 + i * 2, none⟩) hb0).trans d0
          clear d0
          go_wp2_with fail
          go_ret
          exact ⟨by first | rfl | simp, HB6.out⟩
      · have hA0 : sinD l2 (p : Int) t = 0 := by
          rw [hA]
          split <;> omega
        have hB0 : sinD l2 (p : Int) (t + 1) = 0 := by
          rw [hBb]
          split <;> omega
        clear hA hBb
        have hA := Lib.hid hA0
        have hBb := Lib.hid hB0
        clear hA0 hB0
        rcases hQ with hq | ⟨j, hq, hij⟩
        · have hQ := Lib.hid hq
          clear hq
          go_enter Try.func7, Try.ntmps7
          go_wp2_with fail
          refine (awake12 _).mono ?_
          rintro e w1 ⟨rfl, hb1⟩
          have HB1 := Lib.hid hb1
          clear hb1
          go_wp2_with fail
          refine (hFew w1 HB1.out).mono ?_
          rintro e w2 ⟨A1, A2, c1, c2, rfl, hr1, hr2, hb2⟩
          have HB2 := Lib.hid (HB1.out.trans (hb2.mono HB1.out.size))
          have HR1 := Lib.hid hr1
          have HR2 := Lib.hid hr2
          clear hFew hb2 hr1 hr2
          obtain ⟨b0, o0, rfl, hb0, d0, _⟩ := HR1.out.due hil
          rw [HX.out] at d0
          have hC := fun W (h : Below w2.heap.size w2 W) => Since_any (some ⟨b0, o0, none⟩) l2.length c1 w2.heap.size l2 (p : Int) t W (HR1.out.below h) rfl hmx h.size hI2 ⟨t0, t1⟩
          rw [hA.out] at hC
          go_wp2_with fail
          refine (hC _ (Below.refl _ _)).mono ?_
          rintro e w3 ⟨rfl, hb3⟩
          have HW3 := Lib.hid (Below.trans (Below.refl w2.heap.size w2) (hb3.mono (Below.size (Below.refl w2.heap.size w2))))
          have HB3 := Lib.hid (Below.trans HB2.out (hb3.mono (Below.size HB2.out)))
          clear hb3 hC
          have hC := fun W (h : Below w2.heap.size w2 W) => Since_any (some ⟨b0, o0, none⟩) l2.length c1 w2.heap.size l2 (p : Int) (t + 1) W (HR1.out.below h) rfl hmx h.size hI2 ⟨by omega, by omega⟩
          rw [hBb.out] at hC
          go_wp2_with fail
          refine (hC _ HW3.out).mono ?_
          rintro e w4 ⟨rfl, hb4⟩
          have HW4 := Lib.hid (Below.trans HW3.out (hb4.mono (Below.size HW3.out)))
          have HB4 := Lib.hid (Below.trans HB3.out (hb4.mono (Below.size HB3.out)))
          clear hb4 hC
          have hC := fun W (h : Below w2.heap.size w2 W) => Oldest_any (some ⟨b0, o0, none⟩) l2.length c1 w2.heap.size l2 (p : Int) W (HR1.out.below h) rfl hmx h.size
          rw [HO.out] at hC
          simp only [oldV] at hC
          go_wp2_with fail
          refine (hC _ HW4.out).mono ?_
          rintro e w5 ⟨rfl, hb5⟩
          have HW5 := Lib.hid (Below.trans HW4.out (hb5.mono (Below.size HW4.out)))
          have HB5 := Lib.hid (Below.trans HB4.out (hb5.mono (Below.size HB4.out)))
          clear hb5 hC
          have hC := fun W (h : Below w2.heap.size w2 W) => Oldest_any (some ⟨b0, o0, none⟩) l2.length c1 w2.heap.size l2 ((p : Int) + (m : Int)) W (HR1.out.below h) rfl hmx h.size
          rw [hQ.out] at hC
          simp only [oldV] at hC
          go_wp2_with fail
          refine (hC _ HW5.out).mono ?_
          rintro e w6 ⟨rfl, hb6⟩
          have HW6 := Lib.hid (Below.trans HW5.out (hb6.mono (Below.size HW5.out)))
          have HB6 := Lib.hid (Below.trans HB5.out (hb6.mono (Below.size HB5.out)))
          clear hb6 hC
          have d6 := (HW6.out.cell (p := ⟨b0, o0 + i * 2, none⟩) hb0).trans d0
          clear d0
          go_wp2_with fail
          go_ret
          exact ⟨by first | rfl | simp, HB6.out⟩
        · have hQ := Lib.hid hq
          have hij2 : (i : Int) ≤ (j : Int) := by omega
          clear hq
          go_enter Try.func7, Try.ntmps7
          go_wp2_with fail
          refine (awake12 _).mono ?_
          rintro e w1 ⟨rfl, hb1⟩
          have HB1 := Lib.hid hb1
          clear hb1
          go_wp2_with fail
          refine (hFew w1 HB1.out).mono ?_
          rintro e w2 ⟨A1, A2, c1, c2, rfl, hr1, hr2, hb2⟩
          have HB2 := Lib.hid (HB1.out.trans (hb2.mono HB1.out.size))
          have HR1 := Lib.hid hr1
          have HR2 := Lib.hid hr2
          clear hFew hb2 hr1 hr2
          obtain ⟨b0, o0, rfl, hb0, d0, _⟩ := HR1.out.due hil
          rw [HX.out] at d0
          have hC := fun W (h : Below w2.heap.size w2 W) => Since_any (some ⟨b0, o0, none⟩) l2.length c1 w2.heap.size l2 (p : Int) t W (HR1.out.below h) rfl hmx h.size hI2 ⟨t0, t1⟩
          rw [hA.out] at hC
          go_wp2_with fail
          refine (hC _ (Below.refl _ _)).mono ?_
          rintro e w3 ⟨rfl, hb3⟩
          have HW3 := Lib.hid (Below.trans (Below.refl w2.heap.size w2) (hb3.mono (Below.size (Below.refl w2.heap.size w2))))
          have HB3 := Lib.hid (Below.trans HB2.out (hb3.mono (Below.size HB2.out)))
          clear hb3 hC
          have hC := fun W (h : Below w2.heap.size w2 W) => Since_any (some ⟨b0, o0, none⟩) l2.length c1 w2.heap.size l2 (p : Int) (t + 1) W (HR1.out.below h) rfl hmx h.size hI2 ⟨by omega, by omega⟩
          rw [hBb.out] at hC
          go_wp2_with fail
          refine (hC _ HW3.out).mono ?_
          rintro e w4 ⟨rfl, hb4⟩
          have HW4 := Lib.hid (Below.trans HW3.out (hb4.mono (Below.size HW3.out)))
          have HB4 := Lib.hid (Below.trans HB3.out (hb4.mono (Below.size HB3.out)))
          clear hb4 hC
          have hC := fun W (h : Below w2.heap.size w2 W) => Oldest_any (some ⟨b0, o0, none⟩) l2.length c1 w2.heap.size l2 (p : Int) W (HR1.out.below h) rfl hmx h.size
          rw [HO.out] at hC
          simp only [oldV] at hC
          go_wp2_with fail
          refine (hC _ HW4.out).mono ?_
          rintro e w5 ⟨rfl, hb5⟩
          have HW5 := Lib.hid (Below.trans HW4.out (hb5.mono (Below.size HW4.out)))
          have HB5 := Lib.hid (Below.trans HB4.out (hb5.mono (Below.size HB4.out)))
          clear hb5 hC
          have hC := fun W (h : Below w2.heap.size w2 W) => Oldest_any (some ⟨b0, o0, none⟩) l2.length c1 w2.heap.size l2 ((p : Int) + (m : Int)) W (HR1.out.below h) rfl hmx h.size
          rw [hQ.out] at hC
          simp only [oldV] at hC
          go_wp2_with fail
          refine (hC _ HW5.out).mono ?_
          rintro e w6 ⟨rfl, hb6⟩
          have HW6 := Lib.hid (Below.trans HW5.out (hb6.mono (Below.size HW5.out)))
          have HB6 := Lib.hid (Below.trans HB5.out (hb6.mono (Below.size HB5.out)))
          clear hb6 hC
          have d6 := (HW6.out.cell (p := ⟨b0, o0 + i * 2, none⟩) hb0).trans d0
          clear d0
          go_wp2_with fail
          go_ret
          exact ⟨by first | rfl | simp, HB6.out⟩
end Go.Proofs.Ytelhcjjdhlhfbab
