/-
  The laws of late: walks. Conditions: the rows are there.
-/
import Derived.Test.YtelhcjjdhlhfbabLateE
import Derived.Lib.QuietBelow
import Derived.BigQuiet
namespace Go.Proofs.Ytelhcjjdhlhfbab
open Go.ChangeShapes Go.WideShapes Go.ChangeAt Go.RowKit

theorem old_lt {l : List (Int × Int)} {p : Int} {j : Nat} (h : oldD p l = some j) : j < l.length := (oldD_some h).choose
set_option maxRecDepth 20000 in
set_option maxHeartbeats 4000000 in
theorem LateTells_any (A : Option Addr) (n c B : Nat) (l : List (Int × Int)) (p t : Int) (w : World) (hR : Rs dueT w B A l) (hn : l.length = n) (hnc : n ≤ c) (hm : n ≤ maxLen) (hB : B ≤ w.heap.size) (hI : ∀ u ∈ l, DueIn u) (ht : -2147483648 ≤ t ∧ t ≤ 2147483647) :
    Calls Try.prog 3 #[.slice A n c, .int .i64 p, .int .i32 t] w (Ret (.bool true) w) := by
  have hFew := fun W (h : Below w.heap.size w W) => Few_any A n c B l W (hR.below (h.mono hB)) hn hnc hm (Nat.le_trans hB h.size) hI
  have hI2 : ∀ u ∈ l.take 60, DueIn u := fun u hu => hI u (List.mem_of_mem_take hu)
  obtain ⟨l2, hl2⟩ : ∃ l2, l.take 60 = l2 := ⟨_, rfl⟩
  have h60 : l2.length ≤ 60 := by rw [← hl2, List.length_take]; omega
  have hmx : l2.length ≤ maxLen := by unfold maxLen; omega
  rw [hl2] at hFew hI2
  clear hR hI hl2
  cases ho : oldD p l2 with
  | none =>
    go_enter Try.func3, Try.ntmps3
    go_wp2_with fail
    refine (awake12 _).mono ?_
    rintro e w1 ⟨rfl, hb1⟩
    have HB1 := Lib.hid hb1
    clear hb1
    go_wp2_with fail
    refine (hFew w1 HB1.out).mono ?_
    rintro e w2 ⟨A1, A2, c1, c2, rfl, hr1, hr2, hb2⟩
    have HB2 := Lib.hid (HB1.out.trans (hb2.mono HB1.out.size))
    have HR1 := Lib.hid hr1
    have HR2 := Lib.hid hr2
    clear hFew hb2 hr1 hr2
    have hO := Oldest_any A1 l2.length c1 w2.heap.size l2 p w2 HR1.out rfl hmx (Nat.le_refl _)
    rw [ho] at hO
    simp only [oldV] at hO
    have HO := Lib.hid (oldD_none ho)
    clear ho
    go_wp2_with fail
    refine hO.mono ?_
    rintro e w3 ⟨rfl, hb3⟩
    have HB3 := Lib.hid (HB2.out.trans (hb3.mono HB2.out.size))
    have HW3 := Lib.hid hb3
    clear hb3 hO
    go_wp2_with fail
    go_loopw [10, 27] (fun _ i wr => ∃ k : Nat, k ≤ l2.length ∧ i = .int .i64 k ∧ Hid (Below w2.heap.size w2 wr) ∧ Hid (Below w.heap.size w wr)) (fun _ i _ => l2.length - (intOf i).toNat)
    case atStart => exact ⟨0, Nat.zero_le _, rfl, HW3, HB3⟩
    case round =>
      obtain ⟨k, hk, rfl, HW, HK⟩ := hrel
      by_cases hlt : k < l2.length
      · have hkl := hlt
        have hle : (l2[k]).2 ≤ p := HO.out _ (List.getElem_mem hlt)
        obtain ⟨b1, o1, rfl, hb1, c0, c1'⟩ := HR1.out.due hkl
        have d0 := (HW.out.cell (p := ⟨b1, o1 + k * 2, none⟩) hb1).trans c0
        have d1 := (HW.out.cell (p := ⟨b1, o1 + k * 2 + 1, none⟩) hb1).trans c1'
        obtain ⟨x, hx⟩ : ∃ x, (l2[k]).1 = x := ⟨_, rfl⟩
        obtain ⟨y, hy⟩ : ∃ y, (l2[k]).2 = y := ⟨_, rfl⟩
        rw [hx] at d0
        rw [hy] at d1 hle
        have HW4 := Lib.hid (HW.out.alloc HW.out.size (.cells #[.int .i32 x, .int .i64 y] 32))
        have HK4 := Lib.hid (HK.out.alloc HK.out.size (.cells #[.int .i32 x, .int .i64 y] 32))
        clear hx hy c0 c1'
        have hle2 : ¬ p < y := by omega
        go_wp2_with fail
        go_roundw
        case rel => exact ⟨k + 1, by omega, by go_num, HW4, HK4⟩
        case measure => simp [intOf]; omega
      · go_wp2_with fail
        have hS := Since_any A1 l2.length c1 w2.heap.size l2 p t wr (HR1.out.below HW.out) rfl hmx HW.out.size hI2 ht
        refine hS.mono ?_
        rintro e w5 ⟨rfl, hb5⟩
        have HB5 := Lib.hid (HK.out.trans (hb5.mono HK.out.size))
        have HW5 := Lib.hid (HW.out.trans (hb5.mono HW.out.size))
        clear hb5 hS
        go_wp2_with fail
        have hS2 := RSince_any A2 l2.length c2 w2.heap.size l2 p t w5 (HR2.out.below HW5.out) rfl hmx HW5.out.size hI2 ht
        refine hS2.mono ?_
        rintro e w6 ⟨rfl, hb6⟩
        have HB6 := Lib.hid (HB5.out.trans (hb6.mono HB5.out.size))
        clear hb6 hS2
        go_wp2_with fail
        go_ret
        exact ⟨by first | rfl | simp, HB6.out⟩
  | some j =>
    go_enter Try.func3, Try.ntmps3
    go_wp2_with fail
    refine (awake12 _).mono ?_
    rintro e w1 ⟨rfl, hb1⟩
    have HB1 := Lib.hid hb1
    clear hb1
    go_wp2_with fail
    refine (hFew w1 HB1.out).mono ?_
    rintro e w2 ⟨A1, A2, c1, c2, rfl, hr1, hr2, hb2⟩
    have HB2 := Lib.hid (HB1.out.trans (hb2.mono HB1.out.size))
    have HR1 := Lib.hid hr1
    have HR2 := Lib.hid hr2
    clear hFew hb2 hr1 hr2
    have hO := Oldest_any A1 l2.length c1 w2.heap.size l2 p w2 HR1.out rfl hmx (Nat.le_refl _)
    rw [ho] at hO
    simp only [oldV] at hO
    have HJ := Lib.hid (oldD_some ho)
    have hjl := old_lt ho
    clear ho
    go_wp2_with fail
    refine hO.mono ?_
    rintro e w3 ⟨rfl, hb3⟩
    have HB3 := Lib.hid (HB2.out.trans (hb3.mono HB2.out.size))
    have HW3 := Lib.hid hb3
    clear hb3 hO
    go_wp2_with fail
    go_loopw [10, 27] (fun _ i wr => ∃ k : Nat, k ≤ j ∧ i = .int .i64 k ∧ Hid (Below w2.heap.size w2 wr) ∧ Hid (Below w.heap.size w wr)) (fun _ i _ => l2.length - (intOf i).toNat)
    case atStart => exact ⟨0, Nat.zero_le _, rfl, HW3, HB3⟩
    case round =>
      obtain ⟨k, hk, rfl, HW, HK⟩ := hrel
      have hkl : k < l2.length := by omega
      by_cases hlt : k < j
      · have hle : (l2[k]).2 ≤ p := HJ.out.2.2 k hlt
        obtain ⟨b1, o1, rfl, hb1, c0, c1'⟩ := HR1.out.due hkl
        have d0 := (HW.out.cell (p := ⟨b1, o1 + k * 2, none⟩) hb1).trans c0
        have d1 := (HW.out.cell (p := ⟨b1, o1 + k * 2 + 1, none⟩) hb1).trans c1'
        obtain ⟨x, hx⟩ : ∃ x, (l2[k]).1 = x := ⟨_, rfl⟩
        obtain ⟨y, hy⟩ : ∃ y, (l2[k]).2 = y := ⟨_, rfl⟩
        rw [hx] at d0
        rw [hy] at d1 hle
        have HW4 := Lib.hid (HW.out.alloc HW.out.size (.cells #[.int .i32 x, .int .i64 y] 32))
        have HK4 := Lib.hid (HK.out.alloc HK.out.size (.cells #[.int .i32 x, .int .i64 y] 32))
        clear hx hy c0 c1'
        have hle2 : ¬ p < y := by omega
        have hkj : ¬ (j : Int) ≤ (k : Int) := by omega
        go_wp2_with fail
        go_roundw
        case rel => exact ⟨k + 1, by omega, by go_num, HW4, HK4⟩
        case measure => simp [intOf]; omega
      · obtain rfl : k = j := by omega
        have hle : p < (l2[k]).2 := HJ.out.2.1
        obtain ⟨b1, o1, rfl, hb1, c0, c1'⟩ := HR1.out.due hkl
        have d0 := (HW.out.cell (p := ⟨b1, o1 + k * 2, none⟩) hb1).trans c0
        have d1 := (HW.out.cell (p := ⟨b1, o1 + k * 2 + 1, none⟩) hb1).trans c1'
        obtain ⟨x, hx⟩ : ∃ x, (l2[k]).1 = x := ⟨_, rfl⟩
        obtain ⟨y, hy⟩ : ∃ y, (l2[k]).2 = y := ⟨_, rfl⟩
        rw [hx] at d0
        rw [hy] at d1 hle
        have HW4 := Lib.hid (HW.out.alloc HW.out.size (.cells #[.int .i32 x, .int .i64 y] 32))
        have HK4 := Lib.hid (HK.out.alloc HK.out.size (.cells #[.int .i32 x, .int .i64 y] 32))
        clear hx hy c0 c1'
        go_wp2_with fail
        have hS := Since_any (some ⟨b1, o1, none⟩) l2.length c1 w2.heap.size l2 p t (wr.alloc (.cells #[.int .i32 x, .int .i64 y] 32)) (HR1.out.below HW4.out) rfl hmx HW4.out.size hI2 ht
        refine hS.mono ?_
        rintro e w5 ⟨rfl, hb5⟩
        have HB5 := Lib.hid (HK4.out.trans (hb5.mono HK4.out.size))
        have HW5 := Lib.hid (HW4.out.trans (hb5.mono HW4.out.size))
        clear hb5 hS
        go_wp2_with fail
        have hS2 := RSince_any A2 l2.length c2 w2.heap.size l2 p t w5 (HR2.out.below HW5.out) rfl hmx HW5.out.size hI2 ht
        refine hS2.mono ?_
        rintro e w6 ⟨rfl, hb6⟩
        have HB6 := Lib.hid (HB5.out.trans (hb6.mono HB5.out.size))
        clear hb6 hS2
        go_wp2_with fail
        go_ret
        exact ⟨by first | rfl | simp, HB6.out⟩
end Go.Proofs.Ytelhcjjdhlhfbab
