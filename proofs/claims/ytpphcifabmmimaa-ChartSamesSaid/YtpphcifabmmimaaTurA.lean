/-
  Entry.Of, slices.IndexFunc at legs, slices.Clone at legs. Conditions: the rows are there.
-/
import Derived.Test.YtpphcifabmmimaaChD
import Derived.LoopTactic
namespace Go.Proofs.Ytpphcifabmmimaa
open Go.ChangeShapes Go.WideShapes Go.ChangeAt Go.RowKit

/-- The place of the first leg of the account, or -1. -/
def idxL (l : List (Nat × Int)) (a : Nat) : Int := match l.findIdx? (fun g => g.1 == a) with
  | some i => (i : Int)
  | none => -1
/-- The amount of the first leg of the account, or nothing. -/
def ofL (l : List (Nat × Int)) (a : Nat) : Int := match l.find? (fun g => g.1 == a) with
  | some g => g.2
  | none => 0
theorem idx_yes {l : List (Nat × Int)} {a k : Nat} (hk : k < l.length) (h : l[k].1 = a) (hn : ∀ i, i < k → (l.getD i (0, 0)).1 ≠ a) : idxL l a = (k : Int) ∧ ofL l a = l[k].2 := by
  have e : l.findIdx? (fun g => g.1 == a) = some k := by
    rw [List.findIdx?_eq_some_iff_getElem]
    refine ⟨hk, by simpa using h, fun j hj => ?_⟩
    have := hn j hj
    rw [List.getD_eq_getElem?_getD, List.getElem?_eq_getElem (by omega)] at this
    simpa using this
  have e2 : l.find? (fun g => g.1 == a) = some l[k] := by
    rw [List.find?_eq_some_iff_getElem]
    refine ⟨by simpa using h, k, hk, rfl, fun j hj => ?_⟩
    have := hn j hj
    rw [List.getD_eq_getElem?_getD, List.getElem?_eq_getElem (by omega)] at this
    simpa using this
  exact ⟨by unfold idxL; rw [e], by unfold ofL; rw [e2]⟩
theorem idx_none {l : List (Nat × Int)} {a : Nat} (hn : ∀ i, i < l.length → (l.getD i (0, 0)).1 ≠ a) : idxL l a = -1 ∧ ofL l a = 0 := by
  have hh : ∀ x ∈ l, ¬ (x.1 == a) = true := fun x hx => by
    obtain ⟨i, hi, rfl⟩ := List.mem_iff_getElem.1 hx
    have := hn i hi
    rw [List.getD_eq_getElem?_getD, List.getElem?_eq_getElem hi] at this
    simpa using this
  have e : l.findIdx? (fun g => g.1 == a) = none := by
    rw [List.findIdx?_eq_none_iff]
    intro x hx
    simpa using hh x hx
  have e2 : l.find? (fun g => g.1 == a) = none := by
    rw [List.find?_eq_none]
    exact hh
  exact ⟨by unfold idxL; rw [e], by unfold ofL; rw [e2]⟩
theorem idx_cases (l : List (Nat × Int)) (a : Nat) : (idxL l a = -1 ∧ ofL l a = 0) ∨ ∃ k, ∃ hk : k < l.length, idxL l a = (k : Int) ∧ ofL l a = l[k].2 := by
  cases e : l.findIdx? (fun g => g.1 == a) with
  | none =>
    left
    rw [List.findIdx?_eq_none_iff] at e
    exact idx_none fun i hi => by
      rw [List.getD_eq_getElem?_getD, List.getElem?_eq_getElem hi]
      have := e l[i] (List.getElem_mem hi)
      simpa using this
  | some k =>
    right
    rw [List.findIdx?_eq_some_iff_getElem] at e
    obtain ⟨hk, h1, h2⟩ := e
    refine ⟨k, hk, idx_yes hk (by simpa using h1) fun i hi => ?_⟩
    have := h2 i hi
    rw [List.getD_eq_getElem?_getD, List.getElem?_eq_getElem (by omega)]
    simpa using this
set_option maxRecDepth 100000 in
set_option maxHeartbeats 4000000 in
theorem Of1_any (x a b : Nat) (z : Int) (w : World) (h : w.cell? ⟨b, 0, none⟩ = some (.int .u8 (a : Int))) :
    Calls Try.prog 40 #[.agg #[.int .u8 (x : Int), .int .i64 z], .pointer (some ⟨b, 0, none⟩)] w (Ret (.bool (x == a)) w) := by
  have hlt := block_lt_of_cell h
  have HB := Lib.hid (b_alloc w (.cells #[.int .u8 (x : Int), .int .i64 z] 51))
  by_cases e : x = a
  · have e1 : ((x : Int) == (a : Int)) = true := by rw [e]; simp
    have e2 : (x == a) = true := by rw [e]; simp
    rw [e2]
    clear e e2
    go_enter Try.func40, Try.ntmps40
    go_wp2_with fail
    go_ret
    exact ⟨by first | rfl | simp, HB.out⟩
  · have e1 : ((x : Int) == (a : Int)) = false := by rw [beq_eq_false_iff_ne]; omega
    have e2 : (x == a) = false := by rw [beq_eq_false_iff_ne]; exact e
    rw [e2]
    clear e e2
    go_enter Try.func40, Try.ntmps40
    go_wp2_with fail
    go_ret
    exact ⟨by first | rfl | simp, HB.out⟩
/-- What holds at a round's head of IndexFunc. -/
def IRel (l : List (Nat × Int)) (a : Nat) (w : World) (i : Value) (w' : World) : Prop := ∃ k : Nat, k ≤ l.length ∧ i = .int .i64 k ∧ (∀ j, j < k → (l.getD j (0, 0)).1 ≠ a) ∧ Below w.heap.size w w'
set_option maxRecDepth 100000 in
set_option maxHeartbeats 4000000 in
theorem Index_any (A : Option Addr) (n c B a b : Nat) (l : List (Nat × Int)) (w : World) (hR : Rs legT w B A l) (hn : l.length = n) (hm : n ≤ 100000) (hB : B ≤ w.heap.size) (h : w.cell? ⟨b, 0, none⟩ = some (.int .u8 (a : Int))) :
    Calls Try.prog 39 #[.slice A n c, .func (.func 40) #[] #[.pointer (some ⟨b, 0, none⟩)]] w (Ret (.int .i64 (idxL l a)) w) := by
  have hO := fun x z W hc => Of1_any x a b z W hc
  have hlt := block_lt_of_cell h
  have HR := Lib.hid hR
  have HC := Lib.hid h
  have HN := Lib.hid hn
  clear hR h hn
  go_enter Try.func39, Try.ntmps39
  go_wp2_with fail
  go_loopw [8] (IRel l a w) (fun i _ => l.length - (intOf i).toNat)
  case atStart => exact ⟨0, Nat.zero_le _, rfl, fun j hj => by omega, Below.refl _ _⟩
  case round =>
    obtain ⟨k, hk, rfl, hno, hbw⟩ := hrel
    have HNO := Lib.hid hno
    have HBW := Lib.hid hbw
    clear hno
    by_cases hlt2 : k < n
    · have hkl : k < l.length := by rw [HN.out]; exact hlt2
      obtain ⟨b1, o1, rfl, hb1, y0, y1⟩ := (HR.out.below (hbw.mono hB)).leg hkl
      obtain ⟨x, hx⟩ : ∃ x, l[k].1 = x := ⟨_, rfl⟩
      obtain ⟨z, hz⟩ : ∃ z, l[k].2 = z := ⟨_, rfl⟩
      rw [hx] at y0
      rw [hz] at y1
      have HX := Lib.hid hx
      have HZ := Lib.hid hz
      clear hx hz hbw
      have hcW := (HBW.out.cell (p := ⟨b, 0, none⟩) hlt).trans HC.out
      by_cases e : x = a
      · have e2 : (x == a) = true := by rw [e]; simp
        obtain ⟨i1, -⟩ := idx_yes hkl (HX.out.trans e) HNO.out
        have HI := Lib.hid i1
        clear i1 e
        have hOx := hO x z _ hcW
        rw [e2] at hOx
        clear e2 hcW
        go_wp2_with fail
        refine hOx.mono ?_
        rintro ev w5 ⟨rfl, hb5⟩
        have HB5 := Lib.hid (HBW.out.trans (hb5.mono HBW.out.size))
        clear hb5 hOx
        go_wp2_with fail
        go_ret
        exact ⟨by rw [HI.out]; first | rfl | simp, HB5.out⟩
      · have e2 : (x == a) = false := by rw [beq_eq_false_iff_ne]; exact e
        have hOx := hO x z _ hcW
        rw [e2] at hOx
        have HE := Lib.hid e
        clear e2 hcW e
        go_wp2_with fail
        refine hOx.mono ?_
        rintro ev w5 ⟨rfl, hb5⟩
        have HB5 := Lib.hid (HBW.out.trans (hb5.mono HBW.out.size))
        clear hb5 hOx
        go_wp2_with fail
        go_roundw
        case rel => exact ⟨k + 1, by omega, by go_num, fun j hj => by
          rcases Nat.lt_or_ge j k with h | h
          · exact HNO.out j h
          · obtain rfl : j = k := by omega
            rw [List.getD_eq_getElem?_getD, List.getElem?_eq_getElem hkl, Option.getD_some, HX.out]
            exact HE.out, HB5.out⟩
        case measure => simp [intOf]; omega
    · have hkn : k = l.length := by have := HN.out; omega
      obtain ⟨i1, -⟩ := idx_none (l := l) (a := a) (fun i hi => HNO.out i (by omega))
      have HI := Lib.hid i1
      clear i1 hkn
      go_wp2_with fail
      go_ret
      exact ⟨by rw [HI.out]; first | rfl | simp, HBW.out⟩
set_option maxRecDepth 100000 in
set_option maxHeartbeats 4000000 in
theorem Of_any (y : Ky) (A : Option Addr) (n c B a : Nat) (l : List (Nat × Int)) (w : World) (hR : Rs legT w B A l) (hn : l.length = n) (hm : n ≤ 100000) (hB : B ≤ w.heap.size) (ha : a < 256) :
    Calls Try.prog 23 #[entV y (.slice A n c), .int .u8 (a : Int)] w (Ret (.int .i64 (ofL l a)) w) := by
  have HQ1 := Lib.hid ((Blk.new w 30 (entC y (.slice A n c))).alloc (.cells #[.int .u8 (a : Int)] 5))
  have HQ2 : Hid (Blk ((w.alloc (.cells (entC y (.slice A n c)) 30)).alloc (.cells #[.int .u8 (a : Int)] 5)) (w.heap.size + 1) 5 #[.int .u8 (a : Int)]) := Lib.hid (by
    have h := Blk.new (w.alloc (.cells (entC y (.slice A n c)) 30)) 5 #[.int .u8 (a : Int)]
    rw [show (w.alloc (.cells (entC y (.slice A n c)) 30)).heap.size = w.heap.size + 1 by simp] at h
    exact h)
  have HB2 := Lib.hid ((b_alloc w (.cells (entC y (.slice A n c)) 30)).alloc (by simp) (.cells #[.int .u8 (a : Int)] 5))
  have HR2 := Lib.hid (hR.below (HB2.out.mono hB))
  have HN := Lib.hid hn
  obtain ⟨I, hI⟩ : ∃ I, idxL l a = I := ⟨_, rfl⟩
  obtain ⟨O, hO⟩ : ∃ O, ofL l a = O := ⟨_, rfl⟩
  have hcs := idx_cases l a
  rw [hI, hO] at hcs
  have HCS := Lib.hid hcs
  have hIx := Index_any A n c B a (w.heap.size + 1) l _ HR2.out hn hm (Nat.le_trans hB HB2.out.size) (by rw [HQ2.out.cell 0]; rfl)
  rw [hI] at hIx
  rw [hO]
  clear hR hn hcs hI hO
  unfold entC at HQ1 HQ2 HB2 HR2 hIx
  unfold entV entC
  obtain ⟨W, hW⟩ : ∃ W, ((w.alloc (.cells #[.int .u32 (y.a : Int), .int .i32 y.d, .int .u8 (y.k : Int), .int .u32 (y.s : Int), .slice A n c] 30)).alloc (.cells #[.int .u8 (a : Int)] 5)) = W := ⟨_, rfl⟩
  rw [hW] at HQ1 HQ2 HB2 HR2 hIx
  have HIx := Lib.hid hIx
  have HW := Lib.hid hW
  clear hIx hW
  go_enter Try.func23, Try.ntmps23
  go_upto_region 1 with (fail)
  rw [HW.out]
  have n4 := HQ1.out.cell 4
  simp at n4
  go_wp2_with fail
  refine HIx.out.mono ?_
  rintro e w5 ⟨rfl, hb5⟩
  have HB5 := Lib.hid (HB2.out.trans (hb5.mono HB2.out.size))
  have HR5 := Lib.hid (HR2.out.below (hb5.mono (Nat.le_trans hB HB2.out.size)))
  have HQ5 := Lib.hid (HQ1.out.below hb5 HQ1.out.lt)
  clear hb5 n4 HIx HW HQ1 HQ2 HB2 HR2
  rcases HCS.out with ⟨rfl, rfl⟩ | ⟨k, hk, rfl, rfl⟩
  · clear HCS
    go_wp2_with fail
    go_ret
    exact ⟨by first | rfl | simp, HB5.out⟩
  · clear HCS
    obtain ⟨b1, o1, rfl, hb1, y0, y1⟩ := HR5.out.leg hk
    have hkn : k < n := by rw [← HN.out]; exact hk
    have hk0 : ¬ (k : Int) < 0 := by omega
    have n4 := HQ5.out.cell 4
    simp at n4
    obtain ⟨z, hz⟩ : ∃ z, l[k].2 = z := ⟨_, rfl⟩
    rw [hz] at y1
    have HZ := Lib.hid hz
    clear y0 hz
    go_wp2_with fail
    go_ret
    exact ⟨by rw [HZ.out]; first | rfl | simp, HB5.out⟩
end Go.Proofs.Ytpphcifabmmimaa
