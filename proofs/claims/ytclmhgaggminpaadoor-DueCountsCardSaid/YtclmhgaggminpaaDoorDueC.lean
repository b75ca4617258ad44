/-
  due.Count: the closure, sort.Search over it, the count. Condition: the months' lengths are laid.
-/
import Derived.Test.YtclmhgaggminpaaDoorDueA
import Derived.LoopTactic
namespace Go.Proofs.YtclmhgaggminpaaDoor
open Go.RowKit

/-- Is the month k due by the day d? -/
def hit (s d : Int) (k : Nat) : Bool := decide (0 ≤ s ∧ s ≤ 3652058 ∧ pT s (k : Int) < 119988 ∧ plainD s (k : Int) ≤ d)
theorem hit_no {s d : Int} {k : Nat} (h : s < 0 ∨ 3652058 < s) : hit s d k = false := by unfold hit; rw [decide_eq_false]; omega
theorem hit_over {s d : Int} {k : Nat} (h : 119988 ≤ pT s (k : Int)) : hit s d k = false := by unfold hit; rw [decide_eq_false]; omega
theorem hit_at {s d : Int} {k : Nat} (h0 : 0 ≤ s) (h1 : s ≤ 3652058) (ht : pT s (k : Int) < 119988) : hit s d k = decide (plainD s (k : Int) ≤ d) := by
  unfold hit
  rw [decide_eq_decide]
  exact ⟨fun h => h.2.2.2, fun h => ⟨h0, h1, ht, h⟩⟩
theorem hit_mono {s d : Int} {a b : Nat} (hab : a ≤ b) (h : hit s d b = true) : hit s d a = true := by
  rcases Nat.lt_or_ge a b with hlt | hge
  · unfold hit at h ⊢
    obtain ⟨h0, h1, h2, h3⟩ := of_decide_eq_true h
    have hr := plain_rise h0 h1 (show (0 : Int) ≤ (a : Int) by omega) (show (a : Int) < (b : Int) by omega) h2
    have hp : pT s (a : Int) < 119988 := by unfold pT mon at h2 ⊢; omega
    exact decide_eq_true ⟨h0, h1, hp, by omega⟩
  · obtain rfl : a = b := by omega
    exact h
/-- How many of the first n months. -/
def cnt (s d : Int) : Nat → Nat
  | 0 => 0
  | n + 1 => cnt s d n + (if hit s d (n + 1) then 1 else 0)
theorem cnt_le (s d : Int) (n : Nat) : cnt s d n ≤ n := by
  induction n with
  | zero => exact Nat.le_refl _
  | succ n ih => simp only [cnt]; split <;> omega
theorem cnt_all {s d : Int} {n : Nat} (h : ∀ j, 1 ≤ j → j ≤ n → hit s d j = true) : cnt s d n = n := by
  induction n with
  | zero => rfl
  | succ n ih => simp only [cnt]; rw [h (n + 1) (by omega) (Nat.le_refl _), if_pos rfl, ih (fun j h1 h2 => h j h1 (by omega))]
theorem cnt_stop {s d : Int} {m n : Nat} (hm : m ≤ n) (h : hit s d (m + 1) = false) : cnt s d n = cnt s d m := by
  induction n with
  | zero => obtain rfl : m = 0 := by omega
            rfl
  | succ n ih =>
    rcases Nat.lt_or_ge m (n + 1) with h1 | h1
    · have hn : hit s d (n + 1) = false := by
        cases hb : hit s d (n + 1) with
        | false => rfl
        | true => rw [hit_mono (show m + 1 ≤ n + 1 by omega) hb] at h; cases h
      simp only [cnt]
      rw [hn, ih (by omega)]
      rfl
    · obtain rfl : m = n + 1 := by omega
      rfl

set_option maxRecDepth 20000 in
set_option maxHeartbeats 1000000 in
theorem closure_any (s d : Int) (a b i : Nat) (hi : i < 480) (w : World) (hw : Lens w) (ha : w.cell? ⟨a, 0, none⟩ = some (.int .i32 s)) (hb : w.cell? ⟨b, 0, none⟩ = some (.int .i32 d)) :
    Calls Tryd.prog 27 #[.int .i64 (i : Int), .pointer (some ⟨a, 0, none⟩), .pointer (some ⟨b, 0, none⟩)] w fun e w' => e = .returned (.bool (!hit s d (i + 1))) ∧ Below w.heap.size w w' := by
  have hla := block_lt_of_cell ha
  have hlb := block_lt_of_cell hb
  obtain ⟨I, hI⟩ : ∃ I : Nat, i + 1 = I := ⟨_, rfl⟩
  have hI2 : (i : Int) + 1 = (I : Int) := by omega
  have hI1 : I ≤ 480 := by omega
  rw [hI]
  by_cases h : s < 0 ∨ 3652058 < s
  · rw [hit_no h]
    have hA := fun W => Plain_arg s (I : Int) (by omega) W
    rw [← hI2] at hA
    clear h hI2 hI hw
    go_enter Tryd.func27, Tryd.ntmps27
    go_wp2_with fail
    refine (hA _).mono ?_
    rintro e w1 ⟨rfl, hb1⟩
    go_wp2_with fail
    go_ret
    exact ⟨rfl, hb1⟩
  have h0 : 0 ≤ s := by omega
  have h1 : s ≤ 3652058 := by omega
  by_cases ht : pT s (I : Int) < 119988
  · rw [hit_at h0 h1 ht]
    have hA := Plain_ok s (I : Int) h0 h1 (by omega) (by omega) ht w hw
    rw [← hI2] at hA
    rw [← hI2]
    generalize plainD s ((i : Int) + 1) = X at hA ⊢
    clear h hI2 hI hw ht
    cases hx : decide (X ≤ d)
    · have hx' : ¬ X ≤ d := of_decide_eq_false hx
      have hx2 : d < X := by omega
      clear hx
      go_enter Tryd.func27, Tryd.ntmps27
      go_wp2_with fail
      refine hA.mono ?_
      rintro e w1 ⟨rfl, hb1⟩
      have hb' := (hb1.cell (p := ⟨b, 0, none⟩) hlb).trans hb
      go_wp2_with fail
      go_ret
      exact ⟨ret_bool (by simp <;> omega), hb1⟩
    · have hx' : X ≤ d := of_decide_eq_true hx
      have hx2 : ¬ d < X := by omega
      clear hx
      go_enter Tryd.func27, Tryd.ntmps27
      go_wp2_with fail
      refine hA.mono ?_
      rintro e w1 ⟨rfl, hb1⟩
      have hb' := (hb1.cell (p := ⟨b, 0, none⟩) hlb).trans hb
      go_wp2_with fail
      go_ret
      exact ⟨ret_bool (by simp <;> omega), hb1⟩
  · rw [hit_over (by omega)]
    have hA := Plain_over s (I : Int) h0 h1 (by omega) (by omega) (by omega) w hw
    rw [← hI2] at hA
    clear h hI2 hI hw ht
    go_enter Tryd.func27, Tryd.ntmps27
    go_wp2_with fail
    refine hA.mono ?_
    rintro e w1 ⟨rfl, hb1⟩
    go_wp2_with fail
    go_ret
    exact ⟨rfl, hb1⟩

set_option maxRecDepth 20000 in
set_option maxHeartbeats 1000000 in
theorem Search_any (s d : Int) (a b n : Nat) (hn : n ≤ 480) (w : World) (hw : Lens w) (ha : w.cell? ⟨a, 0, none⟩ = some (.int .i32 s)) (hb : w.cell? ⟨b, 0, none⟩ = some (.int .i32 d)) :
    Calls Tryd.prog 26 #[.int .i64 (n : Int), .func (.func 27) #[] #[.pointer (some ⟨a, 0, none⟩), .pointer (some ⟨b, 0, none⟩)]] w fun e w' => e = .returned (.int .i64 (cnt s d n : Nat)) ∧ Below w.heap.size w w' := by
  have hla := block_lt_of_cell ha
  have hlb := block_lt_of_cell hb
  have HA := Lib.hid ha
  have HB := Lib.hid hb
  have HW := Lib.hid hw
  clear ha hb hw
  go_enter Tryd.func26, Tryd.ntmps26
  go_wp2_with fail
  go_loopw [5, 6] (fun x y wr => ∃ i j : Nat, i ≤ j ∧ j ≤ n ∧ x = .int .i64 i ∧ y = .int .i64 j ∧ Hid ((∀ t, 1 ≤ t → t ≤ i → hit s d t = true) ∧ (j < n → hit s d (j + 1) = false)) ∧ Below w.heap.size w wr) (fun x y _ => (intOf y - intOf x).toNat)
  case atStart => exact ⟨0, n, Nat.zero_le _, Nat.le_refl _, rfl, rfl, Lib.hid ⟨fun t h1 h2 => by omega, fun h => by omega⟩, Below.refl _ _⟩
  case round =>
    obtain ⟨i, j, hij, hj, rfl, rfl, HI, hbl⟩ := hrel
    have HBL := Lib.hid hbl
    clear hbl
    by_cases hlt : i < j
    · obtain ⟨m, hm⟩ : ∃ m : Nat, (i + j) / 2 = m := ⟨_, rfl⟩
      have hm1 : ((i : Int) + (j : Int)) / 2 = (m : Int) := by omega
      have hm2 : i ≤ m := by omega
      have hm3 : m < j := by omega
      have hC := closure_any s d a b m (by omega) wr (HW.out.below HBL.out) ((HBL.out.cell (p := ⟨a, 0, none⟩) hla).trans HA.out) ((HBL.out.cell (p := ⟨b, 0, none⟩) hlb).trans HB.out)
      clear hm
      cases hh : hit s d (m + 1)
      · rw [hh] at hC
        have HH := Lib.hid hh
        clear hh
        go_wp2_with fail
        refine hC.mono ?_
        rintro e w2 ⟨rfl, hb2⟩
        go_wp2_with fail
        go_roundw
        case rel => exact ⟨i, m, hm2, by omega, rfl, rfl, Lib.hid ⟨HI.out.1, fun _ => HH.out⟩, HBL.out.trans (hb2.mono HBL.out.size)⟩
        case measure => simp [intOf]; omega
      · rw [hh] at hC
        have HH := Lib.hid hh
        clear hh
        go_wp2_with fail
        refine hC.mono ?_
        rintro e w2 ⟨rfl, hb2⟩
        go_wp2_with fail
        go_roundw
        case rel => exact ⟨m + 1, j, by omega, hj, by go_num, rfl, Lib.hid ⟨fun t h1 h2 => hit_mono (show t ≤ m + 1 by omega) HH.out, HI.out.2⟩, HBL.out.trans (hb2.mono HBL.out.size)⟩
        case measure => simp [intOf]; omega
    · obtain rfl : i = j := by omega
      go_wp2_with fail
      go_ret
      refine ⟨?_, HBL.out⟩
      have e : cnt s d n = i := by
        rcases Nat.lt_or_ge i n with h | h
        · rw [cnt_stop (by omega) (HI.out.2 h), cnt_all HI.out.1]
        · obtain rfl : i = n := by omega
          exact cnt_all HI.out.1
      rw [e]
      rfl

/-- How many months Count looks at. -/
def most (n : Int) : Nat := (min n 480).toNat
theorem most_le (n : Int) : most n ≤ 480 := by unfold most; omega

set_option maxRecDepth 20000 in
set_option maxHeartbeats 1000000 in
theorem Count_any (s n d : Int) (w : World) (hw : Lens w) :
    Calls Tryd.prog 9 #[.int .i32 s, .int .i64 n, .int .i32 d] w fun e w' => e = .returned (.int .i64 (cnt s d (most n) : Nat)) ∧ Below w.heap.size w w' := by
  obtain ⟨W1, hW1⟩ : ∃ W, (w.alloc (.cells #[.int .i32 s] 22)).alloc (.cells #[.int .i32 d] 22) = W := ⟨_, rfl⟩
  have hk1 := (Blk.new w 22 #[.int .i32 s]).alloc (.cells #[.int .i32 d] 22)
  have hk2 := Blk.new (w.alloc (.cells #[.int .i32 s] 22)) 22 #[.int .i32 d]
  have hb1 : Below w.heap.size w W1 := by rw [← hW1]; exact ((Below.refl _ w).alloc (Nat.le_refl _) _).alloc (by simp) _
  rw [hW1] at hk1 hk2
  have hsz : (w.alloc (.cells #[.int .i32 s] 22)).heap.size = w.heap.size + 1 := by simp
  rw [hsz] at hk2
  have c1 := hk1.cell 0
  have c2 := hk2.cell 0
  simp at c1 c2
  have hS := Search_any s d w.heap.size (w.heap.size + 1) (most n) (most_le n) W1 (hw.below hb1) c1 c2
  have HB1 := Lib.hid hb1
  generalize cnt s d (most n) = C at hS ⊢
  clear hk1 hk2 c1 c2 hb1 hw
  rcases (show n < 0 ∨ (0 ≤ n ∧ n ≤ 480) ∨ 480 < n by omega) with h | ⟨h, h'⟩ | h
  · rw [show ((most n : Nat) : Int) = 0 by unfold most; omega] at hS
    have HS := Lib.hid hS
    clear hS
    go_enter Tryd.func9, Tryd.ntmps9
    go_wp2_with fail
    all_goals first | (exfalso; omega) | skip
    refine HS.out.mono ?_
    rintro e w2 ⟨rfl, hb2⟩
    go_wp2_with fail
    go_ret
    exact ⟨rfl, HB1.out.trans (hb2.mono HB1.out.size)⟩
  · rw [show ((most n : Nat) : Int) = n by unfold most; omega] at hS
    have HS := Lib.hid hS
    clear hS
    have h2 : ¬ n < 0 := by omega
    go_enter Tryd.func9, Tryd.ntmps9
    go_wp2_with fail
    all_goals first | (exfalso; omega) | skip
    refine HS.out.mono ?_
    rintro e w2 ⟨rfl, hb2⟩
    go_wp2_with fail
    go_ret
    exact ⟨rfl, HB1.out.trans (hb2.mono HB1.out.size)⟩
  · rw [show ((most n : Nat) : Int) = 480 by unfold most; omega] at hS
    have HS := Lib.hid hS
    clear hS
    have h2 : ¬ n < 0 := by omega
    go_enter Tryd.func9, Tryd.ntmps9
    go_wp2_with fail
    all_goals first | (exfalso; omega) | skip
    refine HS.out.mono ?_
    rintro e w2 ⟨rfl, hb2⟩
    go_wp2_with fail
    go_ret
    exact ⟨rfl, HB1.out.trans (hb2.mono HB1.out.size)⟩
end Go.Proofs.YtclmhgaggminpaaDoor
