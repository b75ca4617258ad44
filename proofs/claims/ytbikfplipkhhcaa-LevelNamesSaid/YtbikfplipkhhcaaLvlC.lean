/-
  level: names, Pay, Rows. Conditions: the numbers' kinds.
-/
import Derived.Test.YtbikfplipkhhcaaLvlB
import Derived.LoopTactic
import Derived.Laws.MakeOwn
namespace Go.Proofs.Ytbikfplipkhhcaa
open Go.RowKit

set_option maxRecDepth 20000 in
set_option maxHeartbeats 4000000 in
theorem Pay_any {i o l s : Int} (hs : i + o = s) (h0 : -9223372036854775808 ≤ s) (h1 : s ≤ 9223372036854775807) (w : World) :
    Calls Try.prog 12 #[rowV i o l] w (Ret (.int .i64 s) w) := by
  have i1 : IntKind.i64.wrap s = s := by rw [IntKind.wrap_i64]; omega
  unfold rowV
  clear h0 h1
  go_enter Try.func12, Try.ntmps12
  go_wp2_with fail
  go_ret
  exact ⟨by first | rfl | (simp [hs, i1]; done), b_alloc _ _⟩
set_option maxRecDepth 20000 in
set_option maxHeartbeats 4000000 in
theorem Usual_level {P p b n y : Nat} (hr : rateB p b) (hP0 : 1 ≤ P) (hP : P ≤ 1000000000000) (hn0 : 1 ≤ n) (hn : n ≤ 480) (hy : Lst p n P y) (w : World) :
    Calls Try.prog 16 #[.int .u8 1, .int .i64 (P : Int), rv p b, .int .i64 (n : Int)] w (Ret (.tuple #[.int .i64 (y : Int), .nilIface]) w) := by
  have hA := fun W => Payment_yes hr hP0 hP hn0 hn hy W
  unfold rv at *
  clear hr hy
  go_enter Try.func16, Try.ntmps16
  have HQ0 := Lib.hid (Blk.new w 25 #[.int .u32 (p : Int), .int .u8 (b : Int)])
  have HB0 := Lib.hid (b_alloc w (.cells #[.int .u32 (p : Int), .int .u8 (b : Int)] 25))
  go_wp2_with fail
  refine (hA _).mono ?_
  rintro e w1 ⟨rfl, hb1⟩
  have HQ1_0 := Lib.hid (HQ0.out.below hb1 HQ0.out.lt)
  have HB1 := Lib.hid (HB0.out.trans (hb1.mono HB0.out.size))
  clear hb1
  have c1_0_0 := HQ1_0.out.cell 0
  have c1_0_1 := HQ1_0.out.cell 1
  have z1_0 := HQ1_0.out.lt
  try simp at c1_0_0 c1_0_1
  go_wp2_with fail
  go_ret2
  exact ⟨rfl, HB1.out⟩
set_option maxRecDepth 20000 in
set_option maxHeartbeats 4000000 in
theorem Usual_only {P p b n : Nat} (hr : rateB p b) (hP0 : 1 ≤ P) (hP : P ≤ 1000000000000) (hn0 : 1 ≤ n) (hn : n ≤ 480) (w : World) :
    Calls Try.prog 16 #[.int .u8 2, .int .i64 (P : Int), rv p b, .int .i64 (n : Int)] w (Ret (.tuple #[.int .i64 ((mi p P : Nat) : Int), .nilIface]) w) := by
  have hT := fun W => ltakes_yes (n := n) hr hP0 hP hn0 hn W
  have hM : ∀ W, Calls Try.prog 15 #[rv p b, .int .i64 (P : Int)] W (Ret (.tuple #[.int .i64 ((mi p P : Nat) : Int), .nilIface]) W) := fun W => Month_yes hP hr W
  obtain ⟨m, hm⟩ : ∃ m, mi p P = m := ⟨_, rfl⟩
  rw [hm] at hM ⊢
  unfold rv at *
  clear hr hm
  go_enter Try.func16, Try.ntmps16
  have HQ0 := Lib.hid (Blk.new w 25 #[.int .u32 (p : Int), .int .u8 (b : Int)])
  have HB0 := Lib.hid (b_alloc w (.cells #[.int .u32 (p : Int), .int .u8 (b : Int)] 25))
  go_wp2_with fail
  refine (hT _).mono ?_
  rintro e w1 ⟨rfl, hb1⟩
  have HQ1_0 := Lib.hid (HQ0.out.below hb1 HQ0.out.lt)
  have HB1 := Lib.hid (HB0.out.trans (hb1.mono HB0.out.size))
  clear hb1
  have c1_0_0 := HQ1_0.out.cell 0
  have c1_0_1 := HQ1_0.out.cell 1
  have z1_0 := HQ1_0.out.lt
  try simp at c1_0_0 c1_0_1
  go_wp2_with fail
  refine (hM _).mono ?_
  rintro e w2 ⟨rfl, hb2⟩
  have HQ2_0 := Lib.hid (HQ1_0.out.below hb2 HQ1_0.out.lt)
  have HB2 := Lib.hid (HB1.out.trans (hb2.mono HB1.out.size))
  clear hb2 c1_0_0 c1_0_1 z1_0
  have c2_0_0 := HQ2_0.out.cell 0
  have c2_0_1 := HQ2_0.out.cell 1
  have z2_0 := HQ2_0.out.lt
  try simp at c2_0_0 c2_0_1
  go_wp2_with fail
  go_ret2
  exact ⟨rfl, HB2.out⟩
set_option maxRecDepth 20000 in
set_option maxHeartbeats 4000000 in
theorem Usual_no {kd p b : Nat} {P n : Int} (h : ¬ ((kd = 1 ∨ kd = 2) ∧ lvB p b P n)) (w : World) :
    Calls Try.prog 16 #[.int .u8 (kd : Int), .int .i64 P, rv p b, .int .i64 n] w (Ret (.tuple #[.int .i64 0, eno 1]) w) := by
  by_cases h1 : kd = 1
  · subst h1
    have hA := fun W => Payment_no (fun hl => h ⟨Or.inl rfl, hl⟩) W
    unfold rv eno at *
    clear h
    go_enter Try.func16, Try.ntmps16
    have HQ0 := Lib.hid (Blk.new w 25 #[.int .u32 (p : Int), .int .u8 (b : Int)])
    have HB0 := Lib.hid (b_alloc w (.cells #[.int .u32 (p : Int), .int .u8 (b : Int)] 25))
    go_wp2_with fail
    refine (hA _).mono ?_
    rintro e w1 ⟨rfl, hb1⟩
    have HQ1_0 := Lib.hid (HQ0.out.below hb1 HQ0.out.lt)
    have HB1 := Lib.hid (HB0.out.trans (hb1.mono HB0.out.size))
    clear hb1
    have c1_0_0 := HQ1_0.out.cell 0
    have c1_0_1 := HQ1_0.out.cell 1
    have z1_0 := HQ1_0.out.lt
    try simp at c1_0_0 c1_0_1
    go_wp2_with fail
    go_ret2
    exact ⟨rfl, HB1.out⟩
  · by_cases h2 : kd = 2
    · subst h2
      have hT := fun W => ltakes_no (fun hl => h ⟨Or.inr rfl, hl⟩) W
      unfold rv eno at *
      clear h h1
      go_enter Try.func16, Try.ntmps16
      have HQ0 := Lib.hid (Blk.new w 25 #[.int .u32 (p : Int), .int .u8 (b : Int)])
      have HB0 := Lib.hid (b_alloc w (.cells #[.int .u32 (p : Int), .int .u8 (b : Int)] 25))
      go_wp2_with fail
      refine (hT _).mono ?_
      rintro e w1 ⟨rfl, hb1⟩
      have HQ1_0 := Lib.hid (HQ0.out.below hb1 HQ0.out.lt)
      have HB1 := Lib.hid (HB0.out.trans (hb1.mono HB0.out.size))
      clear hb1
      have c1_0_0 := HQ1_0.out.cell 0
      have c1_0_1 := HQ1_0.out.cell 1
      have z1_0 := HQ1_0.out.lt
      try simp at c1_0_0 c1_0_1
      go_wp2_with fail
      go_ret2
      exact ⟨rfl, HB1.out⟩
    · have j1 : ((kd : Int) == 1) = false := by rw [beq_eq_false_iff_ne]; omega
      have j2 : ((kd : Int) == 2) = false := by rw [beq_eq_false_iff_ne]; omega
      unfold rv eno at *
      clear h h1 h2
      go_enter Try.func16, Try.ntmps16
      have HB0 := Lib.hid (b_alloc w (.cells #[.int .u32 (p : Int), .int .u8 (b : Int)] 25))
      go_wp2_with fail
      go_ret2
      exact ⟨rfl, HB0.out⟩

theorem infoR : (Try.prog.info? 38).map (fun i => (i.zero, i.size, i.bytes)) = some (some (.agg #[.int .i64 0, .int .i64 0, .int .i64 0]), 3, 24) := by kernel_rfl
/-- Rows, cell by cell. -/
def rcell (r : Int × Int × Int) (j : Nat) : Value := if j = 0 then .int .i64 r.1 else if j = 1 then .int .i64 r.2.1 else .int .i64 r.2.2
def rowsA (F : Nat → Int × Int × Int) (n : Nat) : Array Value := Array.ofFn (n := n * 3) (fun j => rcell (F (j.val / 3)) (j.val % 3))
theorem rowsA_get (F : Nat → Int × Int × Int) (n j : Nat) : (rowsA F n)[j]? = if j < n * 3 then some (rcell (F (j / 3)) (j % 3)) else Option.none := by
  unfold rowsA
  rw [Array.getElem?_ofFn]
  split <;> rfl
theorem rowsA_at (F : Nat → Int × Int × Int) {n k : Nat} (h : k < n) :
    (rowsA F n)[k * 3]? = some (.int .i64 (F k).1) ∧ (rowsA F n)[k * 3 + 1]? = some (.int .i64 (F k).2.1) ∧ (rowsA F n)[k * 3 + 2]? = some (.int .i64 (F k).2.2) := by
  refine ⟨?_, ?_, ?_⟩ <;> rw [rowsA_get, if_pos (by omega)]
  · rw [show k * 3 / 3 = k by omega, show k * 3 % 3 = 0 by omega]; rfl
  · rw [show (k * 3 + 1) / 3 = k by omega, show (k * 3 + 1) % 3 = 1 by omega]; rfl
  · rw [show (k * 3 + 2) / 3 = k by omega, show (k * 3 + 2) % 3 = 2 by omega]; rfl
theorem rowsA_set (F : Nat → Int × Int × Int) {n k : Nat} (h : k < n) (x y z : Int) :
    (((rowsA F n).setIfInBounds (k * 3) (.int .i64 x)).setIfInBounds (k * 3 + 1) (.int .i64 y)).setIfInBounds (k * 3 + 2) (.int .i64 z) = rowsA (fun i => if i = k then (x, y, z) else F i) n := by
  apply Array.ext_getElem?
  intro j
  have hs : (rowsA F n).size = n * 3 := by simp [rowsA]
  simp only [Array.getElem?_setIfInBounds, Array.size_setIfInBounds, hs, rowsA_get]
  by_cases h2 : k * 3 + 2 = j
  · subst h2
    rw [if_pos rfl, if_pos (by omega), if_pos (by omega), show (k * 3 + 2) / 3 = k by omega, show (k * 3 + 2) % 3 = 2 by omega, if_pos rfl]; rfl
  · rw [if_neg h2]
    by_cases h1 : k * 3 + 1 = j
    · subst h1
      rw [if_pos rfl, if_pos (by omega), if_pos (by omega), show (k * 3 + 1) / 3 = k by omega, show (k * 3 + 1) % 3 = 1 by omega, if_pos rfl]; rfl
    · rw [if_neg h1]
      by_cases h0 : k * 3 = j
      · subst h0
        rw [if_pos rfl, if_pos (by omega), if_pos (by omega), show (k * 3) / 3 = k by omega, show (k * 3) % 3 = 0 by omega, if_pos rfl]; rfl
      · rw [if_neg h0]
        by_cases hj : j < n * 3
        · rw [if_pos hj, if_pos hj, if_neg (by omega)]
        · rw [if_neg hj, if_neg hj]
theorem rowsA_ext {F G : Nat → Int × Int × Int} {n : Nat} (h : ∀ i, i < n → F i = G i) : rowsA F n = rowsA G n := by
  apply Array.ext_getElem?
  intro j
  rw [rowsA_get, rowsA_get]
  by_cases hj : j < n * 3
  · rw [if_pos hj, if_pos hj, h _ (by omega)]
  · rw [if_neg hj, if_neg hj]
theorem makeRows (n : Nat) (hn : n ≤ 480) (u : World) :
    (Instr.makeSlice 27 (.int .i64 (n : Int)) (.int .i64 (n : Int))).run Try.prog u = .ok (.slice (some ⟨u.heap.size, 0, none⟩) n n) (u.alloc (.cells (rowsA (fun _ => (0, 0, 0)) n) 38)) := by
  obtain ⟨i0, hi, hz0, hz1, hz2⟩ := info_parts infoR
  have h := run_make (P := Try.prog) u 27 38 i0 (.agg #[.int .i64 0, .int .i64 0, .int .i64 0]) Try.underlying27 hi hz0 .i64 .i64 (n : Int) (n : Int) (by omega) (Int.le_refl _) (by rw [hz2]; omega) (by omega)
  rw [Int.toNat_natCast, hz1, show Value.cells (.agg #[.int .i64 0, .int .i64 0, .int .i64 0]) = #[.int .i64 0, .int .i64 0, .int .i64 0] from rfl] at h
  have e : madeCells #[.int .i64 0, .int .i64 0, .int .i64 0] (n * 3) = rowsA (fun _ => (0, 0, 0)) n := by
    apply Array.ext_getElem?
    intro j
    rw [rowsA_get]
    by_cases hj : j < n * 3
    · have h3 : j % 3 < 3 := Nat.mod_lt _ (by omega)
      rw [if_pos hj]
      rcases (show j % 3 = 0 ∨ j % 3 = 1 ∨ j % 3 = 2 by omega) with e | e | e <;> simp [madeCells, hj, e, rcell]
    · rw [if_neg hj]
      simp [madeCells, hj]
  rw [e] at h
  exact h
/-- The rows of a payment. -/
def rowF (p y P n k : Nat) : Int × Int × Int :=
  ((mi p (mit p y k P) : Nat), if k + 1 = n then (mit p y k P : Nat) else ((mit p y k P : Nat) - (mit p y (k + 1) P : Nat) : Int), if k + 1 = n then 0 else (mit p y (k + 1) P : Nat))
def partF (F : Nat → Int × Int × Int) (k i : Nat) : Int × Int × Int := if i < k then F i else (0, 0, 0)
theorem partF_next (F : Nat → Int × Int × Int) (k n : Nat) {x y z : Int} (h : F k = (x, y, z)) : rowsA (fun i => if i = k then (x, y, z) else partF F k i) n = rowsA (partF F (k + 1)) n := by
  apply rowsA_ext
  intro i _
  unfold partF
  by_cases hi : i = k
  · subst hi
    rw [if_pos rfl, if_pos (by omega), h]
  · rw [if_neg hi]
    by_cases hk : i < k
    · rw [if_pos hk, if_pos (by omega)]
    · rw [if_neg hk, if_neg (by omega)]
def RowsPost (p y P n : Nat) (w : World) (e : Ending) (w' : World) : Prop :=
  ∃ g, e = .returned (.tuple #[.slice (some ⟨g, 0, none⟩) n n, .nilIface]) ∧ w.heap.size ≤ g ∧ Below w.heap.size w w' ∧ Blk w' g 38 (rowsA (rowF p y P n) n)
theorem Blk.set3 {w : World} {g : Nat} {T : TypeId} {cs : Array Value} (h : Blk w g T cs) (o : Nat) (x y z : Value) :
    Blk (((w.setCell ⟨g, o, none⟩ x).setCell ⟨g, o + 1, none⟩ y).setCell ⟨g, o + 2, none⟩ z) g T (((cs.setIfInBounds o x).setIfInBounds (o + 1) y).setIfInBounds (o + 2) z) := ((h.set_ o x).set_ (o + 1) y).set_ (o + 2) z
theorem Blk.far3 {w : World} {g q : Nat} {T : TypeId} {cs : Array Value} (h : Blk w q T cs) (hq : q ≠ g) (o : Nat) (x y z : Value) :
    Blk (((w.setCell ⟨g, o, none⟩ x).setCell ⟨g, o + 1, none⟩ y).setCell ⟨g, o + 2, none⟩ z) q T cs := ((h.far hq _).far hq _).far hq _
theorem below_set3k {w w' : World} {B g : Nat} (h : Below B w w') (hg : B ≤ g) (o : Nat) (x y z : Value) :
    Below B w (((w'.setCell ⟨g, o, none⟩ x).setCell ⟨g, o + 1, none⟩ y).setCell ⟨g, o + 2, none⟩ z) := ((h.setCell hg _).setCell hg _).setCell hg _
set_option maxRecDepth 20000 in
set_option maxHeartbeats 4000000 in
theorem Rows_yes {kd P p b n y : Nat} (hr : rateB p b) (hP : P ≤ 1000000000000) (hn0 : 1 ≤ n) (hn : n ≤ 480) (hy : mi p P ≤ y) (hyb : y ≤ 9223372036854775807)
    (hU : ∀ W, Calls Try.prog 16 #[.int .u8 (kd : Int), .int .i64 (P : Int), rv p b, .int .i64 (n : Int)] W (Ret (.tuple #[.int .i64 (y : Int), .nilIface]) W)) (w : World) :
    Calls Try.prog 8 #[.int .u8 (kd : Int), .int .i64 (P : Int), rv p b, .int .i64 (n : Int)] w (RowsPost p y P n w) := by
  have hM : ∀ (Q : Nat), Q ≤ 1000000000000 → ∀ (z : Int), 0 ≤ z → z ≤ 9223372036854775807 → ∀ W, Calls Try.prog 17 #[.int .i64 (Q : Int), rv p b, .int .i64 z] W (Ret (.tuple #[rowV ((mi p Q : Nat) : Int) (min z ((Q : Int) + (mi p Q : Nat)) - (mi p Q : Nat)) ((Q : Int) - (min z ((Q : Int) + (mi p Q : Nat)) - (mi p Q : Nat))), .nilIface]) W) :=
    fun Q hQ z h0 h1 W => month_any hQ hr h0 h1 W
  have hmS := fun W => makeRows n hn W
  have HM := Lib.hid hM
  have HP := Lib.hid hP
  have HYB := Lib.hid hyb
  have HY := Lib.hid hy
  have HRT := Lib.hid hr
  obtain ⟨N, hN⟩ : ∃ N, n = N + 1 := ⟨n - 1, by omega⟩
  have e1 : (n : Int) - 1 = (N : Int) := by omega
  have HN := Lib.hid hN
  unfold rv rowV at HM
  unfold rv at hU ⊢
  clear hM hP hyb hy hr hN
  go_enter Try.func8, Try.ntmps8
  have HQ0 := Lib.hid (Blk.new w 25 #[.int .u32 (p : Int), .int .u8 (b : Int)])
  have HB0 := Lib.hid (b_alloc w (.cells #[.int .u32 (p : Int), .int .u8 (b : Int)] 25))
  go_wp2_with fail
  refine (hU _).mono ?_
  rintro e w1 ⟨rfl, hb1⟩
  have HQ1_0 := Lib.hid (HQ0.out.below hb1 HQ0.out.lt)
  have HB1 := Lib.hid (HB0.out.trans (hb1.mono HB0.out.size))
  clear hb1
  have c1_0_0 := HQ1_0.out.cell 0
  have c1_0_1 := HQ1_0.out.cell 1
  have z1_0 := HQ1_0.out.lt
  try simp at c1_0_0 c1_0_1
  go_wp2_with fail
  have HG := Lib.hid (Blk.new w1 38 (rowsA (fun _ => (0, 0, 0)) n))
  have HQ2 := Lib.hid (HQ1_0.out.alloc (.cells (rowsA (fun _ => (0, 0, 0)) n) 38))
  have HB2 := Lib.hid (HB1.out.alloc HB1.out.size (.cells (rowsA (fun _ => (0, 0, 0)) n) 38))
  have hgz : w.heap.size < w1.heap.size := by have := HQ1_0.out.lt; exact this
  have HGZ := Lib.hid hgz
  clear hgz c1_0_0 c1_0_1 z1_0 hmS
  go_loopw [10, 13, 31] (fun x v i wr => ∃ (k : Nat) (z : Int) (L : Nat), k ≤ n ∧ i = .int .i64 k ∧ x = .int .i64 z ∧ v = .int .i64 L ∧ Hid (k < n → z = y ∧ L = mit p y k P) ∧ Hid (Blk wr w1.heap.size 38 (rowsA (partF (rowF p y P n) k) n)) ∧ Hid (Blk wr w.heap.size 25 #[.int .u32 (p : Int), .int .u8 (b : Int)]) ∧ Hid (Below w.heap.size w wr)) (fun _ _ i _ => n - (intOf i).toNat)
  case atStart => exact ⟨0, y, P, Nat.zero_le _, rfl, rfl, rfl, Lib.hid (fun _ => ⟨rfl, rfl⟩), Lib.hid (by have := HG.out; rwa [rowsA_ext (G := partF (rowF p y P n) 0) (fun i _ => by unfold partF; rw [if_neg (by omega)])] at this), HQ2, HB2⟩
  case round =>
    obtain ⟨k, z, L, hk, rfl, rfl, rfl, HL, HGk, HQk, HBk⟩ := hrel
    have c0 := HQk.out.cell 0
    have c1 := HQk.out.cell 1
    have z0 := HQk.out.lt
    simp at c0 c1
    by_cases hlt : k < n
    · obtain ⟨hz, hL⟩ := HL.out hlt
      subst hz
      have hLP : L ≤ P := by rw [hL]; exact mit_le HY.out k P (Nat.le_refl _)
      have hLb : L ≤ 1000000000000 := Nat.le_trans hLP HP.out
      have hmL := mi_bd hLb HRT.out.1
      have hmy : mi p L ≤ y := Nat.le_trans (mi_mono hLP) HY.out
      obtain ⟨m, hm⟩ : ∃ m, mi p L = m := ⟨_, rfl⟩
      have hf : rowF p y P n k = ((m : Int), if k + 1 = n then (L : Int) else (L : Int) - (mst p y L : Nat), if k + 1 = n then 0 else ((mst p y L : Nat) : Int)) := by
        unfold rowF
        rw [mit_succ, ← hL, hm]
      have hst : mst p y L = L + m - y := by unfold mst; rw [hm]
      rw [hst] at hf
      rw [hm] at hmL hmy
      by_cases hkN : k = N
      · have hkn : k + 1 = n := by have := HN.out; omega
        rw [if_pos hkn, if_pos hkn] at hf
        have hMQ := fun W => HM.out L hLb 9223372036854775807 (by omega) (by omega) W
        rw [hm] at hMQ
        rw [show min (9223372036854775807 : Int) ((L : Int) + (m : Int)) - (m : Int) = (L : Int) by omega, show (L : Int) - (L : Int) = 0 by omega] at hMQ
        have HF := Lib.hid hf
        have hkz : (k : Int) = (N : Int) := by omega
        subst hkN
        clear hf hst hL hLP hm hmL hmy hLb
        go_wp2_with fail
        refine (hMQ _).mono ?_
        rintro e w2 ⟨rfl, hb2⟩
        have HG2 := Lib.hid (HGk.out.below hb2 HGk.out.lt)
        have HQ2k := Lib.hid (HQk.out.below hb2 HQk.out.lt)
        have HB2k := Lib.hid (HBk.out.trans (hb2.mono HBk.out.size))
        clear hb2
        obtain ⟨g0, g1, g2⟩ := rowsA_at (partF (rowF p y P n) k) hlt
        have d0 := (HG2.out.cell (k * 3)).trans g0
        have d1 := (HG2.out.cell (k * 3 + 1)).trans g1
        have d2 := (HG2.out.cell (k * 3 + 2)).trans g2
        have f0 := HG2.out.frozen (k * 3)
        have f1 := HG2.out.frozen (k * 3 + 1)
        have f2 := HG2.out.frozen (k * 3 + 2)
        clear g0 g1 g2
        go_wp2_with fail
        go_roundw
        case rel =>
          have hset := rowsA_set (partF (rowF p y P n) k) hlt (m : Int) (L : Int) 0
          rw [partF_next _ _ _ HF.out] at hset
          refine ⟨k + 1, _, 0, by omega, by go_num, rfl, rfl, Lib.hid (fun h => by have := HN.out; omega), Lib.hid ?_, Lib.hid (HQ2k.out.far3 (by have := HGZ.out; omega) _ _ _ _), Lib.hid (below_set3k HB2k.out (by have := HGZ.out; omega) _ _ _ _)⟩
          have h3 := HG2.out.set3 (k * 3) (.int .i64 (m : Int)) (.int .i64 (L : Int)) (.int .i64 0)
          rwa [hset] at h3
        case measure => simp [intOf]; omega
      · have hkn : ¬ k + 1 = n := by have := HN.out; omega
        rw [if_neg hkn, if_neg hkn] at hf
        obtain ⟨Q, hQ⟩ : ∃ Q, L + m - y = Q := ⟨_, rfl⟩
        rw [hQ] at hf hst
        have hQL : Q ≤ L := by omega
        obtain ⟨o, ho⟩ : ∃ o, (L : Int) - (Q : Int) = o := ⟨_, rfl⟩
        rw [ho] at hf
        have hMQ := fun W => HM.out L hLb (y : Int) (by omega) (by have := HYB.out; omega) W
        rw [hm] at hMQ
        rw [show min (y : Int) ((L : Int) + (m : Int)) - (m : Int) = o by omega, show (L : Int) - o = (Q : Int) by omega] at hMQ
        have HF := Lib.hid hf
        have HQs : Hid (mit p y (k + 1) P = Q) := Lib.hid (by rw [mit_succ, ← hL]; exact hst)
        have hkz : ((k : Int) == (N : Int)) = false := by rw [beq_eq_false_iff_ne]; omega
        clear hf hst hL hLP hm hmL hmy hLb ho hQL hQ
        clear hkn
        go_wp2_with fail
        refine (hMQ _).mono ?_
        rintro e w2 ⟨rfl, hb2⟩
        have HG2 := Lib.hid (HGk.out.below hb2 HGk.out.lt)
        have HQ2k := Lib.hid (HQk.out.below hb2 HQk.out.lt)
        have HB2k := Lib.hid (HBk.out.trans (hb2.mono HBk.out.size))
        clear hb2
        obtain ⟨g0, g1, g2⟩ := rowsA_at (partF (rowF p y P n) k) hlt
        have d0 := (HG2.out.cell (k * 3)).trans g0
        have d1 := (HG2.out.cell (k * 3 + 1)).trans g1
        have d2 := (HG2.out.cell (k * 3 + 2)).trans g2
        have f0 := HG2.out.frozen (k * 3)
        have f1 := HG2.out.frozen (k * 3 + 1)
        have f2 := HG2.out.frozen (k * 3 + 2)
        clear g0 g1 g2
        go_wp2_with fail
        go_roundw
        case rel =>
          have hset := rowsA_set (partF (rowF p y P n) k) hlt (m : Int) o (Q : Int)
          rw [partF_next _ _ _ HF.out] at hset
          refine ⟨k + 1, _, Q, by omega, by go_num, rfl, rfl, Lib.hid (fun h => ⟨rfl, HQs.out.symm⟩), Lib.hid ?_, Lib.hid (HQ2k.out.far3 (by have := HGZ.out; omega) _ _ _ _), Lib.hid (below_set3k HB2k.out (by have := HGZ.out; omega) _ _ _ _)⟩
          have h3 := HG2.out.set3 (k * 3) (.int .i64 (m : Int)) (.int .i64 o) (.int .i64 (Q : Int))
          rwa [hset] at h3
        case measure => simp [intOf]; omega
    · have hkn : k = n := by omega
      subst hkn
      go_wp2_with fail
      go_ret2
      refine ⟨w1.heap.size, rfl, Nat.le_of_lt HGZ.out, HBk.out, ?_⟩
      have h3 := HGk.out
      rwa [rowsA_ext (G := rowF p y P k) (fun i hi => by unfold partF; rw [if_pos hi])] at h3
set_option maxRecDepth 20000 in
set_option maxHeartbeats 4000000 in
theorem Rows_no {kd p b : Nat} {P n : Int} (h : ¬ ((kd = 1 ∨ kd = 2) ∧ lvB p b P n)) (w : World) :
    Calls Try.prog 8 #[.int .u8 (kd : Int), .int .i64 P, rv p b, .int .i64 n] w (Ret (.tuple #[.slice none 0 0, eno 1]) w) := by
  have hU := fun W => Usual_no h W
  unfold eno at *
  unfold rv at *
  clear h
  go_enter Try.func8, Try.ntmps8
  have HQ0 := Lib.hid (Blk.new w 25 #[.int .u32 (p : Int), .int .u8 (b : Int)])
  have HB0 := Lib.hid (b_alloc w (.cells #[.int .u32 (p : Int), .int .u8 (b : Int)] 25))
  go_wp2_with fail
  refine (hU _).mono ?_
  rintro e w1 ⟨rfl, hb1⟩
  have HQ1_0 := Lib.hid (HQ0.out.below hb1 HQ0.out.lt)
  have HB1 := Lib.hid (HB0.out.trans (hb1.mono HB0.out.size))
  clear hb1
  have c1_0_0 := HQ1_0.out.cell 0
  have c1_0_1 := HQ1_0.out.cell 1
  have z1_0 := HQ1_0.out.lt
  try simp at c1_0_0 c1_0_1
  go_wp2_with fail
  go_ret2
  exact ⟨rfl, HB1.out⟩
end Go.Proofs.Ytbikfplipkhhcaa
