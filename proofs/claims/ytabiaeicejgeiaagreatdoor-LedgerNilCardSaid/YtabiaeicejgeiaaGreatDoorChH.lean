/-
  chart: balanced, Right. Conditions: the rows are there.
-/
import Derived.Deep.CutBlock
import Derived.Test.YtabiaeicejgeiaaGreatDoorChG
import Derived.Test.YtabiaeicejgeiaaGreatDoorCSumA
import Derived.Test.YtabiaeicejgeiaaGreatDoorDateA
import Derived.Laws.MakeOwn
namespace Go.Proofs.YtabiaeicejgeiaaGreatDoor
open Go.ChangeShapes Go.WideShapes Go.ChangeAt Go.RowKit

theorem infoCo : (Tryz.prog.info? 51).map (fun i => (i.zero, i.size, i.bytes)) = some (some (.int .i64 0), 1, 8) := by kernel_rfl
/-- Numbers, cell by cell. -/
def oneA (F : Nat → Int) (n : Nat) : Array Value := Array.ofFn (n := n) (fun j => Value.int .i64 (F j.val))
theorem oneA_get (F : Nat → Int) (n j : Nat) : (oneA F n)[j]? = if j < n then some (.int .i64 (F j)) else Option.none := by
  unfold oneA
  rw [Array.getElem?_ofFn]
  split <;> rfl
theorem oneA_at (F : Nat → Int) {n k : Nat} (h : k < n) : (oneA F n)[k]? = some (.int .i64 (F k)) := by rw [oneA_get, if_pos h]
def partO (F : Nat → Int) (k i : Nat) : Int := if i < k then F i else 0
theorem oneA_set (F : Nat → Int) {n k : Nat} (h : k < n) {x : Int} (hx : F k = x) :
    (oneA (partO F k) n).setIfInBounds k (.int .i64 x) = oneA (partO F (k + 1)) n := by
  apply Array.ext_getElem?
  intro j
  have hs : (oneA (partO F k) n).size = n := by simp [oneA]
  rw [Array.getElem?_setIfInBounds, hs, oneA_get, oneA_get]
  unfold partO
  by_cases h0 : k = j
  · subst h0
    rw [if_pos rfl, if_pos h, if_pos h, if_pos (by omega), hx]
  · rw [if_neg h0]
    by_cases hj : j < n
    · rw [if_pos hj, if_pos hj]
      by_cases hk : j < k
      · rw [if_pos hk, if_pos (by omega)]
      · rw [if_neg hk, if_neg (by omega)]
    · rw [if_neg hj, if_neg hj]
theorem oneA_ext {F G : Nat → Int} {n : Nat} (h : ∀ i, i < n → F i = G i) : oneA F n = oneA G n := by
  apply Array.ext_getElem?
  intro j
  rw [oneA_get, oneA_get]
  by_cases hj : j < n
  · rw [if_pos hj, if_pos hj, h _ hj]
  · rw [if_neg hj, if_neg hj]
theorem makeCoins (n : Nat) (hn : n ≤ 100000) (u : World) :
    (Instr.makeSlice 183 (.int .i64 (n : Int)) (.int .i64 (n : Int))).run Tryz.prog u = .ok (.slice (some ⟨u.heap.size, 0, none⟩) n n) (u.alloc (.cells (oneA (fun _ => 0) n) 51)) := by
  obtain ⟨i0, hi, hz0, hz1, hz2⟩ := info_parts infoCo
  have h := run_make (P := Tryz.prog) u 183 51 i0 (.int .i64 0) Tryz.underlying183 hi hz0 .i64 .i64 (n : Int) (n : Int) (by omega) (Int.le_refl _) (by rw [hz2]; omega) (by omega)
  rw [Int.toNat_natCast, hz1, show Value.cells (.int .i64 0) = #[.int .i64 0] from rfl, Nat.mul_one] at h
  have e : madeCells #[.int .i64 0] n = oneA (fun _ => 0) n := by
    apply Array.ext_getElem?
    intro j
    rw [oneA_get]
    by_cases hj : j < n
    · rw [if_pos hj]
      simp [madeCells, hj, Nat.mod_one]
    · rw [if_neg hj]
      simp [madeCells, hj]
  rw [e] at h
  exact h
def amts (l : List (Nat × Int)) : List Int := l.map (·.2)
theorem amts_len (l : List (Nat × Int)) : (amts l).length = l.length := by simp [amts]
theorem amts_at {l : List (Nat × Int)} {k : Nat} (h : k < (amts l).length) : (amts l)[k] = (l[k]'(by rw [amts_len] at h; exact h)).2 := by simp [amts]
theorem ones_rv {w : World} {g : Nat} {F : Nat → Int} {l : List Int} (h : Blk w g 51 (oneA F l.length)) (hF : ∀ i, (hi : i < l.length) → F i = l[i]) : Rv w w.heap.size (some ⟨g, 0, none⟩) (l.map encC) := fun _ =>
  ⟨g, 0, rfl, h.lt, fun j u hu => by
    rw [List.getElem?_map] at hu
    obtain ⟨x, hx, rfl⟩ := Option.map_eq_some_iff.1 hu
    obtain ⟨hj, he⟩ := List.getElem?_eq_some_iff.1 hx
    rw [Nat.zero_add, h.cell, oneA_at F hj, hF j hj, he]
    rfl⟩
set_option maxRecDepth 100000 in
set_option maxHeartbeats 4000000 in
theorem Bal_any (A : Option Addr) (n c B : Nat) (l : List (Nat × Int)) (w : World) (hR : Rs legT w B A l) (hn : l.length = n) (hm : n ≤ 100000) (hB : B ≤ w.heap.size) (hI : ∀ u ∈ l, LegIn u) :
    Calls Tryz.prog 72 #[.slice A n c] w (Ret (.bool (decide (sumO (amts l) = some 0))) w) := by
  subst hn
  obtain ⟨q, hq⟩ : ∃ q, decide (sumO (amts l) = some 0) = q := ⟨_, rfl⟩
  rw [hq]
  have HQ := Lib.hid hq
  clear hq
  have hmS := fun W => makeCoins l.length hm W
  have HR := Lib.hid hR
  have HI := Lib.hid hI
  clear hR hI
  go_enter Tryz.func72, Tryz.ntmps72
  go_wp2_with fail
  have HA := Lib.hid (Blk.new w 51 (oneA (fun _ => 0) l.length))
  have HB0 := Lib.hid (b_alloc w (.cells (oneA (fun _ => 0) l.length) 51))
  clear hmS
  go_loopw [4, 5, 13] (fun _ _ i wr => ∃ (k : Nat), k ≤ l.length ∧ i = .int .i64 k ∧ Hid (Blk wr w.heap.size 51 (oneA (partO (fun i => (l.getD i (0, 0)).2) k) l.length)) ∧ Hid (Below w.heap.size w wr)) (fun _ _ i _ => l.length - (intOf i).toNat)
  case atStart => exact ⟨0, Nat.zero_le _, rfl, Lib.hid (by have := HA.out; rwa [oneA_ext (G := partO (fun i => (l.getD i (0, 0)).2) 0) (fun i _ => by unfold partO; rw [if_neg (by omega)])] at this), HB0⟩
  case round =>
    obtain ⟨k, hk, rfl, HAk, HBL⟩ := hrel
    by_cases hlt : k < l.length
    · obtain ⟨b1, o1, rfl, hb1, d0, d1⟩ := HR.out.leg hlt
      have d0 := (HBL.out.cell (p := ⟨b1, o1 + k * 2, none⟩) (by exact Nat.lt_of_lt_of_le hb1 hB)).trans d0
      have d1 := (HBL.out.cell (p := ⟨b1, o1 + k * 2 + 1, none⟩) (by exact Nat.lt_of_lt_of_le hb1 hB)).trans d1
      have hgd := getD_leg hlt
      obtain ⟨x, hx⟩ : ∃ x, (l[k]).1 = x := ⟨_, rfl⟩
      obtain ⟨z, hz⟩ : ∃ z, (l[k]).2 = z := ⟨_, rfl⟩
      have HZ := Lib.hid (show (l.getD k (0, 0)).2 = z by rw [hgd, hz])
      rw [hx] at d0
      rw [hz] at d1
      have HA2 := Lib.hid (HAk.out.alloc (.cells #[.int .u8 (x : Int), .int .i64 z] 53))
      have HB2 := Lib.hid (HBL.out.alloc HBL.out.size (.cells #[.int .u8 (x : Int), .int .i64 z] 53))
      have a0 := (HAk.out.cell k).trans (oneA_at _ hlt)
      have f0 := HAk.out.frozen k
      have al := HAk.out.lt
      clear hx hz hgd
      go_wp2_with fail
      go_roundw
      case rel =>
        refine ⟨k + 1, by omega, by go_num, Lib.hid ?_, Lib.hid ((HBL.out.setCell (p := ⟨w.heap.size, k, none⟩) (Nat.le_refl _) (.int .i64 z)).alloc (HBL.out.setCell (p := ⟨w.heap.size, k, none⟩) (Nat.le_refl _) (.int .i64 z)).size (.cells #[.int .u8 (x : Int), .int .i64 z] 53))⟩
        have h3 := (HAk.out.set_ k (.int .i64 z)).alloc (.cells #[.int .u8 (x : Int), .int .i64 z] 53)
        rwa [oneA_set _ hlt HZ.out] at h3
      case measure => simp [intOf]; omega
    · obtain rfl : k = l.length := by omega
      have hrv := ones_rv (l := amts l) (by have h3 := HAk.out; rw [amts_len]; exact h3) (fun i hi => by
        unfold partO
        rw [amts_len] at hi
        rw [if_pos hi]
        show (l.getD i (0, 0)).2 = _
        rw [getD_leg hi, amts_at (by rw [amts_len]; exact hi)])
      have hS := CSum_any (some ⟨w.heap.size, 0, none⟩) l.length l.length wr.heap.size (amts l) wr hrv (amts_len l) (Nat.le_refl _) (by unfold maxLen; omega) (fun u hu => by
        obtain ⟨g, hg, rfl⟩ := List.mem_map.1 hu
        exact (HI.out g hg).2)
      clear hrv hlt hk
      cases hs : sumO (amts l) with
      | none =>
        rw [hs] at hS
        unfold sumV at hS
        obtain rfl : q = false := by rw [← HQ.out, hs]; simp
        clear hs
        go_wp2_with fail
        refine hS.mono ?_
        rintro e w9 ⟨rfl, rfl⟩
        clear hS
        go_wp2_with fail
        go_ret
        exact ⟨rfl, HBL.out⟩
      | some s =>
        rw [hs] at hS
        unfold sumV at hS
        simp only [] at hS
        by_cases h0 : s = 0
        · subst h0
          obtain rfl : q = true := by rw [← HQ.out, hs]; simp
          clear hs
          go_wp2_with fail
          refine hS.mono ?_
          rintro e w9 ⟨rfl, rfl⟩
          clear hS
          go_wp2_with fail
          go_ret
          exact ⟨rfl, HBL.out⟩
        · obtain rfl : q = false := by rw [← HQ.out, hs]; simp [h0]
          clear hs
          have h1 : (s == 0) = false := by rw [beq_eq_false_iff_ne]; exact h0
          go_wp2_with fail
          refine hS.mono ?_
          rintro e w9 ⟨rfl, rfl⟩
          clear hS
          go_wp2_with fail
          go_ret
          exact ⟨by first | rfl | (apply ret_bool; simp [h0]), HBL.out⟩
/-- May an entry be? -/
def entB (y : Ky) (l : List (Nat × Int)) : Bool := decide (1 ≤ y.k ∧ y.k ≤ 7) && (dayB y.d && (decide (1 ≤ l.length ∧ l.length ≤ 8) && (risTo l l.length && decide (sumO (amts l) = some 0))))
set_option maxRecDepth 100000 in
set_option maxHeartbeats 4000000 in
theorem Right_any13 (y : Ky) (A : Option Addr) (n c B : Nat) (l : List (Nat × Int)) (w : World) (hR : Rs legT w B A l) (hn : l.length = n) (hm : n ≤ 100000) (hB : B ≤ w.heap.size) (hI : ∀ u ∈ l, LegIn u) :
    Calls Tryz.prog 41 #[entV y (.slice A n c)] w (Ret (.bool (entB y l)) w) := by
  subst hn
  have hK := fun W => Kind_any y.k W
  have hD := fun W => DRight_any y.d W
  have hRi := fun W (h : Below w.heap.size w W) => Rising_any A l.length c B l W (hR.below (h.mono hB)) rfl hm (Nat.le_trans hB h.size)
  have hBa := fun W (h : Below w.heap.size w W) => Bal_any A l.length c B l W (hR.below (h.mono hB)) rfl hm (Nat.le_trans hB h.size) hI
  unfold entV entC entB
  clear hR hI
  have HQ0 := Lib.hid (Blk.new w 40 #[.int .u32 (y.a : Int), .int .i32 y.d, .int .u8 (y.k : Int), .int .u32 (y.s : Int), .slice A l.length c])
  have HB0 := Lib.hid (b_alloc w (.cells #[.int .u32 (y.a : Int), .int .i32 y.d, .int .u8 (y.k : Int), .int .u32 (y.s : Int), .slice A l.length c] 40))
  by_cases hk : 1 ≤ y.k ∧ y.k ≤ 7
  · obtain ⟨a0, tl, hne⟩ := kindS_some hk
    rw [decide_eq_true hk, Bool.true_and]
    cases hd : dayB y.d
    · rw [hd] at hD
      rw [Bool.false_and]
      clear hk hd
      go_enter Tryz.func41, Tryz.ntmps41
      go_wp2_with fail
      refine (hK _).mono ?_
      rintro e w1 ⟨rfl, rfl⟩
      go_wp2_with fail
      refine (hD _).mono ?_
      rintro e w2 ⟨rfl, rfl⟩
      go_wp2_with fail
      go_ret
      exact ⟨rfl, HB0.out⟩
    · rw [hd] at hD
      rw [Bool.true_and]
      clear hk hd
      by_cases hl : 1 ≤ l.length ∧ l.length ≤ 8
      · rw [decide_eq_true hl, Bool.true_and]
        obtain ⟨l0, l1⟩ := hl
        have g0 : ¬ (l.length : Int) < 1 := by omega
        have g1 : ¬ (8 : Int) < (l.length : Int) := by omega
        cases hr : risTo l l.length
        · rw [hr] at hRi
          rw [Bool.false_and]
          clear hr
          go_enter Tryz.func41, Tryz.ntmps41
          go_wp2_with fail
          refine (hK _).mono ?_
          rintro e w1 ⟨rfl, rfl⟩
          go_wp2_with fail
          refine (hD _).mono ?_
          rintro e w2 ⟨rfl, rfl⟩
          go_wp2_with fail
          refine (hRi _ HB0.out).mono ?_
          rintro e w3 ⟨rfl, hb3⟩
          have HB3 := Lib.hid (HB0.out.trans (hb3.mono HB0.out.size))
          clear hb3
          go_wp2_with fail
          go_ret
          exact ⟨rfl, HB3.out⟩
        · rw [hr] at hRi
          rw [Bool.true_and]
          clear hr
          generalize decide (sumO (amts l) = some 0) = q at hBa ⊢
          go_enter Tryz.func41, Tryz.ntmps41
          go_wp2_with fail
          refine (hK _).mono ?_
          rintro e w1 ⟨rfl, rfl⟩
          go_wp2_with fail
          refine (hD _).mono ?_
          rintro e w2 ⟨rfl, rfl⟩
          go_wp2_with fail
          refine (hRi _ HB0.out).mono ?_
          rintro e w3 ⟨rfl, hb3⟩
          have HQ3 := Lib.hid (HQ0.out.below hb3 HQ0.out.lt)
          have HB3 := Lib.hid (HB0.out.trans (hb3.mono HB0.out.size))
          clear hb3
          have c4 := HQ3.out.cell 4
          simp at c4
          go_wp2_with fail
          refine (hBa _ HB3.out).mono ?_
          rintro e w4 ⟨rfl, hb4⟩
          have HB4 := Lib.hid (HB3.out.trans (hb4.mono HB3.out.size))
          clear hb4
          go_wp2_with fail
          go_ret
          exact ⟨by first | rfl | simp, HB4.out⟩
      · rw [decide_eq_false hl, Bool.false_and]
        rcases (show l.length < 1 ∨ 8 < l.length by omega) with h | h
        · have g0 : (l.length : Int) < 1 := by omega
          clear hl
          go_enter Tryz.func41, Tryz.ntmps41
          go_wp2_with fail
          refine (hK _).mono ?_
          rintro e w1 ⟨rfl, rfl⟩
          go_wp2_with fail
          refine (hD _).mono ?_
          rintro e w2 ⟨rfl, rfl⟩
          go_wp2_with fail
          go_ret
          exact ⟨rfl, HB0.out⟩
        · have g0 : ¬ (l.length : Int) < 1 := by omega
          have g1 : (8 : Int) < (l.length : Int) := by omega
          clear hl
          go_enter Tryz.func41, Tryz.ntmps41
          go_wp2_with fail
          refine (hK _).mono ?_
          rintro e w1 ⟨rfl, rfl⟩
          go_wp2_with fail
          refine (hD _).mono ?_
          rintro e w2 ⟨rfl, rfl⟩
          go_wp2_with fail
          go_ret
          exact ⟨rfl, HB0.out⟩
  · have hne := kindS_none hk
    rw [decide_eq_false hk, Bool.false_and]
    clear hk
    go_enter Tryz.func41, Tryz.ntmps41
    go_wp2_with fail
    refine (hK _).mono ?_
    rintro e w1 ⟨rfl, rfl⟩
    go_wp2_with fail
    go_ret
    exact ⟨rfl, HB0.out⟩
end Go.Proofs.YtabiaeicejgeiaaGreatDoor
