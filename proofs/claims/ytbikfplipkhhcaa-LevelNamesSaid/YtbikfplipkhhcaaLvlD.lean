/-
  level: names, Sums, the example. Conditions: the numbers' kinds.
-/
import Derived.Test.YtbikfplipkhhcaaLvlC
import Derived.Lib.Strings
namespace Go.Proofs.Ytbikfplipkhhcaa
open Go.RowKit

theorem ba_eq {s : ByteArray} {l : List UInt8} (h : s.toList = l) : s = ⟨l.toArray⟩ := by
  obtain ⟨d⟩ := s
  rw [Go.Lib.toList_data] at h
  subst h
  simp
theorem ba_ne {s : ByteArray} {l : List UInt8} (h : ¬ s = ⟨l.toArray⟩) : (s.toList == l) = false := by
  rw [beq_eq_false_iff_ne]
  exact fun e => h (ba_eq e)
def levelS : ByteArray := ⟨#[108, 101, 118, 101, 108]⟩
def onlyS : ByteArray := ⟨#[111, 110, 108, 121]⟩
def kindB (s : ByteArray) : Nat := if s = levelS then 1 else if s = onlyS then 2 else 0
def nameB (k : Nat) : ByteArray := if k = 1 then levelS else if k = 2 then onlyS else ⟨#[]⟩
set_option maxRecDepth 20000 in
set_option maxHeartbeats 4000000 in
theorem Kind_any (s : ByteArray) (w : World) : Calls Try.prog 13 #[.string s] w fun e w' => e = .returned (.int .u8 (kindB s : Nat)) ∧ w = w' := by
  unfold kindB
  by_cases h1 : s = levelS
  · rw [if_pos h1]
    subst h1
    unfold levelS
    go_enter Try.func13, Try.ntmps13
    go_wp2_with fail
    go_ret
    exact ⟨rfl, rfl⟩
  · rw [if_neg h1]
    have j1 : (s.toList == [108, 101, 118, 101, 108]) = false := ba_ne h1
    by_cases h2 : s = onlyS
    · rw [if_pos h2]
      subst h2
      unfold onlyS
      clear h1 j1
      go_enter Try.func13, Try.ntmps13
      go_wp2_with fail
      go_ret
      exact ⟨rfl, rfl⟩
    · rw [if_neg h2]
      have j2 : (s.toList == [111, 110, 108, 121]) = false := ba_ne h2
      clear h1 h2
      go_enter Try.func13, Try.ntmps13
      go_wp2_with fail
      go_ret
      exact ⟨rfl, rfl⟩
set_option maxRecDepth 20000 in
set_option maxHeartbeats 4000000 in
theorem Name_any (k : Nat) (w : World) : Calls Try.prog 14 #[.int .u8 (k : Int)] w fun e w' => e = .returned (.string (nameB k)) ∧ w = w' := by
  unfold nameB
  by_cases h1 : k = 1
  · subst h1
    go_enter Try.func14, Try.ntmps14
    go_wp2_with fail
    go_ret
    exact ⟨rfl, rfl⟩
  · rw [if_neg h1]
    by_cases h2 : k = 2
    · subst h2
      go_enter Try.func14, Try.ntmps14
      go_wp2_with fail
      go_ret
      exact ⟨rfl, rfl⟩
    · rw [if_neg h2]
      have j1 : ((k : Int) == 1) = false := by rw [beq_eq_false_iff_ne]; omega
      have j2 : ((k : Int) == 2) = false := by rw [beq_eq_false_iff_ne]; omega
      clear h1 h2
      go_enter Try.func14, Try.ntmps14
      go_wp2_with fail
      go_ret
      exact ⟨rfl, rfl⟩

theorem infoC : (Try.prog.info? 22).map (fun i => (i.zero, i.size, i.bytes)) = some (some (.int .i64 0), 1, 8) := by kernel_rfl
/-- Numbers, cell by cell. -/
def oneA (F : Nat → Int) (n : Nat) : Array Value := Array.ofFn (n := n) (fun j => Value.int .i64 (F j.val))
theorem oneA_get (F : Nat → Int) (n j : Nat) : (oneA F n)[j]? = if j < n then some (.int .i64 (F j)) else Option.none := by
  unfold oneA
  rw [Array.getElem?_ofFn]
  split <;> rfl
theorem oneA_at (F : Nat → Int) {n k : Nat} (h : k < n) : (oneA F n)[k]? = some (.int .i64 (F k)) := by rw [oneA_get, if_pos h]
def partO (F : Nat → Int) (k i : Nat) : Int := if i < k then F i else 0
theorem oneA_set (F : Nat → Int) {n k : Nat} (h : k < n) {x : Int} (hx : F k = x) :
    (oneA (partO F k) n).setIfInBounds k (.int .i64 x) = oneA (partO F (k + 1)) n := by
  apply Array.ext_getElem?
  intro j
  have hs : (oneA (partO F k) n).size = n := by simp [oneA]
  rw [Array.getElem?_setIfInBounds, hs, oneA_get, oneA_get]
  unfold partO
  by_cases h0 : k = j
  · subst h0
    rw [if_pos rfl, if_pos h, if_pos h, if_pos (by omega), hx]
  · rw [if_neg h0]
    by_cases hj : j < n
    · rw [if_pos hj, if_pos hj]
      by_cases hk : j < k
      · rw [if_pos hk, if_pos (by omega)]
      · rw [if_neg hk, if_neg (by omega)]
    · rw [if_neg hj, if_neg hj]
theorem oneA_ext {F G : Nat → Int} {n : Nat} (h : ∀ i, i < n → F i = G i) : oneA F n = oneA G n := by
  apply Array.ext_getElem?
  intro j
  rw [oneA_get, oneA_get]
  by_cases hj : j < n
  · rw [if_pos hj, if_pos hj, h _ hj]
  · rw [if_neg hj, if_neg hj]
theorem makeCoins (n : Nat) (hn : n ≤ 480) (u : World) :
    (Instr.makeSlice 35 (.int .i64 (n : Int)) (.int .i64 (n : Int))).run Try.prog u = .ok (.slice (some ⟨u.heap.size, 0, none⟩) n n) (u.alloc (.cells (oneA (fun _ => 0) n) 22)) := by
  obtain ⟨i0, hi, hz0, hz1, hz2⟩ := info_parts infoC
  have h := run_make (P := Try.prog) u 35 22 i0 (.int .i64 0) Try.underlying35 hi hz0 .i64 .i64 (n : Int) (n : Int) (by omega) (Int.le_refl _) (by rw [hz2]; omega) (by omega)
  rw [Int.toNat_natCast, hz1, show Value.cells (.int .i64 0) = #[.int .i64 0] from rfl, Nat.mul_one] at h
  have e : madeCells #[.int .i64 0] n = oneA (fun _ => 0) n := by
    apply Array.ext_getElem?
    intro j
    rw [oneA_get]
    by_cases hj : j < n
    · rw [if_pos hj]
      simp [madeCells, hj, Nat.mod_one]
    · rw [if_neg hj]
      simp [madeCells, hj]
  rw [e] at h
  exact h
/-- What the first k rows pay. -/
def paysTo (F : Nat → Int × Int × Int) : Nat → Int
  | 0 => 0
  | k + 1 => paysTo F k + ((F k).1 + (F k).2.1)
def SumsPost (F : Nat → Int × Int × Int) (n : Nat) (w : World) (e : Ending) (w' : World) : Prop :=
  ∃ g, e = .returned (.slice (some ⟨g, 0, none⟩) n n) ∧ w.heap.size ≤ g ∧ Below w.heap.size w w' ∧ Blk w' g 22 (oneA (fun i => paysTo F (i + 1)) n)
set_option maxRecDepth 20000 in
set_option maxHeartbeats 4000000 in
theorem Sums_any {F : Nat → Int × Int × Int} {n : Nat} (g : Nat) (hn : n ≤ 480) (w : World) (hg : Blk w g 38 (rowsA F n))
    (hb : ∀ k, k < n → -9223372036854775808 ≤ (F k).1 + (F k).2.1 ∧ (F k).1 + (F k).2.1 ≤ 9223372036854775807 ∧ -9223372036854775808 ≤ paysTo F (k + 1) ∧ paysTo F (k + 1) ≤ 9223372036854775807) :
    Calls Try.prog 11 #[.slice (some ⟨g, 0, none⟩) n n] w (SumsPost F n w) := by
  have hmS := fun W => makeCoins n hn W
  have HG := Lib.hid hg
  have HB := Lib.hid hb
  have hgl := hg.lt
  clear hg hb
  go_enter Try.func11, Try.ntmps11
  go_wp2_with fail
  have HA := Lib.hid (Blk.new w 22 (oneA (fun _ => 0) n))
  have HB0 := Lib.hid (b_alloc w (.cells (oneA (fun _ => 0) n) 22))
  clear hmS
  go_loopw [4, 12] (fun x i wr => ∃ (k : Nat), k ≤ n ∧ i = .int .i64 k ∧ x = .int .i64 (paysTo F k) ∧ Hid (Blk wr w.heap.size 22 (oneA (partO (fun i => paysTo F (i + 1)) k) n)) ∧ Hid (Blk wr g 38 (rowsA F n)) ∧ Hid (Below w.heap.size w wr)) (fun _ i _ => n - (intOf i).toNat)
  case atStart => exact ⟨0, Nat.zero_le _, rfl, rfl, Lib.hid (by have := HA.out; rwa [oneA_ext (G := partO (fun i => paysTo F (i + 1)) 0) (fun i _ => by unfold partO; rw [if_neg (by omega)])] at this), Lib.hid (HG.out.alloc _), HB0⟩
  case round =>
    obtain ⟨k, hk, rfl, rfl, HAk, HGk, HBk⟩ := hrel
    by_cases hlt : k < n
    · obtain ⟨g0, g1, g2⟩ := rowsA_at F hlt
      obtain ⟨b0, b1, b2, b3⟩ := HB.out k hlt
      obtain ⟨x, hx⟩ : ∃ x, (F k).1 = x := ⟨_, rfl⟩
      obtain ⟨y, hy⟩ : ∃ y, (F k).2.1 = y := ⟨_, rfl⟩
      obtain ⟨z, hz⟩ : ∃ z, (F k).2.2 = z := ⟨_, rfl⟩
      obtain ⟨s, hs⟩ : ∃ s, x + y = s := ⟨_, rfl⟩
      obtain ⟨S, hS⟩ : ∃ S, paysTo F k = S := ⟨_, rfl⟩
      obtain ⟨S2, hS2⟩ : ∃ S2, paysTo F (k + 1) = S2 := ⟨_, rfl⟩
      have hSs : S + s = S2 := by rw [← hS2, paysTo, hx, hy, hs, hS]
      rw [hx, hy, hs] at b0 b1
      rw [hS2] at b2 b3
      have HS2 := Lib.hid hS2
      rw [hx] at g0; rw [hy] at g1; rw [hz] at g2
      rw [hS]
      have hP := fun W => Pay_any (l := z) hs b0 b1 W
      have d0 := (HGk.out.cell (k * 3)).trans g0
      have d1 := (HGk.out.cell (k * 3 + 1)).trans g1
      have d2 := (HGk.out.cell (k * 3 + 2)).trans g2
      have z0 := HGk.out.lt
      have i1 : IntKind.i64.wrap S2 = S2 := by rw [IntKind.wrap_i64]; omega
      unfold rowV at hP
      clear g0 g1 g2 hx hy hz hS hS2 hs b0 b1 b2 b3
      go_wp2_with fail
      refine (hP _).mono ?_
      rintro e w2 ⟨rfl, hb2⟩
      have HA1 := Lib.hid (HAk.out.alloc (.cells #[.int .i64 x, .int .i64 y, .int .i64 z] 38))
      have HG1 := Lib.hid (HGk.out.alloc (.cells #[.int .i64 x, .int .i64 y, .int .i64 z] 38))
      have HB1 := Lib.hid (HBk.out.alloc HBk.out.size (.cells #[.int .i64 x, .int .i64 y, .int .i64 z] 38))
      have HA2 := Lib.hid (HA1.out.below hb2 HA1.out.lt)
      have HG2 := Lib.hid (HG1.out.below hb2 HG1.out.lt)
      have HB2 := Lib.hid (HB1.out.trans (hb2.mono HB1.out.size))
      have a0 := (HA2.out.cell k).trans (oneA_at _ hlt)
      have f0 := HA2.out.frozen k
      clear hb2 d0 d1 d2 z0
      go_wp2_with fail
      go_roundw
      case rel =>
        refine ⟨k + 1, by omega, by go_num, by rw [HS2.out], Lib.hid ?_, Lib.hid (HG2.out.far (by show g ≠ w.heap.size; omega) _), Lib.hid (HB2.out.setCell (Nat.le_refl _) _)⟩
        have h3 := HA2.out.set_ k (.int .i64 S2)
        rwa [oneA_set _ hlt HS2.out] at h3
      case measure => simp [intOf]; omega
    · have hkn : k = n := by omega
      subst hkn
      go_wp2_with fail
      go_ret
      refine ⟨w.heap.size, rfl, Nat.le_refl _, HBk.out, ?_⟩
      have h3 := HAk.out
      rwa [oneA_ext (G := fun i => paysTo F (i + 1)) (fun i hi => by unfold partO; rw [if_pos hi])] at h3
set_option maxRecDepth 20000 in
set_option maxHeartbeats 4000000 in
theorem Sums_nil (w : World) : Calls Try.prog 11 #[.slice none 0 0] w fun e w' => (∃ g, e = .returned (.slice (some ⟨g, 0, none⟩) 0 0)) ∧ Below w.heap.size w w' := by
  have hmS : ∀ W, (Instr.makeSlice 35 (.int .i64 0) (.int .i64 0)).run Try.prog W = .ok (.slice (some ⟨W.heap.size, 0, none⟩) 0 0) (W.alloc (.cells (oneA (fun _ => 0) 0) 22)) := fun W => makeCoins 0 (by omega) W
  go_enter Try.func11, Try.ntmps11
  go_wp2_with fail
  have HB0 := Lib.hid (b_alloc w (.cells (oneA (fun _ => 0) 0) 22))
  clear hmS
  go_loopw [4, 12] (fun x i wr => i = .int .i64 0 ∧ Hid (Below w.heap.size w wr)) (fun _ i _ => 0)
  case atStart => exact ⟨rfl, HB0⟩
  case round =>
    obtain ⟨rfl, HBk⟩ := hrel
    go_wp2_with fail
    go_ret
    exact ⟨⟨_, rfl⟩, HBk.out⟩

theorem lst_ex : Lst 0 3 1000 334 := by
  refine ⟨by decide, fun z hz => ?_⟩
  rcases Nat.lt_or_ge z 334 with h | h
  · have := mit_low (p := 0) (y := z) 3 1000
    unfold Clr at hz
    omega
  · exact h
set_option maxRecDepth 20000 in
set_option maxHeartbeats 4000000 in
theorem awake10 (w : World) : Calls Try.prog 7 #[] w (Ret (.bool true) w) := by
  have hr : rateB 0 1 := ⟨by omega, Or.inl rfl⟩
  have hP := fun W => Payment_yes (P := 1000) (n := 3) hr (by omega) (by omega) (by omega) (by omega) lst_ex W
  have hR := fun W => Rows_yes (kd := 1) (P := 1000) (n := 3) (y := 334) hr (by omega) (by omega) (by omega) (by decide) (by omega) (fun W => Usual_level hr (by omega) (by omega) (by omega) (by omega) lst_ex W) W
  replace hP : ∀ W, Calls Try.prog 10 #[.int .i64 1000, .agg #[.int .u32 0, .int .u8 1], .int .i64 3] W (Ret (.tuple #[.int .i64 334, .nilIface]) W) := hP
  replace hR : ∀ W, Calls Try.prog 8 #[.int .u8 1, .int .i64 1000, .agg #[.int .u32 0, .int .u8 1], .int .i64 3] W (RowsPost 0 334 1000 3 W) := hR
  have hPy : ∀ W, Calls Try.prog 12 #[.agg #[.int .i64 0, .int .i64 332, .int .i64 0]] W (Ret (.int .i64 332) W) := fun W => Pay_any (i := 0) (o := 332) (l := 0) rfl (by omega) (by omega) W
  have hK := fun W => Kind_any onlyS W
  replace hK : ∀ W, Calls Try.prog 13 #[.string ⟨#[111, 110, 108, 121]⟩] W fun e w' => e = .returned (.int .u8 2) ∧ W = w' := hK
  clear hr
  go_enter Try.func7, Try.ntmps7
  go_wp2_with fail
  refine (hP _).mono ?_
  rintro e w1 ⟨rfl, hb1⟩
  have HB1 := Lib.hid hb1
  clear hb1
  go_wp2_with fail
  refine (hR _).mono ?_
  rintro e w2 ⟨g, rfl, hg, hb2, hk2⟩
  obtain ⟨g0, g1, g2⟩ := rowsA_at (rowF 0 334 1000 3) (n := 3) (k := 2) (by omega)
  have d0 := (hk2.cell 6).trans g0
  have d1 := (hk2.cell 7).trans g1
  have d2 := (hk2.cell 8).trans g2
  rw [show (rowF 0 334 1000 3 2) = (0, 332, 0) by decide] at d0 d1 d2
  have z0 := hk2.lt
  have HB2 := Lib.hid (HB1.out.trans (hb2.mono HB1.out.size))
  clear hb2 hk2 g0 g1 g2 hg
  go_wp2_with fail
  refine (hPy _).mono ?_
  rintro e w3 ⟨rfl, hb3⟩
  have HB3 := Lib.hid (HB2.out.trans (hb3.mono HB2.out.size))
  clear hb3 d0 d1 d2 z0
  go_wp2_with fail
  refine (hK _).mono ?_
  rintro e w99 ⟨rfl, rfl⟩
  go_wp2_with fail
  go_ret
  exact ⟨rfl, HB3.out⟩
end Go.Proofs.Ytbikfplipkhhcaa
