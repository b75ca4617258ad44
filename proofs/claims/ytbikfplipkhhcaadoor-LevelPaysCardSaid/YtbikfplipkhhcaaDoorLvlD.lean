/-
  level: names, Sums, the example. Conditions: the numbers' kinds.
-/
import Derived.Test.YtbikfplipkhhcaaDoorLvlC
import Derived.Lib.Strings
namespace Go.Proofs.YtbikfplipkhhcaaDoor
open Go.RowKit

theorem ba_eq {s : ByteArray} {l : List UInt8} (h : s.toList = l) : s = ⟨l.toArray⟩ := by
  obtain ⟨d⟩ := s
  rw [Go.Lib.toList_data] at h
  subst h
  simp
theorem ba_ne {s : ByteArray} {l : List UInt8} (h : ¬ s = ⟨l.toArray⟩) : (s.toList == l) = false := by
  rw [beq_eq_false_iff_ne]
  exact fun e => h (ba_eq e)
def levelS : ByteArray := ⟨#[108, 101, 118, 101, 108]⟩
def onlyS : ByteArray := ⟨#[111, 110, 108, 121]⟩
def kindB (s : ByteArray) : Nat := if s = levelS then 1 else if s = onlyS then 2 else 0
def nameB (k : Nat) : ByteArray := if k = 1 then levelS else if k = 2 then onlyS else ⟨#[]⟩
set_option maxRecDepth 20000 in
set_option maxHeartbeats 4000000 in
theorem Kind_any (s : ByteArray) (w : World) : Calls Tryd.prog 14 #[.string s] w fun e w' => e = .returned (.int .u8 (kindB s : Nat)) ∧ w = w' := by
  unfold kindB
  by_cases h1 : s = levelS
  · rw [if_pos h1]
    subst h1
    unfold levelS
    go_enter Tryd.func14, Tryd.ntmps14
    go_wp2_with fail
    go_ret
    exact ⟨rfl, rfl⟩
  · rw [if_neg h1]
    have j1 : (s.toList == [108, 101, 118, 101, 108]) = false := ba_ne h1
    by_cases h2 : s = onlyS
    · rw [if_pos h2]
      subst h2
      unfold onlyS
      clear h1 j1
      go_enter Tryd.func14, Tryd.ntmps14
      go_wp2_with fail
      go_ret
      exact ⟨rfl, rfl⟩
    · rw [if_neg h2]
      have j2 : (s.toList == [111, 110, 108, 121]) = false := ba_ne h2
      clear h1 h2
      go_enter Tryd.func14, Tryd.ntmps14
      go_wp2_with fail
      go_ret
      exact ⟨rfl, rfl⟩
theorem infoC : (Tryd.prog.info? 22).map (fun i => (i.zero, i.size, i.bytes)) = some (some (.int .i64 0), 1, 8) := by kernel_rfl
/-- Numbers, cell by cell. -/
def oneA (F : Nat → Int) (n : Nat) : Array Value := Array.ofFn (n := n) (fun j => Value.int .i64 (F j.val))
theorem oneA_get (F : Nat → Int) (n j : Nat) : (oneA F n)[j]? = if j < n then some (.int .i64 (F j)) else Option.none := by
  unfold oneA
  rw [Array.getElem?_ofFn]
  split <;> rfl
theorem oneA_at (F : Nat → Int) {n k : Nat} (h : k < n) : (oneA F n)[k]? = some (.int .i64 (F k)) := by rw [oneA_get, if_pos h]
def partO (F : Nat → Int) (k i : Nat) : Int := if i < k then F i else 0
theorem oneA_set (F : Nat → Int) {n k : Nat} (h : k < n) {x : Int} (hx : F k = x) :
    (oneA (partO F k) n).setIfInBounds k (.int .i64 x) = oneA (partO F (k + 1)) n := by
  apply Array.ext_getElem?
  intro j
  have hs : (oneA (partO F k) n).size = n := by simp [oneA]
  rw [Array.getElem?_setIfInBounds, hs, oneA_get, oneA_get]
  unfold partO
  by_cases h0 : k = j
  · subst h0
    rw [if_pos rfl, if_pos h, if_pos h, if_pos (by omega), hx]
  · rw [if_neg h0]
    by_cases hj : j < n
    · rw [if_pos hj, if_pos hj]
      by_cases hk : j < k
      · rw [if_pos hk, if_pos (by omega)]
      · rw [if_neg hk, if_neg (by omega)]
    · rw [if_neg hj, if_neg hj]
theorem oneA_ext {F G : Nat → Int} {n : Nat} (h : ∀ i, i < n → F i = G i) : oneA F n = oneA G n := by
  apply Array.ext_getElem?
  intro j
  rw [oneA_get, oneA_get]
  by_cases hj : j < n
  · rw [if_pos hj, if_pos hj, h _ hj]
  · rw [if_neg hj, if_neg hj]
/-- What the first k rows pay. -/
def paysTo (F : Nat → Int × Int × Int) : Nat → Int
  | 0 => 0
  | k + 1 => paysTo F k + ((F k).1 + (F k).2.1)
def SumsPost (F : Nat → Int × Int × Int) (n : Nat) (w : World) (e : Ending) (w' : World) : Prop :=
  ∃ g, e = .returned (.slice (some ⟨g, 0, none⟩) n n) ∧ w.heap.size ≤ g ∧ Below w.heap.size w w' ∧ Blk w' g 22 (oneA (fun i => paysTo F (i + 1)) n)
theorem lst_ex : Lst 0 3 1000 334 := by
  refine ⟨by decide, fun z hz => ?_⟩
  rcases Nat.lt_or_ge z 334 with h | h
  · have := mit_low (p := 0) (y := z) 3 1000
    unfold Clr at hz
    omega
  · exact h
set_option maxRecDepth 20000 in
set_option maxHeartbeats 4000000 in
theorem awake10 (w : World) : Calls Tryd.prog 5 #[] w (Ret (.bool true) w) := by
  have hr : rateB 0 1 := ⟨by omega, Or.inl rfl⟩
  have hP := fun W => Payment_yes (P := 1000) (n := 3) hr (by omega) (by omega) (by omega) (by omega) lst_ex W
  have hR := fun W => Rows_yes (kd := 1) (P := 1000) (n := 3) (y := 334) hr (by omega) (by omega) (by omega) (by decide) (by omega) (fun W => Usual_level hr (by omega) (by omega) (by omega) (by omega) lst_ex W) W
  replace hP : ∀ W, Calls Tryd.prog 6 #[.int .i64 1000, .agg #[.int .u32 0, .int .u8 1], .int .i64 3] W (Ret (.tuple #[.int .i64 334, .nilIface]) W) := hP
  replace hR : ∀ W, Calls Tryd.prog 11 #[.int .u8 1, .int .i64 1000, .agg #[.int .u32 0, .int .u8 1], .int .i64 3] W (RowsPost 0 334 1000 3 W) := hR
  have hPy : ∀ W, Calls Tryd.prog 13 #[.agg #[.int .i64 0, .int .i64 332, .int .i64 0]] W (Ret (.int .i64 332) W) := fun W => Pay_any (i := 0) (o := 332) (l := 0) rfl (by omega) (by omega) W
  have hK := fun W => Kind_any onlyS W
  replace hK : ∀ W, Calls Tryd.prog 14 #[.string ⟨#[111, 110, 108, 121]⟩] W fun e w' => e = .returned (.int .u8 2) ∧ W = w' := hK
  clear hr
  go_enter Tryd.func5, Tryd.ntmps5
  go_wp2_with fail
  refine (hP _).mono ?_
  rintro e w1 ⟨rfl, hb1⟩
  have HB1 := Lib.hid hb1
  clear hb1
  go_wp2_with fail
  refine (hR _).mono ?_
  rintro e w2 ⟨g, rfl, hg, hb2, hk2⟩
  obtain ⟨g0, g1, g2⟩ := rowsA_at (rowF 0 334 1000 3) (n := 3) (k := 2) (by omega)
  have d0 := (hk2.cell 6).trans g0
  have d1 := (hk2.cell 7).trans g1
  have d2 := (hk2.cell 8).trans g2
  rw [show (rowF 0 334 1000 3 2) = (0, 332, 0) by decide] at d0 d1 d2
  have z0 := hk2.lt
  have HB2 := Lib.hid (HB1.out.trans (hb2.mono HB1.out.size))
  clear hb2 hk2 g0 g1 g2 hg
  go_wp2_with fail
  refine (hPy _).mono ?_
  rintro e w3 ⟨rfl, hb3⟩
  have HB3 := Lib.hid (HB2.out.trans (hb3.mono HB2.out.size))
  clear hb3 d0 d1 d2 z0
  go_wp2_with fail
  refine (hK _).mono ?_
  rintro e w99 ⟨rfl, rfl⟩
  go_wp2_with fail
  go_ret
  exact ⟨rfl, HB3.out⟩
end Go.Proofs.YtbikfplipkhhcaaDoor
