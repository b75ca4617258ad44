/-
Days between, by number: months of thirty days. No condition.
When something is due: so many months on from a day, month's end to month's end. Plain mathematics, no condition.
due.Plain. Condition: the months' lengths are laid.
DueLasts: the walk. Conditions: the months' lengths and strconv's powers of ten are laid.
DueOpens: the walk. Conditions: the days are there; the months' lengths, powers of ten, the error's type are laid.
Plain, as the document has it; Rolled. Conditions: the days are there, the months' lengths are laid.
DueRolls: the walk. Conditions: as DueOpens'.
-/
import Derived.Test.YtpnoecjpplaicaaGreatDoorDateD
import Derived.Test.YtpnoecjpplaicaaGreatDoorDateH
import Derived.Test.YtpnoecjpplaicaaGreatDoorTextB
import Derived.Test.YtpnoecjpplaicaaGreatDoorNxtC
import Derived.Test.YtpnoecjpplaicaaGreatDoorHRight
import Derived.Lib.QuietBelow
import Derived.BigQuiet
namespace Go.Proofs.YtpnoecjpplaicaaGreatDoor

theorem num_lt {y m d y' m' d' : Int} (h : rightB y m d = true) (h' : rightB y' m' d' = true) (hl : y < y' ∨ y = y' ∧ (m < m' ∨ m = m' ∧ d < d')) : num y m d < num y' m' d' := by
  obtain ⟨a, b, c, e, f, g⟩ := right_in h
  obtain ⟨a', b', c', e', f', g'⟩ := right_in h'
  obtain ⟨i1, i2, i3, i4, i5, i6⟩ := num_in h
  obtain ⟨j1, j2, j3, j4, j5, j6⟩ := num_in h'
  rcases hl with hl | ⟨rfl, hl | ⟨rfl, hl⟩⟩
  · have := dby_mono (y + 1) y' (by omega)
    have := dby_succ y a b
    omega
  · have := cum_mono y (m + 1) m' a b (by omega) (by omega) (by omega)
    omega
  · unfold num
    omega
/-- Of two days the later one has the later date. -/
theorem civ_lt {n k : Int} (h0 : 0 ≤ n) (h1 : n ≤ 3652058) (k0 : 0 ≤ k) (k1 : k ≤ 3652058) : n < k ↔ (cY n < cY k ∨ cY n = cY k ∧ (cM n < cM k ∨ cM n = cM k ∧ cD n < cD k)) := by
  obtain ⟨r, e⟩ := civ_right n h0 h1
  obtain ⟨r', e'⟩ := civ_right k k0 k1
  constructor
  · intro h
    rcases Int.lt_trichotomy (cY n) (cY k) with hy | hy | hy
    · exact Or.inl hy
    · refine Or.inr ⟨hy, ?_⟩
      rcases Int.lt_trichotomy (cM n) (cM k) with hm | hm | hm
      · exact Or.inl hm
      · refine Or.inr ⟨hm, ?_⟩
        rcases Int.lt_trichotomy (cD n) (cD k) with hd | hd | hd
        · exact hd
        · exfalso
          have : num (cY n) (cM n) (cD n) = num (cY k) (cM k) (cD k) := by rw [hy, hm, hd]
          omega
        · exfalso
          have := num_lt r' r (Or.inr ⟨hy.symm, Or.inr ⟨hm.symm, hd⟩⟩)
          omega
      · exfalso
        have := num_lt r' r (Or.inr ⟨hy.symm, Or.inl hm⟩)
        omega
    · exfalso
      have := num_lt r' r (Or.inl hy)
      omega
  · intro h
    have := num_lt r r' h
    omega

/-- Months of thirty days. -/
def thirty (n k : Int) : Int := 360 * (cY k - cY n) + 30 * (cM k - cM n) + (if min (cD n) 30 = 30 then min (cD k) 30 else cD k) - min (cD n) 30
theorem thirty_bd {n k : Int} (h0 : 0 ≤ n) (k1 : k ≤ 3652058) (h : n ≤ k) : 0 ≤ thirty n k ∧ thirty n k ≤ 4000000 := by
  have a := civ_in n h0 (by omega)
  have b := civ_in k (by omega) k1
  have c : n = k ∨ (cY n < cY k ∨ cY n = cY k ∧ (cM n < cM k ∨ cM n = cM k ∧ cD n < cD k)) := by
    rcases Int.lt_or_eq_of_le h with h | h
    · exact Or.inr ((civ_lt h0 (by omega) (by omega) k1).1 h)
    · exact Or.inl h
  unfold thirty
  rcases c with rfl | c
  · split <;> omega
  · split <;> omega
/-- All days up to one, by months of thirty. -/
def acc (n : Int) : Int := 360 * cY n + 30 * cM n + cD n
theorem acc_next (n : Int) (h0 : 0 ≤ n) (h1 : n < 3652058) : acc (n + 1) - acc n = if cD n < mlen (cY n) (cM n) then 1 else 31 - mlen (cY n) (cM n) := by
  unfold acc
  rcases civ_next n h0 h1 with ⟨h, e1, e2, e3⟩ | ⟨h, h2, e1, e2, e3⟩ | ⟨h, h2, h3, e1, e2, e3⟩
  · rw [if_pos h, e1, e2, e3]; omega
  · rw [if_neg (by omega), e1, e2, e3]; omega
  · rw [if_neg (by omega), e1, e2, e3]; omega
theorem acc_step (n : Int) (h0 : 0 ≤ n) (h1 : n < 3652058) : 0 ≤ acc (n + 1) - acc n ∧ acc (n + 1) - acc n ≤ 3 := by
  rw [acc_next n h0 h1]
  obtain ⟨a, b, c, d, -, -, -⟩ := civ_in n h0 (by omega)
  have := mlen_lo _ _ a b c d
  have := mlen_bd (cY n) (cM n)
  split <;> omega
/-- From a month's first day. -/
theorem thirty_first {f k : Int} (hf : cD f = 1) : thirty f k = acc k - acc f := by
  unfold thirty acc
  rw [hf, if_neg (by decide), show min (1 : Int) 30 = 1 by decide]
  omega
/-- The month's first day. -/
theorem first_of (n : Int) (h0 : 0 ≤ n) (h1 : n ≤ 3652058) : 0 ≤ n - (cD n - 1) ∧ n - (cD n - 1) ≤ n ∧ cY (n - (cD n - 1)) = cY n ∧ cM (n - (cD n - 1)) = cM n ∧ cD (n - (cD n - 1)) = 1 := by
  obtain ⟨r, e⟩ := civ_right n h0 h1
  obtain ⟨a, b, c, d, f, g⟩ := right_in r
  have r' : rightB (cY n) (cM n) 1 = true := (right_iff _ _ _).2 (by omega)
  have e' : num (cY n) (cM n) 1 = n - (cD n - 1) := by unfold num at *; omega
  have := civ_unique r'
  rw [e'] at this
  have i := num_in r'
  rw [e'] at i
  exact ⟨by omega, by omega, this⟩
/-- What a day adds, by the basis. -/
def accB (b n : Int) : Int := if b = 1 then n else acc n
theorem accB_step (b n : Int) (h0 : 0 ≤ n) (h1 : n < 3652058) : 0 ≤ accB b (n + 1) - accB b n ∧ accB b (n + 1) - accB b n ≤ 3 := by
  unfold accB
  split
  · omega
  · exact acc_step n h0 h1
theorem acc_bd (n : Int) (h0 : 0 ≤ n) (h1 : n ≤ 3652058) : 0 ≤ acc n ∧ acc n ≤ 4000000 := by
  have := civ_in n h0 h1
  unfold acc
  omega
theorem accB_bd (b n : Int) (h0 : 0 ≤ n) (h1 : n ≤ 3652058) : 0 ≤ accB b n ∧ accB b n ≤ 4000000 := by
  unfold accB
  split
  · omega
  · exact acc_bd n h0 h1
theorem day_of {y m d : Int} (h : rightB y m d = true) : 0 ≤ num y m d ∧ num y m d ≤ 3652058 ∧ cY (num y m d) = y ∧ cM (num y m d) = m ∧ cD (num y m d) = d :=
  ⟨(num_in h).2.2.2.2.1, (num_in h).2.2.2.2.2, civ_unique h⟩
end Go.Proofs.YtpnoecjpplaicaaGreatDoor
namespace Go.Proofs.YtpnoecjpplaicaaGreatDoor

/-- The month that lies k on from a day's own. -/
def pT (n k : Int) : Int := mon (cY n) (cM n) k
/-- The day in it: of a last one the last one, else the same one, or the last one. -/
def pD (n k : Int) : Int := if cD n = mlen (cY n) (cM n) then mlen (mY (pT n k)) (mM (pT n k)) else mD (pT n k) (cD n)
def plainD (n k : Int) : Int := num (mY (pT n k)) (mM (pT n k)) (pD n k)
theorem pT_lo {n k : Int} (h0 : 0 ≤ n) (h1 : n ≤ 3652058) (hk : 0 ≤ k) : 0 ≤ pT n k := by
  have := civ_in n h0 h1
  unfold pT mon
  omega
theorem pT_hi {n k : Int} (h0 : 0 ≤ n) (h1 : n ≤ 3652058) (hk : k ≤ 480) : pT n k ≤ 121000 := by
  have := civ_in n h0 h1
  unfold pT mon
  omega
theorem pT_add (n k j : Int) : pT n (k + j) = pT n k + j := by unfold pT mon; omega
theorem mlen_mon {t : Int} (h0 : 0 ≤ t) (h1 : t < 119988) : 28 ≤ mlen (mY t) (mM t) ∧ mlen (mY t) (mM t) ≤ 31 := by
  obtain ⟨a, b, c, d⟩ := mon_in h0 h1
  exact ⟨mlen_lo _ _ a b c d, (mlen_bd _ _).2⟩
theorem pD_right {n k : Int} (h0 : 0 ≤ n) (h1 : n ≤ 3652058) (hk : 0 ≤ k) (ht : pT n k < 119988) : rightB (mY (pT n k)) (mM (pT n k)) (pD n k) = true := by
  obtain ⟨_, _, _, _, d1, d2, _⟩ := civ_in n h0 h1
  have hl := mlen_mon (pT_lo h0 h1 hk) ht
  unfold pD
  split
  · exact (right_iff _ _ _).2 ⟨by omega, Int.le_refl _⟩
  · exact mon_right (pT_lo h0 h1 hk) ht d1
theorem plain_in {n k : Int} (h0 : 0 ≤ n) (h1 : n ≤ 3652058) (hk : 0 ≤ k) (ht : pT n k < 119988) : 0 ≤ plainD n k ∧ plainD n k ≤ 3652058 ∧ cY (plainD n k) = mY (pT n k) ∧ cM (plainD n k) = mM (pT n k) ∧ cD (plainD n k) = pD n k :=
  day_of (pD_right h0 h1 hk ht)
theorem plain_rise {n k j : Int} (h0 : 0 ≤ n) (h1 : n ≤ 3652058) (hk : 0 ≤ k) (hj : k < j) (ht : pT n j < 119988) : plainD n k < plainD n j := by
  have hlt : pT n k < pT n j := by unfold pT mon; omega
  refine num_lt (pD_right h0 h1 hk (by omega)) (pD_right h0 h1 (by omega) ht) ?_
  unfold mY mM
  omega
/-- Where a loan's days lie in their months. -/
theorem plain_last {n k : Int} (h : cD n = mlen (cY n) (cM n)) : pD n k = mlen (mY (pT n k)) (mM (pT n k)) := by unfold pD; rw [if_pos h]
theorem plain_mid {n k : Int} (h : ¬ cD n = mlen (cY n) (cM n)) : pD n k = min (cD n) (mlen (mY (pT n k)) (mM (pT n k))) := by unfold pD; rw [if_neg h]; rfl
end Go.Proofs.YtpnoecjpplaicaaGreatDoor
namespace Go.Proofs.YtpnoecjpplaicaaGreatDoor
open Go.RowKit

set_option maxRecDepth 20000 in
set_option maxHeartbeats 1000000 in
theorem Plain_arg (n k : Int) (h : n < 0 ∨ 3652058 < n ∨ k < 0 ∨ 480 < k) (w : World) :
    Calls Tryz.prog 74 #[.int .i32 n, .int .i64 k] w fun e w' => e = .returned (.tuple #[.int .i32 0, .iface 45 (.int .i64 1)]) ∧ Below w.heap.size w w' := by
  by_cases k0 : k < 0
  · clear h
    go_enter Tryz.func74, Tryz.ntmps74
    go_wp2_with fail
    go_ret2
    exact ⟨rfl, Below.refl _ _⟩
  by_cases k1 : 480 < k
  · clear h
    go_enter Tryz.func74, Tryz.ntmps74
    go_wp2_with fail
    go_ret2
    exact ⟨rfl, Below.refl _ _⟩
  have hn : n < 0 ∨ 3652058 < n := by omega
  have hN := fun W => DCivil_no n hn W
  clear h hn
  go_enter Tryz.func74, Tryz.ntmps74
  go_wp2_with fail
  refine (hN _).mono ?_
  rintro e w1 ⟨rfl, hb1⟩
  clear hN
  go_wp2_with fail
  go_ret2
  exact ⟨rfl, hb1.alloc hb1.size _⟩

set_option maxRecDepth 20000 in
set_option maxHeartbeats 1000000 in
theorem Plain_over (n k : Int) (h0 : 0 ≤ n) (h1 : n ≤ 3652058) (k0 : 0 ≤ k) (k1 : k ≤ 480) (ht : 119988 ≤ pT n k) (w : World) (hw : Lens w) :
    Calls Tryz.prog 74 #[.int .i32 n, .int .i64 k] w fun e w' => e = .returned (.tuple #[.int .i32 0, .iface 45 (.int .i64 12)]) ∧ Below w.heap.size w w' := by
  have hA := fun W (hW : Lens W) => DCivil_any n W h0 h1 hW
  have hB := fun W (hW : Lens W) => Months_over (cY n) (cM n) (cD n) k (civ_right n h0 h1).1 (.inr ht) W hW
  have n0 : ¬ k < 0 := by omega
  have n1 : ¬ 480 < k := by omega
  generalize cY n = Y at hA hB
  generalize cM n = M at hA hB
  generalize cD n = D at hA hB
  have HW := Lib.hid hw
  clear hw ht
  go_enter Tryz.func74, Tryz.ntmps74
  go_wp2_with fail
  refine (hA _ HW.out).mono ?_
  rintro e w1 ⟨rfl, hb1⟩
  have HB1 := Lib.hid (hb1.alloc hb1.size (.cells #[.int .i64 Y, .int .i64 M, .int .i64 D] 128))
  clear hb1 hA
  go_wp2_with fail
  refine (hB _ (HW.out.below HB1.out)).mono ?_
  rintro e w2 ⟨rfl, hb2⟩
  have HB2 := Lib.hid (HB1.out.trans (hb2.mono HB1.out.size))
  clear hb2 hB
  go_wp2_with fail
  go_ret2
  exact ⟨rfl, HB2.out.alloc HB2.out.size _⟩

set_option maxRecDepth 20000 in
set_option maxHeartbeats 2000000 in
theorem Plain_ok (n k : Int) (h0 : 0 ≤ n) (h1 : n ≤ 3652058) (k0 : 0 ≤ k) (k1 : k ≤ 480) (ht : pT n k < 119988) (w : World) (hw : Lens w) :
    Calls Tryz.prog 74 #[.int .i32 n, .int .i64 k] w fun e w' => e = .returned (.tuple #[.int .i32 (plainD n k), .nilIface]) ∧ Below w.heap.size w w' := by
  have hA := fun W (hW : Lens W) => DCivil_any n W h0 h1 hW
  have hcr := (civ_right n h0 h1).1
  have hB := fun W (hW : Lens W) => Months_ok (cY n) (cM n) (cD n) k hcr (pT_lo h0 h1 k0) ht W hW
  have hC := fun W (hW : Lens W) => CLast_any (cY n) (cM n) (cD n) W hW
  have hD := fun W (hW : Lens W) => CNum_yes _ _ _ (pD_right h0 h1 k0 ht) W hW
  obtain ⟨q1, q2, q3, q4⟩ := mon_in (pT_lo h0 h1 k0) ht
  have n0 : ¬ k < 0 := by omega
  have n1 : ¬ 480 < k := by omega
  have hE := fun W (hW : Lens W) => Length_any (mY (pT n k)) (mM (pT n k)) W hW
  have hP : plainD n k = num (mY (pT n k)) (mM (pT n k)) (pD n k) := rfl
  rw [← hP] at hD
  have hl : lastB (cY n) (cM n) (cD n) = decide (cD n = mlen (cY n) (cM n)) := by
    unfold lastB
    rw [hcr, Bool.true_and]
    rfl
  have hm : mD (mon (cY n) (cM n) k) (cD n) = mD (pT n k) (cD n) := rfl
  have hm1 : mY (mon (cY n) (cM n) k) = mY (pT n k) := rfl
  have hm2 : mM (mon (cY n) (cM n) k) = mM (pT n k) := rfl
  rw [hl] at hC
  rw [hm, hm1, hm2] at hB
  clear hm hm1 hm2 hl hP hcr
  have hx : cD n = mlen (cY n) (cM n) → pD n k = mlen (mY (pT n k)) (mM (pT n k)) := plain_last
  have hy : ¬ cD n = mlen (cY n) (cM n) → pD n k = mD (pT n k) (cD n) := plain_mid
  generalize plainD n k = N at hD ⊢
  generalize mD (pT n k) (cD n) = D1 at hB hy
  generalize mlen (mY (pT n k)) (mM (pT n k)) = L1 at hE hx
  generalize mY (pT n k) = Y1 at *
  generalize mM (pT n k) = M1 at *
  generalize pD n k = D2 at *
  generalize mlen (cY n) (cM n) = L at *
  generalize cY n = Y at hA hB hC
  generalize cM n = M at hA hB hC
  generalize cD n = D at *
  have HW := Lib.hid hw
  clear hw ht
  by_cases hl : D = L
  · obtain rfl := hx hl
    rw [decide_eq_true hl] at hC
    clear hx hy hl
    go_enter Tryz.func74, Tryz.ntmps74
    go_wp2_with fail
    refine (hA _ HW.out).mono ?_
    rintro e w1 ⟨rfl, hb1⟩
    have hk1 := Blk.new w1 128 #[.int .i64 Y, .int .i64 M, .int .i64 D]
    have HB1 := Lib.hid (hb1.alloc hb1.size (.cells #[.int .i64 Y, .int .i64 M, .int .i64 D] 128))
    clear hb1 hA
    go_wp2_with fail
    refine (hB _ (HW.out.below HB1.out)).mono ?_
    rintro e w2 ⟨rfl, hb2⟩
    have HB2 := Lib.hid (HB1.out.trans (hb2.mono HB1.out.size))
    have hk2 := (hk1.below hb2 hk1.lt).alloc (.cells #[.int .i64 Y1, .int .i64 M1, .int .i64 D1] 128)
    have HB3 := Lib.hid (HB2.out.alloc HB2.out.size (.cells #[.int .i64 Y1, .int .i64 M1, .int .i64 D1] 128))
    have hj := Blk.new w2 128 #[.int .i64 Y1, .int .i64 M1, .int .i64 D1]
    have c0 := hk2.cell 0
    have c1 := hk2.cell 1
    have c2 := hk2.cell 2
    have z := hk2.lt
    simp at c0 c1 c2
    clear hb2 hB hk1 hk2
    go_wp2_with fail
    refine (hC _ (HW.out.below HB3.out)).mono ?_
    rintro e w3 ⟨rfl, hb3⟩
    have HB4 := Lib.hid (HB3.out.trans (hb3.mono HB3.out.size))
    have hj3 := hj.below hb3 hj.lt
    have g0 := hj3.cell 0
    have g1 := hj3.cell 1
    have g2 := hj3.cell 2
    have f2 := hj3.frozen 2
    simp at g0 g1 g2
    have HJ := Lib.hid hj3
    clear hb3 hC c0 c1 c2 hj hj3
    go_wp2_with fail
    refine (hE _ (HW.out.below HB4.out)).mono ?_
    rintro e w4 ⟨rfl, rfl⟩
    have hj5 := HJ.out.set_ 2 (.int .i64 D2)
    have HB5 := Lib.hid (HB4.out.setCell (p := ⟨w2.heap.size, 2, none⟩) HB2.out.size (.int .i64 D2))
    obtain ⟨w5, hw5⟩ : ∃ W, w3.setCell ⟨w2.heap.size, 2, none⟩ (.int .i64 D2) = W := ⟨_, rfl⟩
    rw [hw5] at hj5 HB5
    have HW5 := Lib.hid hw5
    have k0 := hj5.cell 0
    have k1 := hj5.cell 1
    have k2 := hj5.cell 2
    simp at k0 k1 k2
    clear hw5 hj5 hE
    go_wp2_with fail
    rw [HW5.out]
    go_wp2_with fail
    refine (hD _ (HW.out.below HB5.out)).mono ?_
    rintro e w4 ⟨rfl, hb4⟩
    go_wp2_with fail
    go_ret2
    exact ⟨rfl, HB5.out.trans (hb4.mono HB5.out.size)⟩
  · have e := hy hl
    subst e
    rw [decide_eq_false hl] at hC
    clear hx hy hl
    go_enter Tryz.func74, Tryz.ntmps74
    go_wp2_with fail
    refine (hA _ HW.out).mono ?_
    rintro e w1 ⟨rfl, hb1⟩
    have hk1 := Blk.new w1 128 #[.int .i64 Y, .int .i64 M, .int .i64 D]
    have HB1 := Lib.hid (hb1.alloc hb1.size (.cells #[.int .i64 Y, .int .i64 M, .int .i64 D] 128))
    clear hb1 hA
    go_wp2_with fail
    refine (hB _ (HW.out.below HB1.out)).mono ?_
    rintro e w2 ⟨rfl, hb2⟩
    have HB2 := Lib.hid (HB1.out.trans (hb2.mono HB1.out.size))
    have hk2 := (hk1.below hb2 hk1.lt).alloc (.cells #[.int .i64 Y1, .int .i64 M1, .int .i64 D2] 128)
    have HB3 := Lib.hid (HB2.out.alloc HB2.out.size (.cells #[.int .i64 Y1, .int .i64 M1, .int .i64 D2] 128))
    have hj := Blk.new w2 128 #[.int .i64 Y1, .int .i64 M1, .int .i64 D2]
    have c0 := hk2.cell 0
    have c1 := hk2.cell 1
    have c2 := hk2.cell 2
    have z := hk2.lt
    simp at c0 c1 c2
    clear hb2 hB hk1 hk2
    go_wp2_with fail
    refine (hC _ (HW.out.below HB3.out)).mono ?_
    rintro e w3 ⟨rfl, hb3⟩
    have HB4 := Lib.hid (HB3.out.trans (hb3.mono HB3.out.size))
    have hj3 := hj.below hb3 hj.lt
    have g0 := hj3.cell 0
    have g1 := hj3.cell 1
    have g2 := hj3.cell 2
    simp at g0 g1 g2
    clear hb3 hC c0 c1 c2 hj hj3
    go_wp2_with fail
    refine (hD _ (HW.out.below HB4.out)).mono ?_
    rintro e w4 ⟨rfl, hb4⟩
    go_wp2_with fail
    go_ret2
    exact ⟨rfl, HB4.out.trans (hb4.mono HB4.out.size)⟩
end Go.Proofs.YtpnoecjpplaicaaGreatDoor
namespace Go.Proofs.YtpnoecjpplaicaaGreatDoor
open Go.RowKit

theorem text0228 : dayText 738578 = ⟨#[50, 48, 50, 51, 45, 48, 50, 45, 50, 56]⟩ := by kernel_rfl
theorem text0331 : dayText 738609 = ⟨#[50, 48, 50, 51, 45, 48, 51, 45, 51, 49]⟩ := by kernel_rfl
theorem plain0331 : plainD 738578 1 = 738609 := by kernel_rfl
theorem pT0331 : pT 738578 1 = 24266 := by kernel_rfl

end Go.Proofs.YtpnoecjpplaicaaGreatDoor
namespace Go.Proofs.YtpnoecjpplaicaaGreatDoor
open Go.RowKit

set_option maxRecDepth 20000 in
theorem NextN9 (A : Option Addr) (n c : Nat) (d : Int) (w : World) (hd : d < 0 ∨ 3652058 < d) :
    Calls Tryz.prog 75 #[.slice A n c, .int .i32 d] w fun e w' => e = .returned (.tuple #[.int .i32 0, .iface 45 (.int .i64 1)]) ∧ w' = w := by
  have hD := DRight_any d w
  rw [day_no hd] at hD
  go_enter Tryz.func75, Tryz.ntmps75
  go_wp2_with fail
  refine hD.mono ?_
  rintro e w' ⟨rfl, rfl⟩
  go_wp2_with fail
  go_ret2
  exact ⟨rfl, rfl⟩
theorem rv_later {w w' : World} {A : Option Addr} {l : List Value} (h : Rv w w.heap.size A l) (hb : Below w.heap.size w w') : Rv w' w'.heap.size A l := (h.below hb).more hb.size
end Go.Proofs.YtpnoecjpplaicaaGreatDoor
namespace Go.Proofs.YtpnoecjpplaicaaGreatDoor
open Go.RowKit

theorem pT_zero (n : Int) (hM : 1 ≤ cM n ∧ cM n ≤ 12) : mY (pT n 0) = cY n ∧ mM (pT n 0) = cM n := by
  have := mon_uniq (t := pT n 0) (y := cY n) (m := cM n) hM.1 hM.2 (by unfold pT mon; omega)
  exact ⟨this.1.symm, this.2.symm⟩
theorem pT_one (n : Int) (j : Int) : 12 * (mY (pT n j) - 1) + mM (pT n j) = pT n (j + 1) := by
  have := mon_of (pT n j)
  rw [pT_add]
  omega
def RpPost (n k : Int) (w : World) (e : Ending) (w' : World) : Prop := (pT n k < 119988 → e = .returned (.tuple #[.int .i64 (plainD n k), .int .i64 0])) ∧ (¬ pT n k < 119988 → e = .returned (.tuple #[.int .i64 0, .int .i64 12])) ∧ Below w.heap.size w w'
set_option maxRecDepth 20000 in
set_option maxHeartbeats 4000000 in
theorem RPlain9 (n k : Int) (h0 : 0 ≤ n) (h1 : n ≤ 3652058) (k0 : 0 ≤ k) (k1 : k ≤ 480) (w : World) :
    Calls Tryz.prog 42 #[.int .i64 n, .int .i64 k] w (RpPost n k w) := by
  have hA := fun W => RCivil_any n W h0 h1
  have hcr := (civ_right n h0 h1).1
  have hr := right_in hcr
  have hM : 1 ≤ cM n ∧ cM n ≤ 12 := by omega
  have hz := pT_zero n hM
  have hS := fun j => pT_one n j
  have hlo := fun j (hj : 0 ≤ j) => pT_lo (k := j) h0 h1 hj
  have hhi := fun j (hj : j ≤ 480) => pT_hi (k := j) h0 h1 hj
  have HZ := Lib.hid hz
  have HS := Lib.hid hS
  have HLO := Lib.hid hlo
  have HHI := Lib.hid hhi
  have HCR := Lib.hid hcr
  have HA := Lib.hid hA
  clear hz hS hlo hhi hcr hr hM hA
  go_enter Tryz.func42, Tryz.ntmps42
  go_wp2_with fail
  refine (HA.out _).mono ?_
  rintro e w1 ⟨rfl, hb1⟩
  have HB1 := Lib.hid hb1
  clear hb1
  go_wp2_with fail
  obtain ⟨w2, hw2⟩ : ∃ W, W = w1.alloc (.cells #[.int .i64 (cY n), .int .i64 (cM n), .int .i64 (cD n)] 125) := ⟨_, rfl⟩
  have hq := Blk.new w1 125 #[.int .i64 (cY n), .int .i64 (cM n), .int .i64 (cD n)]
  have hb2 := HB1.out.alloc HB1.out.size (.cells #[.int .i64 (cY n), .int .i64 (cM n), .int .i64 (cD n)] 125)
  rw [← hw2] at hq hb2 ⊢
  have HQ := Lib.hid hq
  have HB2 := Lib.hid hb2
  have c0 := HQ.out.cell 0
  have c1 := HQ.out.cell 1
  have c2 := HQ.out.cell 2
  simp at c0 c1 c2
  clear hw2 hq hb2
  go_quiet (fail)
  obtain ⟨w3, hw3⟩ : ∃ W, W = w2.drewN nq := ⟨_, rfl⟩
  have hq3 := HQ.out.drewN nq
  have hb3 := below_drewN HB2.out nq
  rw [← hw3] at hq3 hb3 ⊢
  have HQ3 := Lib.hid hq3
  have HB3 := Lib.hid hb3
  clear hw3 hq3 hb3 c0 c1 c2 HQ HB2
  obtain ⟨g, hg⟩ : ∃ g, w1.heap.size = g := ⟨_, rfl⟩
  rw [hg] at HQ3 ⊢
  clear hg
  go_wp2_with fail
  rw [← HZ.out.1, ← HZ.out.2]
  go_loopw [7, 8, 9] (fun x y i w' => ∃ j : Int, x = .int .i64 (mY (pT n j)) ∧ y = .int .i64 (mM (pT n j)) ∧ i = .int .i64 j ∧ 0 ≤ j ∧ j ≤ k ∧ w' = w3) (fun _ _ i _ => (k - intOf i).toNat)
  case atStart => exact ⟨0, rfl, rfl, rfl, by omega, by omega, rfl⟩
  case round =>
    obtain ⟨j, rfl, rfl, rfl, hj1, hj2, rfl⟩ := hrel
    have hlj := HLO.out j hj1
    have hhj := HHI.out j (by omega)
    obtain ⟨Y, hY⟩ : ∃ Y, Y = mY (pT n j) := ⟨_, rfl⟩
    obtain ⟨M, hM⟩ : ∃ M, M = mM (pT n j) := ⟨_, rfl⟩
    have hYb : 1 ≤ Y ∧ Y ≤ 20000 := by rw [hY]; unfold mY; omega
    have hMb : 1 ≤ M ∧ M ≤ 12 := by rw [hM]; unfold mM; omega
    by_cases hjk : j < k
    · have hN := Next_fwd Y M (by omega) hMb.1 hMb.2 wr
      rw [show 12 * (Y - 1) + M = pT n (j + 1) by rw [hY, hM]; exact HS.out j] at hN
      rw [← hY, ← hM]
      have HNN := Lib.hid hN
      clear hN hY hM hlj hhj
      go_wp2_with fail
      refine HNN.out.mono ?_
      rintro e w' ⟨rfl, rfl⟩
      go_wp2_with fail
      go_roundw
      case rel => first | exact ⟨j + 1, rfl, rfl, rfl, by omega, by omega, rfl⟩ | exact ⟨j + 1, rfl, rfl, rfl, by omega, by omega, trivial⟩
      case measure => simp [intOf]; omega
    · have hjk2 : j = k := by omega
      subst hjk2
      by_cases ht : pT n j < 119988
      · have hYs : ¬ 9999 < Y := by rw [hY]; unfold mY; omega
        obtain ⟨L1, hL1⟩ : ∃ z, z = mlen (cY n) (cM n) := ⟨_, rfl⟩
        obtain ⟨L2, hL2⟩ : ∃ z, z = mlen Y M := ⟨_, rfl⟩
        have hml : 28 ≤ mlen (mY (pT n j)) (mM (pT n j)) ∧ mlen (mY (pT n j)) (mM (pT n j)) ≤ 31 := mlen_mon hlj ht
        rw [← hY, ← hM, ← hL2] at hml
        have hDb := right_in HCR.out
        have hlast : cD n = L1 → pD n j = L2 := fun h => by rw [hL1] at h; rw [plain_last h, hL2, hY, hM]
        have hmid : ¬ cD n = L1 → pD n j = min (cD n) L2 := fun h => by rw [hL1] at h; rw [plain_mid h, hL2, hY, hM]
        have hrt := pD_right h0 h1 (by omega : 0 ≤ j) ht
        have hpd : plainD n j = num Y M (pD n j) := by rw [hY, hM]; rfl
        rw [← hY, ← hM] at hrt
        have hA1 := fun W => RLength_any (cY n) (cM n) W
        rw [← hL1] at hA1
        have hA2 := fun W => RLength_any Y M W
        rw [← hL2] at hA2
        rw [← hY, ← hM]
        obtain ⟨D, hD⟩ : ∃ D, D = cD n := ⟨_, rfl⟩
        have HQ4 := HQ3
        rw [← hD] at hlast hmid hDb HQ4
        have HLA := Lib.hid hlast
        have HMI := Lib.hid hmid
        have HRT0 := Lib.hid hrt
        have HPD0 := Lib.hid hpd
        have HT := Lib.hid ht
        have HL2 := Lib.hid hL2
        have c0 := HQ4.out.cell 0
        have c1 := HQ4.out.cell 1
        have c2 := HQ4.out.cell 2
        simp at c0 c1 c2
        clear hlast hmid hrt hpd hY hM hlj hhj hL1 hL2 ht hD
        go_wp2_with fail
        have q0 := cell_regrown c0
        have q1 := cell_regrown c1
        have q2 := cell_regrown c2
        have A1 := fun (dd : Nat) (os : Array Obj) => Calls.regrown_of (hA1 (Go.Sort.grow (redrawn wr dd) os))
        have A2 := fun (dd : Nat) (os : Array Obj) => Calls.regrown_of (hA2 (Go.Sort.grow (redrawn wr dd) os))
        by_cases hDL : D = L1
        · have hDL1 : (L1 == D) = true := by simp [hDL]
          have hpD := HLA.out hDL
          have HRT := Lib.hid (show rightB Y M L2 = true by rw [← hpD]; exact HRT0.out)
          have HPD := Lib.hid (show plainD n j = num Y M L2 by rw [← hpD]; exact HPD0.out)
          clear hpD hDL
          refine wp_region_quiet_below (by kernel_rfl) (by kernel_rfl) ?_
          repeat (go_big_quiet_step (first | (go_at_call_of 84 (Value.int .i64 Y); exact A2 _ _) | (go_at_call 84; exact A1 _ _)))
          refine wpQuiet_nil ?_
          intro w6 hw6
          have hb6 : Below wr.heap.size wr w6 := by
            obtain ⟨p, rfl⟩ := hw6
            exact below_regrown _ _ _
          have HB6 := Lib.hid (HB3.out.trans (hb6.mono HB3.out.size))
          clear hw6 q0 q1 q2 A1 A2 hA1 hb6
          go_wp2_with fail
          refine (hA2 _).mono ?_
          rintro e w7 ⟨rfl, hb7⟩
          have HB8 := Lib.hid (HB6.out.trans (hb7.mono HB6.out.size))
          clear hb7 hA2
          go_wp2_with fail
          refine (RNum_any Y M L2 HRT.out _).mono ?_
          rintro e w9 ⟨rfl, hb9⟩
          have HB9 := Lib.hid (HB8.out.trans (hb9.mono HB8.out.size))
          clear hb9
          go_wp2_with fail
          go_ret2
          exact ⟨fun _ => by rw [HPD.out]; rfl, fun h => absurd HT.out h, HB9.out⟩
        · have hDL1 : (L1 == D) = false := by simp; exact fun h => hDL h.symm
          have hpD := HMI.out hDL
          by_cases hgt : L2 < D
          · rw [Int.min_eq_right (by omega)] at hpD
            have HRT := Lib.hid (show rightB Y M L2 = true by rw [← hpD]; exact HRT0.out)
            have HPD := Lib.hid (show plainD n j = num Y M L2 by rw [← hpD]; exact HPD0.out)
            clear hpD hDL
            refine wp_region_quiet_below (by kernel_rfl) (by kernel_rfl) ?_
            repeat (go_big_quiet_step (first | (go_at_call_of 84 (Value.int .i64 Y); exact A2 _ _) | (go_at_call 84; exact A1 _ _)))
            refine wpQuiet_nil ?_
            intro w6 hw6
            have hb6 : Below wr.heap.size wr w6 := by
              obtain ⟨p, rfl⟩ := hw6
              exact below_regrown _ _ _
            have HB6 := Lib.hid (HB3.out.trans (hb6.mono HB3.out.size))
            clear hw6 q0 q1 q2 A1 A2 hA1 hb6
            go_wp2_with fail
            refine (hA2 _).mono ?_
            rintro e w7 ⟨rfl, hb7⟩
            have HB8 := Lib.hid (HB6.out.trans (hb7.mono HB6.out.size))
            clear hb7 hA2
            go_wp2_with fail
            refine (RNum_any Y M L2 HRT.out _).mono ?_
            rintro e w9 ⟨rfl, hb9⟩
            have HB9 := Lib.hid (HB8.out.trans (hb9.mono HB8.out.size))
            clear hb9
            go_wp2_with fail
            go_ret2
            exact ⟨fun _ => by rw [HPD.out]; rfl, fun h => absurd HT.out h, HB9.out⟩
          · rw [Int.min_eq_left (by omega)] at hpD
            have HRT := Lib.hid (show rightB Y M D = true by rw [← hpD]; exact HRT0.out)
            have HPD := Lib.hid (show plainD n j = num Y M D by rw [← hpD]; exact HPD0.out)
            clear hpD hDL
            refine wp_region_quiet_below (by kernel_rfl) (by kernel_rfl) ?_
            repeat (go_big_quiet_step (first | (go_at_call_of 84 (Value.int .i64 Y); exact A2 _ _) | (go_at_call 84; exact A1 _ _)))
            refine wpQuiet_nil ?_
            intro w6 hw6
            have hb6 : Below wr.heap.size wr w6 := by
              obtain ⟨p, rfl⟩ := hw6
              exact below_regrown _ _ _
            have HB6 := Lib.hid (HB3.out.trans (hb6.mono HB3.out.size))
            clear hw6 q0 q1 q2 A1 A2 hA1 hb6
            have HB8 := HB6
            go_wp2_with fail
            refine (RNum_any Y M D HRT.out _).mono ?_
            rintro e w9 ⟨rfl, hb9⟩
            have HB9 := Lib.hid (HB8.out.trans (hb9.mono HB8.out.size))
            clear hb9
            go_wp2_with fail
            go_ret2
            exact ⟨fun _ => by rw [HPD.out]; rfl, fun h => absurd HT.out h, HB9.out⟩
      · have hYs : 9999 < Y := by rw [hY]; unfold mY; omega
        rw [← hY, ← hM]
        have HT := Lib.hid ht
        clear hY hM hlj hhj ht
        go_wp2_with fail
        go_ret2
        have ht2 : 119988 ≤ pT n j := by first | exact HT.out | (have := HT.out; omega)
        exact ⟨fun h => by omega, fun _ => rfl, HB3.out⟩
end Go.Proofs.YtpnoecjpplaicaaGreatDoor
namespace Go.Proofs.YtpnoecjpplaicaaGreatDoor
open Go.RowKit

set_option maxRecDepth 20000 in
theorem RolledErr (A : Option Addr) (m c : Nat) (n k E : Int) (hP : ∀ W, Lens W → Calls Tryz.prog 74 #[.int .i32 n, .int .i64 k] W fun e w' => e = .returned (.tuple #[.int .i32 0, .iface 45 (.int .i64 E)]) ∧ Below W.heap.size W w') (w : World) (hw : Lens w) :
    Calls Tryz.prog 32 #[.slice A m c, .int .i32 n, .int .i64 k] w fun e w' => e = .returned (.tuple #[.int .i32 0, .iface 45 (.int .i64 E)]) ∧ Below w.heap.size w w' := by
  have hC := hP w hw
  clear hP
  go_enter Tryz.func32, Tryz.ntmps32
  go_wp2_with fail
  refine hC.mono ?_
  rintro e w1 ⟨rfl, hb⟩
  have HB := Lib.hid hb
  clear hb hC
  go_wp2_with fail
  go_ret2
  exact ⟨rfl, HB.out⟩
set_option maxRecDepth 20000 in
theorem RolledOk (A : Option Addr) (m c : Nat) (l : List Int) (n k : Int) (h0 : 0 ≤ n) (h1 : n ≤ 3652058) (k0 : 0 ≤ k) (k1 : k ≤ 480) (ht : pT n k < 119988) (w : World) (hw : Lens w)
    (hR : Rv w w.heap.size A (l.map encH)) (hn : l.length = m) (hnc : m ≤ c) (hm : m ≤ 1000) (hl : ∀ v ∈ l, -2147483648 ≤ v ∧ v ≤ 2147483647) :
    Calls Tryz.prog 32 #[.slice A m c, .int .i32 n, .int .i64 k] w (NxPost l (plainD n k) w) := by
  have hC := Plain_ok n k h0 h1 k0 k1 ht w hw
  obtain ⟨p1, p2, -⟩ := plain_in h0 h1 k0 ht
  generalize plainD n k = N at *
  have HR := Lib.hid hR
  have HN := Lib.hid hn
  have HL := Lib.hid hl
  clear hR hn hl ht
  go_enter Tryz.func32, Tryz.ntmps32
  go_wp2_with fail
  refine hC.mono ?_
  rintro e w1 ⟨rfl, hb⟩
  have HB := Lib.hid hb
  have hN := Next9 A m c l N w1 (rv_later HR.out hb) HN.out hnc hm HL.out ⟨p1, p2⟩
  have HNX := Lib.hid hN
  clear hb hC hN
  go_wp2_with fail
  refine HNX.out.mono ?_
  rintro e w3 ⟨hy, hn0, hb3⟩
  have HB3 := Lib.hid (HB.out.trans (hb3.mono HB.out.size))
  clear HNX hb3 HB
  cases hx : nextD l N with
  | some y =>
    have hxy := hy y hx
    clear hy hn0
    subst hxy
    have HX := Lib.hid hx
    clear hx
    go_wp2_with fail
    go_ret2
    refine ⟨fun z h => ?_, fun h => ?_, HB3.out⟩
    · have h2 := HX.out.symm.trans h
      injection h2 with h2
      subst h2
      rfl
    · have h2 := HX.out.symm.trans h
      cases h2
  | none =>
    have hxy := hn0 hx
    clear hy hn0
    subst hxy
    have HX := Lib.hid hx
    clear hx
    go_wp2_with fail
    go_ret2
    refine ⟨fun z h => ?_, fun h => ?_, HB3.out⟩
    · have h2 := HX.out.symm.trans h
      cases h2
    · rfl
end Go.Proofs.YtpnoecjpplaicaaGreatDoor
