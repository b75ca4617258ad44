/-
The law's few; Right of any days. Conditions: the days are there.
Holy's Right of any days. Conditions: the days are there.
Days between, by number: months of thirty days. No condition.
When something is due: so many months on from a day, month's end to month's end. Plain mathematics, no condition.
due.Plain. Condition: the months' lengths are laid.
DueLasts: the walk. Conditions: the months' lengths and strconv's powers of ten are laid.
DueOpens: the walk. Conditions: the days are there; the months' lengths, powers of ten, the error's type are laid.
Plain, as the document has it; Rolled. Conditions: the days are there, the months' lengths are laid.
DueRolls: the walk. Conditions: as DueOpens'.
terms.Dues of terms that are Right, at holidays that are Right, where each month has its day: month by month that day, and all that is due by it. Condition: the months' lengths are laid.
terms: each month of terms that are Right has its day; Dues whole. Condition: the months' lengths are laid.
-/
import Derived.Test.YtjcnglkjjhnpbaaGreatDoorNxtC
import Derived.Test.YtjcnglkjjhnpbaaGreatDoorDateC
import Derived.LoopTactic
import Derived.Test.YtjcnglkjjhnpbaaGreatDoorDateH
import Derived.Test.YtjcnglkjjhnpbaaGreatDoorTextB
import Derived.Lib.QuietBelow
import Derived.BigQuiet
import Derived.Test.YtjcnglkjjhnpbaaGreatDoorTrmB
import Derived.Test.YtjcnglkjjhnpbaaGreatDoorLvlD
namespace Go.Proofs.YtjcnglkjjhnpbaaGreatDoor
open Go.ChangeShapes Go.WideShapes Go.ChangeAt Go.RowKit

theorem apartHN {w : World} {b1 b2 n1 n2 : Nat} {v1 v2 : Value} {l1 l2 : List Int} (h1 : OwnH w b1 v1 n1 l1) (h2 : OwnN w b2 v2 n2 l2) : v2.ownBlock = Option.none ∨ v2.ownBlock ≠ v1.ownBlock := by
  unfold OwnH at h1
  unfold OwnN at h2
  rcases h1.2 with ⟨rfl, _⟩ | ⟨g1, c1, cur1, rfl, _, e1, _⟩
  · rcases h2.2 with ⟨rfl, _⟩ | ⟨g2, c2, cur2, rfl, _, e2, _⟩
    · exact .inl rfl
    · exact .inr (by simp [Value.ownBlock])
  · rcases h2.2 with ⟨rfl, _⟩ | ⟨g2, c2, cur2, rfl, _, e2, _⟩
    · exact .inl rfl
    · refine .inr fun e => ?_
      simp only [Value.ownBlock, Option.some.injEq] at e
      subst e
      rw [e1] at e2
      simp at e2

theorem apartNH {w : World} {b1 b2 n1 n2 : Nat} {v1 v2 : Value} {l1 l2 : List Int} (h1 : OwnH w b1 v1 n1 l1) (h2 : OwnN w b2 v2 n2 l2) : v1.ownBlock = Option.none ∨ v1.ownBlock ≠ v2.ownBlock := by
  rcases apartHN h1 h2 with h | h
  · rw [h]
    cases v1.ownBlock with
    | none => exact .inl rfl
    | some g => exact .inr (by simp)
  · exact .inr (Ne.symm h)

theorem OwnH.alloc {w : World} {b n : Nat} {v : Value} {l : List Int} (h : OwnH w b v n l) (o : Obj) : OwnH (w.alloc o) b v n l := World.ownsRow.alloc h o
theorem OwnN.alloc {w : World} {b n : Nat} {v : Value} {l : List Int} (h : OwnN w b v n l) (o : Obj) : OwnN (w.alloc o) b v n l := World.ownsRow.alloc h o
theorem OwnN.past {w w' : World} {b1 b2 n1 n2 : Nat} {v1 v2 : Value} {l1 l2 : List Int} (h2 : OwnN w b2 v2 n2 l2) (h1 : OwnH w b1 v1 n1 l1) (hg : w.grownBy w' v1.ownBlock) : OwnN w' b2 v2 n2 l2 := World.ownsRow.kept h2 hg (apartHN h1 h2)
theorem OwnH.past {w w' : World} {b1 b2 n1 n2 : Nat} {v1 v2 : Value} {l1 l2 : List Int} (h1 : OwnH w b1 v1 n1 l1) (h2 : OwnN w b2 v2 n2 l2) (hg : w.grownBy w' v2.ownBlock) : OwnH w' b1 v1 n1 l1 := World.ownsRow.kept h1 hg (apartNH h1 h2)

def FewPost (w : World) (l : List Int) (e : Ending) (w' : World) : Prop :=
  ∃ (A1 A2 : Option Addr) (c1 c2 : Nat), e = .returned (.tuple #[.slice A1 l.length c1, .slice A2 l.length c2]) ∧ l.length ≤ c1 ∧ l.length ≤ c2 ∧ c1 ≤ maxLen ∧ c2 ≤ maxLen ∧ Rv w' w'.heap.size A1 (l.map encH) ∧ Rv w' w'.heap.size A2 (l.map encN) ∧ Below w.heap.size w w'

theorem rv_oneH (w : World) (u : Int) : Rv (w.alloc (.cells #[.int .i32 u] 26)) (w.heap.size + 1) (some ⟨w.heap.size, 0, none⟩) ([u].map encH) := fun _ =>
  ⟨w.heap.size, 0, rfl, by omega, fun j x hx => by
    rcases j with _ | j
    · simp only [List.map_cons, List.map_nil, List.getElem?_cons_zero, Option.some.injEq] at hx
      subst hx
      simp [go_sem, encH]
    · simp at hx⟩
theorem rv_oneN (w : World) (u : Int) : Rv (w.alloc (.cells #[.int .i64 u] 3)) (w.heap.size + 1) (some ⟨w.heap.size, 0, none⟩) ([u].map encN) := fun _ =>
  ⟨w.heap.size, 0, rfl, by omega, fun j x hx => by
    rcases j with _ | j
    · simp only [List.map_cons, List.map_nil, List.getElem?_cons_zero, Option.some.injEq] at hx
      subst hx
      simp [go_sem, encN]
    · simp at hx⟩

end Go.Proofs.YtjcnglkjjhnpbaaGreatDoor
namespace Go.Proofs.YtjcnglkjjhnpbaaGreatDoor
open Go.ChangeShapes Go.WideShapes Go.ChangeAt Go.RowKit

/-- The first k are days that rise. -/
def upB (l : List Int) : Nat → Bool
  | 0 => true
  | k + 1 => upB l k && (dayB (l.getD k 0) && (k == 0 || decide (l.getD (k - 1) 0 < l.getD k 0)))
theorem upB_step {l : List Int} {k : Nat} {d : Int} (hd : l.getD k 0 = d) : upB l (k + 1) = (upB l k && (dayB d && (k == 0 || decide (l.getD (k - 1) 0 < d)))) := by simp only [upB]; rw [hd]
theorem upB_end {l : List Int} {k m : Nat} (hk : k ≤ m) (h : upB l k = false) : upB l m = false := by
  induction m with
  | zero => obtain rfl : k = 0 := by omega
            exact h
  | succ m ih =>
    rcases Nat.lt_or_ge k (m + 1) with h1 | h1
    · simp only [upB]; rw [ih (by omega)]; rfl
    · obtain rfl : k = m + 1 := by omega
      exact h
def rightL (l : List Int) : Bool := decide (l.length ≤ 200) && upB l l.length
theorem getD_at {l : List Int} {k : Nat} (h : k < l.length) : l.getD k 0 = l[k] := by simp [List.getD, h]

set_option maxRecDepth 20000 in
set_option maxHeartbeats 1000000 in
theorem HRight_any (A : Option Addr) (n c B : Nat) (l : List Int) (w : World) (hR : Rv w B A (l.map encH)) (hn : l.length = n) (hm : n ≤ 140737488355328) (hw : ∀ u ∈ l, -2147483648 ≤ u ∧ u ≤ 2147483647) :
    Calls Tryz.prog 28 #[.slice A n c] w fun e w' => e = .returned (.bool (rightL l)) ∧ w = w' := by
  subst hn
  unfold rightL
  by_cases h2 : 200 < l.length
  · rw [decide_eq_false (by omega), Bool.false_and]
    clear hR hw
    go_enter Tryz.func28, Tryz.ntmps28
    go_wp2_with fail
    go_ret
    exact ⟨rfl, rfl⟩
  rw [decide_eq_true (by omega : l.length ≤ 200), Bool.true_and]
  have HR := Lib.hid hR
  have HWf := Lib.hid hw
  clear hR hw
  go_enter Tryz.func28, Tryz.ntmps28
  go_wp2_with fail
  go_loop [10] (fun i => ∃ k : Nat, k ≤ l.length ∧ i = .int .i64 k ∧ Hid (upB l k = true)) (fun i => l.length - (intOf i).toNat)
  case atStart => exact ⟨0, Nat.zero_le _, rfl, Lib.hid rfl⟩
  case round =>
    obtain ⟨k, hk, rfl, HU⟩ := hrel
    by_cases hlt : k < l.length
    · have hRl : k < (l.map encH).length := by rw [List.length_map]; exact hlt
      obtain ⟨b, o, rfl, hb, hc⟩ := HR.out.at_ hRl
      rw [List.getElem_map] at hc
      have hwf := HWf.out l[k] (List.getElem_mem hlt)
      have hgd := getD_at hlt
      obtain ⟨u, hu⟩ : ∃ u, l[k] = u := ⟨_, rfl⟩
      rw [hu] at hc hwf hgd
      simp only [encH] at hc
      obtain ⟨u0, u1⟩ := hwf
      have HS := Lib.hid (upB_step (l := l) (k := k) hgd)
      clear hu hgd
      have hD := fun W => DRight_any u W
      cases hd : dayB u
      · rw [hd] at hD
        have HE := Lib.hid (show upB l l.length = false from upB_end (show k + 1 ≤ l.length from hlt) (by rw [HS.out, hd]; simp))
        clear hd
        go_wp2_with (go_at_call 69; refine (hD _).mono ?_; rintro e w' ⟨rfl, rfl⟩)
        go_ret
        exact ⟨by rw [HE.out]; rfl, rfl⟩
      · rw [hd] at hD HS
        clear hd
        by_cases hk0 : k = 0
        · subst hk0
          rw [Nat.add_zero] at hc
          have HE := Lib.hid (show upB l (0 + 1) = true by rw [HS.out, HU.out]; rfl)
          go_wp2_with (go_at_call 69; refine (hD _).mono ?_; rintro e w' ⟨rfl, rfl⟩)
          go_round
          case rel => exact ⟨1, by omega, by go_num, Lib.hid HE.out⟩
          case measure => simp [intOf]; omega
        · have hk1 : k - 1 < l.length := by omega
          have hRl1 : k - 1 < (l.map encH).length := by rw [List.length_map]; exact hk1
          obtain ⟨b', o', he, hb', hc1⟩ := HR.out.at_ hRl1
          injection he with he
          injection he with e1 e2 e3
          subst e1
          subst e2
          rw [List.getElem_map] at hc1
          have hgd1 := getD_at hk1
          obtain ⟨p, hp⟩ : ∃ p, l[k - 1] = p := ⟨_, rfl⟩
          rw [hp] at hc1 hgd1
          simp only [encH] at hc1
          rw [hgd1] at HS
          have hk2 : (0 : Int) < (k : Int) := by omega
          have hj : ((k : Int) - 1).toNat = k - 1 := by omega
          clear hp hgd1 hRl1 hRl
          by_cases hlp : u ≤ p
          · have HE := Lib.hid (show upB l l.length = false from upB_end (show k + 1 ≤ l.length from hlt) (by rw [HS.out, HU.out, decide_eq_false (by omega : ¬ p < u)]; simp [hk0]))
            go_wp2_with (go_at_call 69; refine (hD _).mono ?_; rintro e w' ⟨rfl, rfl⟩)
            go_ret
            exact ⟨by rw [HE.out]; rfl, rfl⟩
          · have HE := Lib.hid (show upB l (k + 1) = true by rw [HS.out, HU.out, decide_eq_true (by omega : p < u)]; simp)
            go_wp2_with (go_at_call 69; refine (hD _).mono ?_; rintro e w' ⟨rfl, rfl⟩)
            go_round
            case rel => exact ⟨k + 1, by omega, by go_num, HE⟩
            case measure => simp [intOf]; omega
    · obtain rfl : k = l.length := by omega
      go_wp2_with fail
      go_ret
      exact ⟨by rw [HU.out]; rfl, rfl⟩
end Go.Proofs.YtjcnglkjjhnpbaaGreatDoor
namespace Go.Proofs.YtjcnglkjjhnpbaaGreatDoor

theorem num_lt {y m d y' m' d' : Int} (h : rightB y m d = true) (h' : rightB y' m' d' = true) (hl : y < y' ∨ y = y' ∧ (m < m' ∨ m = m' ∧ d < d')) : num y m d < num y' m' d' := by
  obtain ⟨a, b, c, e, f, g⟩ := right_in h
  obtain ⟨a', b', c', e', f', g'⟩ := right_in h'
  obtain ⟨i1, i2, i3, i4, i5, i6⟩ := num_in h
  obtain ⟨j1, j2, j3, j4, j5, j6⟩ := num_in h'
  rcases hl with hl | ⟨rfl, hl | ⟨rfl, hl⟩⟩
  · have := dby_mono (y + 1) y' (by omega)
    have := dby_succ y a b
    omega
  · have := cum_mono y (m + 1) m' a b (by omega) (by omega) (by omega)
    omega
  · unfold num
    omega
/-- Of two days the later one has the later date. -/
theorem civ_lt {n k : Int} (h0 : 0 ≤ n) (h1 : n ≤ 3652058) (k0 : 0 ≤ k) (k1 : k ≤ 3652058) : n < k ↔ (cY n < cY k ∨ cY n = cY k ∧ (cM n < cM k ∨ cM n = cM k ∧ cD n < cD k)) := by
  obtain ⟨r, e⟩ := civ_right n h0 h1
  obtain ⟨r', e'⟩ := civ_right k k0 k1
  constructor
  · intro h
    rcases Int.lt_trichotomy (cY n) (cY k) with hy | hy | hy
    · exact Or.inl hy
    · refine Or.inr ⟨hy, ?_⟩
      rcases Int.lt_trichotomy (cM n) (cM k) with hm | hm | hm
      · exact Or.inl hm
      · refine Or.inr ⟨hm, ?_⟩
        rcases Int.lt_trichotomy (cD n) (cD k) with hd | hd | hd
        · exact hd
        · exfalso
          have : num (cY n) (cM n) (cD n) = num (cY k) (cM k) (cD k) := by rw [hy, hm, hd]
          omega
        · exfalso
          have := num_lt r' r (Or.inr ⟨hy.symm, Or.inr ⟨hm.symm, hd⟩⟩)
          omega
      · exfalso
        have := num_lt r' r (Or.inr ⟨hy.symm, Or.inl hm⟩)
        omega
    · exfalso
      have := num_lt r' r (Or.inl hy)
      omega
  · intro h
    have := num_lt r r' h
    omega

/-- Months of thirty days. -/
def thirty (n k : Int) : Int := 360 * (cY k - cY n) + 30 * (cM k - cM n) + (if min (cD n) 30 = 30 then min (cD k) 30 else cD k) - min (cD n) 30
theorem thirty_bd {n k : Int} (h0 : 0 ≤ n) (k1 : k ≤ 3652058) (h : n ≤ k) : 0 ≤ thirty n k ∧ thirty n k ≤ 4000000 := by
  have a := civ_in n h0 (by omega)
  have b := civ_in k (by omega) k1
  have c : n = k ∨ (cY n < cY k ∨ cY n = cY k ∧ (cM n < cM k ∨ cM n = cM k ∧ cD n < cD k)) := by
    rcases Int.lt_or_eq_of_le h with h | h
    · exact Or.inr ((civ_lt h0 (by omega) (by omega) k1).1 h)
    · exact Or.inl h
  unfold thirty
  rcases c with rfl | c
  · split <;> omega
  · split <;> omega
/-- All days up to one, by months of thirty. -/
def acc (n : Int) : Int := 360 * cY n + 30 * cM n + cD n
theorem acc_next (n : Int) (h0 : 0 ≤ n) (h1 : n < 3652058) : acc (n + 1) - acc n = if cD n < mlen (cY n) (cM n) then 1 else 31 - mlen (cY n) (cM n) := by
  unfold acc
  rcases civ_next n h0 h1 with ⟨h, e1, e2, e3⟩ | ⟨h, h2, e1, e2, e3⟩ | ⟨h, h2, h3, e1, e2, e3⟩
  · rw [if_pos h, e1, e2, e3]; omega
  · rw [if_neg (by omega), e1, e2, e3]; omega
  · rw [if_neg (by omega), e1, e2, e3]; omega
theorem acc_step (n : Int) (h0 : 0 ≤ n) (h1 : n < 3652058) : 0 ≤ acc (n + 1) - acc n ∧ acc (n + 1) - acc n ≤ 3 := by
  rw [acc_next n h0 h1]
  obtain ⟨a, b, c, d, -, -, -⟩ := civ_in n h0 (by omega)
  have := mlen_lo _ _ a b c d
  have := mlen_bd (cY n) (cM n)
  split <;> omega
/-- From a month's first day. -/
theorem thirty_first {f k : Int} (hf : cD f = 1) : thirty f k = acc k - acc f := by
  unfold thirty acc
  rw [hf, if_neg (by decide), show min (1 : Int) 30 = 1 by decide]
  omega
/-- The month's first day. -/
theorem first_of (n : Int) (h0 : 0 ≤ n) (h1 : n ≤ 3652058) : 0 ≤ n - (cD n - 1) ∧ n - (cD n - 1) ≤ n ∧ cY (n - (cD n - 1)) = cY n ∧ cM (n - (cD n - 1)) = cM n ∧ cD (n - (cD n - 1)) = 1 := by
  obtain ⟨r, e⟩ := civ_right n h0 h1
  obtain ⟨a, b, c, d, f, g⟩ := right_in r
  have r' : rightB (cY n) (cM n) 1 = true := (right_iff _ _ _).2 (by omega)
  have e' : num (cY n) (cM n) 1 = n - (cD n - 1) := by unfold num at *; omega
  have := civ_unique r'
  rw [e'] at this
  have i := num_in r'
  rw [e'] at i
  exact ⟨by omega, by omega, this⟩
/-- What a day adds, by the basis. -/
def accB (b n : Int) : Int := if b = 1 then n else acc n
theorem accB_step (b n : Int) (h0 : 0 ≤ n) (h1 : n < 3652058) : 0 ≤ accB b (n + 1) - accB b n ∧ accB b (n + 1) - accB b n ≤ 3 := by
  unfold accB
  split
  · omega
  · exact acc_step n h0 h1
theorem acc_bd (n : Int) (h0 : 0 ≤ n) (h1 : n ≤ 3652058) : 0 ≤ acc n ∧ acc n ≤ 4000000 := by
  have := civ_in n h0 h1
  unfold acc
  omega
theorem accB_bd (b n : Int) (h0 : 0 ≤ n) (h1 : n ≤ 3652058) : 0 ≤ accB b n ∧ accB b n ≤ 4000000 := by
  unfold accB
  split
  · omega
  · exact acc_bd n h0 h1
theorem day_of {y m d : Int} (h : rightB y m d = true) : 0 ≤ num y m d ∧ num y m d ≤ 3652058 ∧ cY (num y m d) = y ∧ cM (num y m d) = m ∧ cD (num y m d) = d :=
  ⟨(num_in h).2.2.2.2.1, (num_in h).2.2.2.2.2, civ_unique h⟩
end Go.Proofs.YtjcnglkjjhnpbaaGreatDoor
namespace Go.Proofs.YtjcnglkjjhnpbaaGreatDoor

/-- The month that lies k on from a day's own. -/
def pT (n k : Int) : Int := mon (cY n) (cM n) k
/-- The day in it: of a last one the last one, else the same one, or the last one. -/
def pD (n k : Int) : Int := if cD n = mlen (cY n) (cM n) then mlen (mY (pT n k)) (mM (pT n k)) else mD (pT n k) (cD n)
def plainD (n k : Int) : Int := num (mY (pT n k)) (mM (pT n k)) (pD n k)
theorem pT_lo {n k : Int} (h0 : 0 ≤ n) (h1 : n ≤ 3652058) (hk : 0 ≤ k) : 0 ≤ pT n k := by
  have := civ_in n h0 h1
  unfold pT mon
  omega
theorem pT_hi {n k : Int} (h0 : 0 ≤ n) (h1 : n ≤ 3652058) (hk : k ≤ 480) : pT n k ≤ 121000 := by
  have := civ_in n h0 h1
  unfold pT mon
  omega
theorem pT_add (n k j : Int) : pT n (k + j) = pT n k + j := by unfold pT mon; omega
theorem mlen_mon {t : Int} (h0 : 0 ≤ t) (h1 : t < 119988) : 28 ≤ mlen (mY t) (mM t) ∧ mlen (mY t) (mM t) ≤ 31 := by
  obtain ⟨a, b, c, d⟩ := mon_in h0 h1
  exact ⟨mlen_lo _ _ a b c d, (mlen_bd _ _).2⟩
theorem pD_right {n k : Int} (h0 : 0 ≤ n) (h1 : n ≤ 3652058) (hk : 0 ≤ k) (ht : pT n k < 119988) : rightB (mY (pT n k)) (mM (pT n k)) (pD n k) = true := by
  obtain ⟨_, _, _, _, d1, d2, _⟩ := civ_in n h0 h1
  have hl := mlen_mon (pT_lo h0 h1 hk) ht
  unfold pD
  split
  · exact (right_iff _ _ _).2 ⟨by omega, Int.le_refl _⟩
  · exact mon_right (pT_lo h0 h1 hk) ht d1
theorem plain_in {n k : Int} (h0 : 0 ≤ n) (h1 : n ≤ 3652058) (hk : 0 ≤ k) (ht : pT n k < 119988) : 0 ≤ plainD n k ∧ plainD n k ≤ 3652058 ∧ cY (plainD n k) = mY (pT n k) ∧ cM (plainD n k) = mM (pT n k) ∧ cD (plainD n k) = pD n k :=
  day_of (pD_right h0 h1 hk ht)
theorem plain_rise {n k j : Int} (h0 : 0 ≤ n) (h1 : n ≤ 3652058) (hk : 0 ≤ k) (hj : k < j) (ht : pT n j < 119988) : plainD n k < plainD n j := by
  have hlt : pT n k < pT n j := by unfold pT mon; omega
  refine num_lt (pD_right h0 h1 hk (by omega)) (pD_right h0 h1 (by omega) ht) ?_
  unfold mY mM
  omega
/-- Where a loan's days lie in their months. -/
theorem plain_last {n k : Int} (h : cD n = mlen (cY n) (cM n)) : pD n k = mlen (mY (pT n k)) (mM (pT n k)) := by unfold pD; rw [if_pos h]
theorem plain_mid {n k : Int} (h : ¬ cD n = mlen (cY n) (cM n)) : pD n k = min (cD n) (mlen (mY (pT n k)) (mM (pT n k))) := by unfold pD; rw [if_neg h]; rfl
end Go.Proofs.YtjcnglkjjhnpbaaGreatDoor
namespace Go.Proofs.YtjcnglkjjhnpbaaGreatDoor
open Go.RowKit

set_option maxRecDepth 20000 in
set_option maxHeartbeats 1000000 in
theorem Plain_arg (n k : Int) (h : n < 0 ∨ 3652058 < n ∨ k < 0 ∨ 480 < k) (w : World) :
    Calls Tryz.prog 73 #[.int .i32 n, .int .i64 k] w fun e w' => e = .returned (.tuple #[.int .i32 0, .iface 45 (.int .i64 1)]) ∧ Below w.heap.size w w' := by
  by_cases k0 : k < 0
  · clear h
    go_enter Tryz.func73, Tryz.ntmps73
    go_wp2_with fail
    go_ret2
    exact ⟨rfl, Below.refl _ _⟩
  by_cases k1 : 480 < k
  · clear h
    go_enter Tryz.func73, Tryz.ntmps73
    go_wp2_with fail
    go_ret2
    exact ⟨rfl, Below.refl _ _⟩
  have hn : n < 0 ∨ 3652058 < n := by omega
  have hN := fun W => DCivil_no n hn W
  clear h hn
  go_enter Tryz.func73, Tryz.ntmps73
  go_wp2_with fail
  refine (hN _).mono ?_
  rintro e w1 ⟨rfl, hb1⟩
  clear hN
  go_wp2_with fail
  go_ret2
  exact ⟨rfl, hb1.alloc hb1.size _⟩

set_option maxRecDepth 20000 in
set_option maxHeartbeats 1000000 in
theorem Plain_over (n k : Int) (h0 : 0 ≤ n) (h1 : n ≤ 3652058) (k0 : 0 ≤ k) (k1 : k ≤ 480) (ht : 119988 ≤ pT n k) (w : World) (hw : Lens w) :
    Calls Tryz.prog 73 #[.int .i32 n, .int .i64 k] w fun e w' => e = .returned (.tuple #[.int .i32 0, .iface 45 (.int .i64 12)]) ∧ Below w.heap.size w w' := by
  have hA := fun W (hW : Lens W) => DCivil_any n W h0 h1 hW
  have hB := fun W (hW : Lens W) => Months_over (cY n) (cM n) (cD n) k (civ_right n h0 h1).1 (.inr ht) W hW
  have n0 : ¬ k < 0 := by omega
  have n1 : ¬ 480 < k := by omega
  generalize cY n = Y at hA hB
  generalize cM n = M at hA hB
  generalize cD n = D at hA hB
  have HW := Lib.hid hw
  clear hw ht
  go_enter Tryz.func73, Tryz.ntmps73
  go_wp2_with fail
  refine (hA _ HW.out).mono ?_
  rintro e w1 ⟨rfl, hb1⟩
  have HB1 := Lib.hid (hb1.alloc hb1.size (.cells #[.int .i64 Y, .int .i64 M, .int .i64 D] 128))
  clear hb1 hA
  go_wp2_with fail
  refine (hB _ (HW.out.below HB1.out)).mono ?_
  rintro e w2 ⟨rfl, hb2⟩
  have HB2 := Lib.hid (HB1.out.trans (hb2.mono HB1.out.size))
  clear hb2 hB
  go_wp2_with fail
  go_ret2
  exact ⟨rfl, HB2.out.alloc HB2.out.size _⟩

set_option maxRecDepth 20000 in
set_option maxHeartbeats 2000000 in
theorem Plain_ok (n k : Int) (h0 : 0 ≤ n) (h1 : n ≤ 3652058) (k0 : 0 ≤ k) (k1 : k ≤ 480) (ht : pT n k < 119988) (w : World) (hw : Lens w) :
    Calls Tryz.prog 73 #[.int .i32 n, .int .i64 k] w fun e w' => e = .returned (.tuple #[.int .i32 (plainD n k), .nilIface]) ∧ Below w.heap.size w w' := by
  have hA := fun W (hW : Lens W) => DCivil_any n W h0 h1 hW
  have hcr := (civ_right n h0 h1).1
  have hB := fun W (hW : Lens W) => Months_ok (cY n) (cM n) (cD n) k hcr (pT_lo h0 h1 k0) ht W hW
  have hC := fun W (hW : Lens W) => CLast_any (cY n) (cM n) (cD n) W hW
  have hD := fun W (hW : Lens W) => CNum_yes _ _ _ (pD_right h0 h1 k0 ht) W hW
  obtain ⟨q1, q2, q3, q4⟩ := mon_in (pT_lo h0 h1 k0) ht
  have n0 : ¬ k < 0 := by omega
  have n1 : ¬ 480 < k := by omega
  have hE := fun W (hW : Lens W) => Length_any (mY (pT n k)) (mM (pT n k)) W hW
  have hP : plainD n k = num (mY (pT n k)) (mM (pT n k)) (pD n k) := rfl
  rw [← hP] at hD
  have hl : lastB (cY n) (cM n) (cD n) = decide (cD n = mlen (cY n) (cM n)) := by
    unfold lastB
    rw [hcr, Bool.true_and]
    rfl
  have hm : mD (mon (cY n) (cM n) k) (cD n) = mD (pT n k) (cD n) := rfl
  have hm1 : mY (mon (cY n) (cM n) k) = mY (pT n k) := rfl
  have hm2 : mM (mon (cY n) (cM n) k) = mM (pT n k) := rfl
  rw [hl] at hC
  rw [hm, hm1, hm2] at hB
  clear hm hm1 hm2 hl hP hcr
  have hx : cD n = mlen (cY n) (cM n) → pD n k = mlen (mY (pT n k)) (mM (pT n k)) := plain_last
  have hy : ¬ cD n = mlen (cY n) (cM n) → pD n k = mD (pT n k) (cD n) := plain_mid
  generalize plainD n k = N at hD ⊢
  generalize mD (pT n k) (cD n) = D1 at hB hy
  generalize mlen (mY (pT n k)) (mM (pT n k)) = L1 at hE hx
  generalize mY (pT n k) = Y1 at *
  generalize mM (pT n k) = M1 at *
  generalize pD n k = D2 at *
  generalize mlen (cY n) (cM n) = L at *
  generalize cY n = Y at hA hB hC
  generalize cM n = M at hA hB hC
  generalize cD n = D at *
  have HW := Lib.hid hw
  clear hw ht
  by_cases hl : D = L
  · obtain rfl := hx hl
    rw [decide_eq_true hl] at hC
    clear hx hy hl
    go_enter Tryz.func73, Tryz.ntmps73
    go_wp2_with fail
    refine (hA _ HW.out).mono ?_
    rintro e w1 ⟨rfl, hb1⟩
    have hk1 := Blk.new w1 128 #[.int .i64 Y, .int .i64 M, .int .i64 D]
    have HB1 := Lib.hid (hb1.alloc hb1.size (.cells #[.int .i64 Y, .int .i64 M, .int .i64 D] 128))
    clear hb1 hA
    go_wp2_with fail
    refine (hB _ (HW.out.below HB1.out)).mono ?_
    rintro e w2 ⟨rfl, hb2⟩
    have HB2 := Lib.hid (HB1.out.trans (hb2.mono HB1.out.size))
    have hk2 := (hk1.below hb2 hk1.lt).alloc (.cells #[.int .i64 Y1, .int .i64 M1, .int .i64 D1] 128)
    have HB3 := Lib.hid (HB2.out.alloc HB2.out.size (.cells #[.int .i64 Y1, .int .i64 M1, .int .i64 D1] 128))
    have hj := Blk.new w2 128 #[.int .i64 Y1, .int .i64 M1, .int .i64 D1]
    have c0 := hk2.cell 0
    have c1 := hk2.cell 1
    have c2 := hk2.cell 2
    have z := hk2.lt
    simp at c0 c1 c2
    clear hb2 hB hk1 hk2
    go_wp2_with fail
    refine (hC _ (HW.out.below HB3.out)).mono ?_
    rintro e w3 ⟨rfl, hb3⟩
    have HB4 := Lib.hid (HB3.out.trans (hb3.mono HB3.out.size))
    have hj3 := hj.below hb3 hj.lt
    have g0 := hj3.cell 0
    have g1 := hj3.cell 1
    have g2 := hj3.cell 2
    have f2 := hj3.frozen 2
    simp at g0 g1 g2
    have HJ := Lib.hid hj3
    clear hb3 hC c0 c1 c2 hj hj3
    go_wp2_with fail
    refine (hE _ (HW.out.below HB4.out)).mono ?_
    rintro e w4 ⟨rfl, rfl⟩
    have hj5 := HJ.out.set_ 2 (.int .i64 D2)
    have HB5 := Lib.hid (HB4.out.setCell (p := ⟨w2.heap.size, 2, none⟩) HB2.out.size (.int .i64 D2))
    obtain ⟨w5, hw5⟩ : ∃ W, w3.setCell ⟨w2.heap.size, 2, none⟩ (.int .i64 D2) = W := ⟨_, rfl⟩
    rw [hw5] at hj5 HB5
    have HW5 := Lib.hid hw5
    have k0 := hj5.cell 0
    have k1 := hj5.cell 1
    have k2 := hj5.cell 2
    simp at k0 k1 k2
    clear hw5 hj5 hE
    go_wp2_with fail
    rw [HW5.out]
    go_wp2_with fail
    refine (hD _ (HW.out.below HB5.out)).mono ?_
    rintro e w4 ⟨rfl, hb4⟩
    go_wp2_with fail
    go_ret2
    exact ⟨rfl, HB5.out.trans (hb4.mono HB5.out.size)⟩
  · have e := hy hl
    subst e
    rw [decide_eq_false hl] at hC
    clear hx hy hl
    go_enter Tryz.func73, Tryz.ntmps73
    go_wp2_with fail
    refine (hA _ HW.out).mono ?_
    rintro e w1 ⟨rfl, hb1⟩
    have hk1 := Blk.new w1 128 #[.int .i64 Y, .int .i64 M, .int .i64 D]
    have HB1 := Lib.hid (hb1.alloc hb1.size (.cells #[.int .i64 Y, .int .i64 M, .int .i64 D] 128))
    clear hb1 hA
    go_wp2_with fail
    refine (hB _ (HW.out.below HB1.out)).mono ?_
    rintro e w2 ⟨rfl, hb2⟩
    have HB2 := Lib.hid (HB1.out.trans (hb2.mono HB1.out.size))
    have hk2 := (hk1.below hb2 hk1.lt).alloc (.cells #[.int .i64 Y1, .int .i64 M1, .int .i64 D2] 128)
    have HB3 := Lib.hid (HB2.out.alloc HB2.out.size (.cells #[.int .i64 Y1, .int .i64 M1, .int .i64 D2] 128))
    have hj := Blk.new w2 128 #[.int .i64 Y1, .int .i64 M1, .int .i64 D2]
    have c0 := hk2.cell 0
    have c1 := hk2.cell 1
    have c2 := hk2.cell 2
    have z := hk2.lt
    simp at c0 c1 c2
    clear hb2 hB hk1 hk2
    go_wp2_with fail
    refine (hC _ (HW.out.below HB3.out)).mono ?_
    rintro e w3 ⟨rfl, hb3⟩
    have HB4 := Lib.hid (HB3.out.trans (hb3.mono HB3.out.size))
    have hj3 := hj.below hb3 hj.lt
    have g0 := hj3.cell 0
    have g1 := hj3.cell 1
    have g2 := hj3.cell 2
    simp at g0 g1 g2
    clear hb3 hC c0 c1 c2 hj hj3
    go_wp2_with fail
    refine (hD _ (HW.out.below HB4.out)).mono ?_
    rintro e w4 ⟨rfl, hb4⟩
    go_wp2_with fail
    go_ret2
    exact ⟨rfl, HB4.out.trans (hb4.mono HB4.out.size)⟩
end Go.Proofs.YtjcnglkjjhnpbaaGreatDoor
namespace Go.Proofs.YtjcnglkjjhnpbaaGreatDoor
open Go.RowKit

theorem text0228 : dayText 738578 = ⟨#[50, 48, 50, 51, 45, 48, 50, 45, 50, 56]⟩ := by kernel_rfl
theorem text0331 : dayText 738609 = ⟨#[50, 48, 50, 51, 45, 48, 51, 45, 51, 49]⟩ := by kernel_rfl
theorem plain0331 : plainD 738578 1 = 738609 := by kernel_rfl
theorem pT0331 : pT 738578 1 = 24266 := by kernel_rfl

end Go.Proofs.YtjcnglkjjhnpbaaGreatDoor
namespace Go.Proofs.YtjcnglkjjhnpbaaGreatDoor
open Go.RowKit

set_option maxRecDepth 20000 in
theorem NextN9 (A : Option Addr) (n c : Nat) (d : Int) (w : World) (hd : d < 0 ∨ 3652058 < d) :
    Calls Tryz.prog 74 #[.slice A n c, .int .i32 d] w fun e w' => e = .returned (.tuple #[.int .i32 0, .iface 45 (.int .i64 1)]) ∧ w' = w := by
  have hD := DRight_any d w
  rw [day_no hd] at hD
  go_enter Tryz.func74, Tryz.ntmps74
  go_wp2_with fail
  refine hD.mono ?_
  rintro e w' ⟨rfl, rfl⟩
  go_wp2_with fail
  go_ret2
  exact ⟨rfl, rfl⟩
theorem rv_later {w w' : World} {A : Option Addr} {l : List Value} (h : Rv w w.heap.size A l) (hb : Below w.heap.size w w') : Rv w' w'.heap.size A l := (h.below hb).more hb.size
end Go.Proofs.YtjcnglkjjhnpbaaGreatDoor
namespace Go.Proofs.YtjcnglkjjhnpbaaGreatDoor
open Go.RowKit

theorem pT_zero (n : Int) (hM : 1 ≤ cM n ∧ cM n ≤ 12) : mY (pT n 0) = cY n ∧ mM (pT n 0) = cM n := by
  have := mon_uniq (t := pT n 0) (y := cY n) (m := cM n) hM.1 hM.2 (by unfold pT mon; omega)
  exact ⟨this.1.symm, this.2.symm⟩
theorem pT_one (n : Int) (j : Int) : 12 * (mY (pT n j) - 1) + mM (pT n j) = pT n (j + 1) := by
  have := mon_of (pT n j)
  rw [pT_add]
  omega
def RpPost (n k : Int) (w : World) (e : Ending) (w' : World) : Prop := (pT n k < 119988 → e = .returned (.tuple #[.int .i64 (plainD n k), .int .i64 0])) ∧ (¬ pT n k < 119988 → e = .returned (.tuple #[.int .i64 0, .int .i64 12])) ∧ Below w.heap.size w w'
set_option maxRecDepth 20000 in
set_option maxHeartbeats 4000000 in
theorem RPlain9 (n k : Int) (h0 : 0 ≤ n) (h1 : n ≤ 3652058) (k0 : 0 ≤ k) (k1 : k ≤ 480) (w : World) :
    Calls Tryz.prog 41 #[.int .i64 n, .int .i64 k] w (RpPost n k w) := by
  have hA := fun W => RCivil_any n W h0 h1
  have hcr := (civ_right n h0 h1).1
  have hr := right_in hcr
  have hM : 1 ≤ cM n ∧ cM n ≤ 12 := by omega
  have hz := pT_zero n hM
  have hS := fun j => pT_one n j
  have hlo := fun j (hj : 0 ≤ j) => pT_lo (k := j) h0 h1 hj
  have hhi := fun j (hj : j ≤ 480) => pT_hi (k := j) h0 h1 hj
  have HZ := Lib.hid hz
  have HS := Lib.hid hS
  have HLO := Lib.hid hlo
  have HHI := Lib.hid hhi
  have HCR := Lib.hid hcr
  have HA := Lib.hid hA
  clear hz hS hlo hhi hcr hr hM hA
  go_enter Tryz.func41, Tryz.ntmps41
  go_wp2_with fail
  refine (HA.out _).mono ?_
  rintro e w1 ⟨rfl, hb1⟩
  have HB1 := Lib.hid hb1
  clear hb1
  go_wp2_with fail
  obtain ⟨w2, hw2⟩ : ∃ W, W = w1.alloc (.cells #[.int .i64 (cY n), .int .i64 (cM n), .int .i64 (cD n)] 125) := ⟨_, rfl⟩
  have hq := Blk.new w1 125 #[.int .i64 (cY n), .int .i64 (cM n), .int .i64 (cD n)]
  have hb2 := HB1.out.alloc HB1.out.size (.cells #[.int .i64 (cY n), .int .i64 (cM n), .int .i64 (cD n)] 125)
  rw [← hw2] at hq hb2 ⊢
  have HQ := Lib.hid hq
  have HB2 := Lib.hid hb2
  have c0 := HQ.out.cell 0
  have c1 := HQ.out.cell 1
  have c2 := HQ.out.cell 2
  simp at c0 c1 c2
  clear hw2 hq hb2
  go_quiet (fail)
  obtain ⟨w3, hw3⟩ : ∃ W, W = w2.drewN nq := ⟨_, rfl⟩
  have hq3 := HQ.out.drewN nq
  have hb3 := below_drewN HB2.out nq
  rw [← hw3] at hq3 hb3 ⊢
  have HQ3 := Lib.hid hq3
  have HB3 := Lib.hid hb3
  clear hw3 hq3 hb3 c0 c1 c2 HQ HB2
  obtain ⟨g, hg⟩ : ∃ g, w1.heap.size = g := ⟨_, rfl⟩
  rw [hg] at HQ3 ⊢
  clear hg
  go_wp2_with fail
  rw [← HZ.out.1, ← HZ.out.2]
  go_loopw [7, 8, 9] (fun x y i w' => ∃ j : Int, x = .int .i64 (mY (pT n j)) ∧ y = .int .i64 (mM (pT n j)) ∧ i = .int .i64 j ∧ 0 ≤ j ∧ j ≤ k ∧ w' = w3) (fun _ _ i _ => (k - intOf i).toNat)
  case atStart => exact ⟨0, rfl, rfl, rfl, by omega, by omega, rfl⟩
  case round =>
    obtain ⟨j, rfl, rfl, rfl, hj1, hj2, rfl⟩ := hrel
    have hlj := HLO.out j hj1
    have hhj := HHI.out j (by omega)
    obtain ⟨Y, hY⟩ : ∃ Y, Y = mY (pT n j) := ⟨_, rfl⟩
    obtain ⟨M, hM⟩ : ∃ M, M = mM (pT n j) := ⟨_, rfl⟩
    have hYb : 1 ≤ Y ∧ Y ≤ 20000 := by rw [hY]; unfold mY; omega
    have hMb : 1 ≤ M ∧ M ≤ 12 := by rw [hM]; unfold mM; omega
    by_cases hjk : j < k
    · have hN := Next_fwd Y M (by omega) hMb.1 hMb.2 wr
      rw [show 12 * (Y - 1) + M = pT n (j + 1) by rw [hY, hM]; exact HS.out j] at hN
      rw [← hY, ← hM]
      have HNN := Lib.hid hN
      clear hN hY hM hlj hhj
      go_wp2_with fail
      refine HNN.out.mono ?_
      rintro e w' ⟨rfl, rfl⟩
      go_wp2_with fail
      go_roundw
      case rel => first | exact ⟨j + 1, rfl, rfl, rfl, by omega, by omega, rfl⟩ | exact ⟨j + 1, rfl, rfl, rfl, by omega, by omega, trivial⟩
      case measure => simp [intOf]; omega
    · have hjk2 : j = k := by omega
      subst hjk2
      by_cases ht : pT n j < 119988
      · have hYs : ¬ 9999 < Y := by rw [hY]; unfold mY; omega
        obtain ⟨L1, hL1⟩ : ∃ z, z = mlen (cY n) (cM n) := ⟨_, rfl⟩
        obtain ⟨L2, hL2⟩ : ∃ z, z = mlen Y M := ⟨_, rfl⟩
        have hml : 28 ≤ mlen (mY (pT n j)) (mM (pT n j)) ∧ mlen (mY (pT n j)) (mM (pT n j)) ≤ 31 := mlen_mon hlj ht
        rw [← hY, ← hM, ← hL2] at hml
        have hDb := right_in HCR.out
        have hlast : cD n = L1 → pD n j = L2 := fun h => by rw [hL1] at h; rw [plain_last h, hL2, hY, hM]
        have hmid : ¬ cD n = L1 → pD n j = min (cD n) L2 := fun h => by rw [hL1] at h; rw [plain_mid h, hL2, hY, hM]
        have hrt := pD_right h0 h1 (by omega : 0 ≤ j) ht
        have hpd : plainD n j = num Y M (pD n j) := by rw [hY, hM]; rfl
        rw [← hY, ← hM] at hrt
        have hA1 := fun W => RLength_any (cY n) (cM n) W
        rw [← hL1] at hA1
        have hA2 := fun W => RLength_any Y M W
        rw [← hL2] at hA2
        rw [← hY, ← hM]
        obtain ⟨D, hD⟩ : ∃ D, D = cD n := ⟨_, rfl⟩
        have HQ4 := HQ3
        rw [← hD] at hlast hmid hDb HQ4
        have HLA := Lib.hid hlast
        have HMI := Lib.hid hmid
        have HRT0 := Lib.hid hrt
        have HPD0 := Lib.hid hpd
        have HT := Lib.hid ht
        have HL2 := Lib.hid hL2
        have c0 := HQ4.out.cell 0
        have c1 := HQ4.out.cell 1
        have c2 := HQ4.out.cell 2
        simp at c0 c1 c2
        clear hlast hmid hrt hpd hY hM hlj hhj hL1 hL2 ht hD
        go_wp2_with fail
        have q0 := cell_regrown c0
        have q1 := cell_regrown c1
        have q2 := cell_regrown c2
        have A1 := fun (dd : Nat) (os : Array Obj) => Calls.regrown_of (hA1 (Go.Sort.grow (redrawn wr dd) os))
        have A2 := fun (dd : Nat) (os : Array Obj) => Calls.regrown_of (hA2 (Go.Sort.grow (redrawn wr dd) os))
        by_cases hDL : D = L1
        · have hDL1 : (L1 == D) = true := by simp [hDL]
          have hpD := HLA.out hDL
          have HRT := Lib.hid (show rightB Y M L2 = true by rw [← hpD]; exact HRT0.out)
          have HPD := Lib.hid (show plainD n j = num Y M L2 by rw [← hpD]; exact HPD0.out)
          clear hpD hDL
          refine wp_region_quiet_below (by kernel_rfl) (by kernel_rfl) ?_
          repeat (go_big_quiet_step (first | (go_at_call_of 83 (Value.int .i64 Y); exact A2 _ _) | (go_at_call 83; exact A1 _ _)))
          refine wpQuiet_nil ?_
          intro w6 hw6
          have hb6 : Below wr.heap.size wr w6 := by
            obtain ⟨p, rfl⟩ := hw6
            exact below_regrown _ _ _
          have HB6 := Lib.hid (HB3.out.trans (hb6.mono HB3.out.size))
          clear hw6 q0 q1 q2 A1 A2 hA1 hb6
          go_wp2_with fail
          refine (hA2 _).mono ?_
          rintro e w7 ⟨rfl, hb7⟩
          have HB8 := Lib.hid (HB6.out.trans (hb7.mono HB6.out.size))
          clear hb7 hA2
          go_wp2_with fail
          refine (RNum_any Y M L2 HRT.out _).mono ?_
          rintro e w9 ⟨rfl, hb9⟩
          have HB9 := Lib.hid (HB8.out.trans (hb9.mono HB8.out.size))
          clear hb9
          go_wp2_with fail
          go_ret2
          exact ⟨fun _ => by rw [HPD.out]; rfl, fun h => absurd HT.out h, HB9.out⟩
        · have hDL1 : (L1 == D) = false := by simp; exact fun h => hDL h.symm
          have hpD := HMI.out hDL
          by_cases hgt : L2 < D
          · rw [Int.min_eq_right (by omega)] at hpD
            have HRT := Lib.hid (show rightB Y M L2 = true by rw [← hpD]; exact HRT0.out)
            have HPD := Lib.hid (show plainD n j = num Y M L2 by rw [← hpD]; exact HPD0.out)
            clear hpD hDL
            refine wp_region_quiet_below (by kernel_rfl) (by kernel_rfl) ?_
            repeat (go_big_quiet_step (first | (go_at_call_of 83 (Value.int .i64 Y); exact A2 _ _) | (go_at_call 83; exact A1 _ _)))
            refine wpQuiet_nil ?_
            intro w6 hw6
            have hb6 : Below wr.heap.size wr w6 := by
              obtain ⟨p, rfl⟩ := hw6
              exact below_regrown _ _ _
            have HB6 := Lib.hid (HB3.out.trans (hb6.mono HB3.out.size))
            clear hw6 q0 q1 q2 A1 A2 hA1 hb6
            go_wp2_with fail
            refine (hA2 _).mono ?_
            rintro e w7 ⟨rfl, hb7⟩
            have HB8 := Lib.hid (HB6.out.trans (hb7.mono HB6.out.size))
            clear hb7 hA2
            go_wp2_with fail
            refine (RNum_any Y M L2 HRT.out _).mono ?_
            rintro e w9 ⟨rfl, hb9⟩
            have HB9 := Lib.hid (HB8.out.trans (hb9.mono HB8.out.size))
            clear hb9
            go_wp2_with fail
            go_ret2
            exact ⟨fun _ => by rw [HPD.out]; rfl, fun h => absurd HT.out h, HB9.out⟩
          · rw [Int.min_eq_left (by omega)] at hpD
            have HRT := Lib.hid (show rightB Y M D = true by rw [← hpD]; exact HRT0.out)
            have HPD := Lib.hid (show plainD n j = num Y M D by rw [← hpD]; exact HPD0.out)
            clear hpD hDL
            refine wp_region_quiet_below (by kernel_rfl) (by kernel_rfl) ?_
            repeat (go_big_quiet_step (first | (go_at_call_of 83 (Value.int .i64 Y); exact A2 _ _) | (go_at_call 83; exact A1 _ _)))
            refine wpQuiet_nil ?_
            intro w6 hw6
            have hb6 : Below wr.heap.size wr w6 := by
              obtain ⟨p, rfl⟩ := hw6
              exact below_regrown _ _ _
            have HB6 := Lib.hid (HB3.out.trans (hb6.mono HB3.out.size))
            clear hw6 q0 q1 q2 A1 A2 hA1 hb6
            have HB8 := HB6
            go_wp2_with fail
            refine (RNum_any Y M D HRT.out _).mono ?_
            rintro e w9 ⟨rfl, hb9⟩
            have HB9 := Lib.hid (HB8.out.trans (hb9.mono HB8.out.size))
            clear hb9
            go_wp2_with fail
            go_ret2
            exact ⟨fun _ => by rw [HPD.out]; rfl, fun h => absurd HT.out h, HB9.out⟩
      · have hYs : 9999 < Y := by rw [hY]; unfold mY; omega
        rw [← hY, ← hM]
        have HT := Lib.hid ht
        clear hY hM hlj hhj ht
        go_wp2_with fail
        go_ret2
        have ht2 : 119988 ≤ pT n j := by first | exact HT.out | (have := HT.out; omega)
        exact ⟨fun h => by omega, fun _ => rfl, HB3.out⟩
end Go.Proofs.YtjcnglkjjhnpbaaGreatDoor
namespace Go.Proofs.YtjcnglkjjhnpbaaGreatDoor
open Go.RowKit

set_option maxRecDepth 20000 in
theorem RolledErr (A : Option Addr) (m c : Nat) (n k E : Int) (hP : ∀ W, Lens W → Calls Tryz.prog 73 #[.int .i32 n, .int .i64 k] W fun e w' => e = .returned (.tuple #[.int .i32 0, .iface 45 (.int .i64 E)]) ∧ Below W.heap.size W w') (w : World) (hw : Lens w) :
    Calls Tryz.prog 31 #[.slice A m c, .int .i32 n, .int .i64 k] w fun e w' => e = .returned (.tuple #[.int .i32 0, .iface 45 (.int .i64 E)]) ∧ Below w.heap.size w w' := by
  have hC := hP w hw
  clear hP
  go_enter Tryz.func31, Tryz.ntmps31
  go_wp2_with fail
  refine hC.mono ?_
  rintro e w1 ⟨rfl, hb⟩
  have HB := Lib.hid hb
  clear hb hC
  go_wp2_with fail
  go_ret2
  exact ⟨rfl, HB.out⟩
set_option maxRecDepth 20000 in
theorem RolledOk (A : Option Addr) (m c : Nat) (l : List Int) (n k : Int) (h0 : 0 ≤ n) (h1 : n ≤ 3652058) (k0 : 0 ≤ k) (k1 : k ≤ 480) (ht : pT n k < 119988) (w : World) (hw : Lens w)
    (hR : Rv w w.heap.size A (l.map encH)) (hn : l.length = m) (hnc : m ≤ c) (hm : m ≤ 1000) (hl : ∀ v ∈ l, -2147483648 ≤ v ∧ v ≤ 2147483647) :
    Calls Tryz.prog 31 #[.slice A m c, .int .i32 n, .int .i64 k] w (NxPost l (plainD n k) w) := by
  have hC := Plain_ok n k h0 h1 k0 k1 ht w hw
  obtain ⟨p1, p2, -⟩ := plain_in h0 h1 k0 ht
  generalize plainD n k = N at *
  have HR := Lib.hid hR
  have HN := Lib.hid hn
  have HL := Lib.hid hl
  clear hR hn hl ht
  go_enter Tryz.func31, Tryz.ntmps31
  go_wp2_with fail
  refine hC.mono ?_
  rintro e w1 ⟨rfl, hb⟩
  have HB := Lib.hid hb
  have hN := Next9 A m c l N w1 (rv_later HR.out hb) HN.out hnc hm HL.out ⟨p1, p2⟩
  have HNX := Lib.hid hN
  clear hb hC hN
  go_wp2_with fail
  refine HNX.out.mono ?_
  rintro e w3 ⟨hy, hn0, hb3⟩
  have HB3 := Lib.hid (HB.out.trans (hb3.mono HB.out.size))
  clear HNX hb3 HB
  cases hx : nextD l N with
  | some y =>
    have hxy := hy y hx
    clear hy hn0
    subst hxy
    have HX := Lib.hid hx
    clear hx
    go_wp2_with fail
    go_ret2
    refine ⟨fun z h => ?_, fun h => ?_, HB3.out⟩
    · have h2 := HX.out.symm.trans h
      injection h2 with h2
      subst h2
      rfl
    · have h2 := HX.out.symm.trans h
      cases h2
  | none =>
    have hxy := hn0 hx
    clear hy hn0
    subst hxy
    have HX := Lib.hid hx
    clear hx
    go_wp2_with fail
    go_ret2
    refine ⟨fun z h => ?_, fun h => ?_, HB3.out⟩
    · have h2 := HX.out.symm.trans h
      cases h2
    · rfl
end Go.Proofs.YtjcnglkjjhnpbaaGreatDoor
namespace Go.Proofs.YtjcnglkjjhnpbaaGreatDoor
open Go.RowKit Go.ChangeShapes Go.WideShapes Go.ChangeAt

def pcell (f : Int × Int) (i : Nat) : Value := if i = 0 then .int .i32 f.1 else .int .i64 f.2
def pairA (F : Nat → Int × Int) (n : Nat) : Array Value := Array.ofFn (n := n * 2) (fun j => pcell (F (j.val / 2)) (j.val % 2))
theorem pairA_get (F : Nat → Int × Int) (n j : Nat) : (pairA F n)[j]? = if j < n * 2 then some (pcell (F (j / 2)) (j % 2)) else Option.none := by
  unfold pairA
  rw [Array.getElem?_ofFn]
  split <;> rfl
theorem pairA_at (F : Nat → Int × Int) {n k : Nat} (h : k < n) : (pairA F n)[k * 2]? = some (.int .i32 (F k).1) ∧ (pairA F n)[k * 2 + 1]? = some (.int .i64 (F k).2) := by
  refine ⟨?_, ?_⟩ <;> rw [pairA_get, if_pos (by omega)]
  · rw [show k * 2 / 2 = k by omega, show k * 2 % 2 = 0 by omega]; rfl
  · rw [show (k * 2 + 1) / 2 = k by omega, show (k * 2 + 1) % 2 = 1 by omega]; rfl
theorem pairA_set (F : Nat → Int × Int) {n k : Nat} (h : k < n) (x y : Int) :
    ((pairA F n).setIfInBounds (k * 2) (.int .i32 x)).setIfInBounds (k * 2 + 1) (.int .i64 y) = pairA (fun i => if i = k then (x, y) else F i) n := by
  apply Array.ext_getElem?
  intro j
  have hs : (pairA F n).size = n * 2 := by simp [pairA]
  simp only [Array.getElem?_setIfInBounds, Array.size_setIfInBounds, hs, pairA_get]
  by_cases h1 : k * 2 + 1 = j
  · subst h1
    rw [if_pos rfl, if_pos (by omega), if_pos (by omega), show (k * 2 + 1) / 2 = k by omega, show (k * 2 + 1) % 2 = 1 by omega, if_pos rfl]; rfl
  · rw [if_neg h1]
    by_cases h0 : k * 2 = j
    · subst h0
      rw [if_pos rfl, if_pos (by omega), if_pos (by omega), show (k * 2) / 2 = k by omega, show (k * 2) % 2 = 0 by omega, if_pos rfl]; rfl
    · rw [if_neg h0]
      by_cases hj : j < n * 2
      · rw [if_pos hj, if_pos hj, if_neg (by omega)]
      · rw [if_neg hj, if_neg hj]
theorem pairA_ext {F G : Nat → Int × Int} {n : Nat} (h : ∀ i, i < n → F i = G i) : pairA F n = pairA G n := by
  apply Array.ext_getElem?
  intro j
  rw [pairA_get, pairA_get]
  by_cases hj : j < n * 2
  · rw [if_pos hj, if_pos hj, h _ (by omega)]
  · rw [if_neg hj, if_neg hj]
def partP (F : Nat → Int × Int) (k i : Nat) : Int × Int := if i < k then F i else (0, 0)
theorem partP_next (F : Nat → Int × Int) (k n : Nat) {x y : Int} (h : F k = (x, y)) : pairA (fun i => if i = k then (x, y) else partP F k i) n = pairA (partP F (k + 1)) n := by
  apply pairA_ext
  intro i _
  unfold partP
  by_cases hi : i = k
  · subst hi
    rw [if_pos rfl, if_pos (by omega), h]
  · rw [if_neg hi]
    by_cases hk : i < k
    · rw [if_pos hk, if_pos (by omega)]
    · rw [if_neg hk, if_neg (by omega)]
theorem infoDue : (Tryz.prog.info? 50).map (fun i => (i.zero, i.size, i.bytes)) = some (some (.agg #[.int .i32 0, .int .i64 0]), 2, 16) := by kernel_rfl
theorem makeDues (n : Nat) (hn : n ≤ 480) (u : World) :
    (Instr.makeSlice 40 (.int .i64 (n : Int)) (.int .i64 (n : Int))).run Tryz.prog u = .ok (.slice (some ⟨u.heap.size, 0, none⟩) n n) (u.alloc (.cells (pairA (fun _ => (0, 0)) n) 50)) := by
  obtain ⟨i0, hi, hz0, hz1, hz2⟩ := info_parts infoDue
  have h := run_make (P := Tryz.prog) u 40 50 i0 (.agg #[.int .i32 0, .int .i64 0]) Tryz.underlying40 hi hz0 .i64 .i64 (n : Int) (n : Int) (by omega) (Int.le_refl _) (by rw [hz2]; omega) (by omega)
  rw [Int.toNat_natCast, hz1, show Value.cells (.agg #[.int .i32 0, .int .i64 0]) = #[.int .i32 0, .int .i64 0] from rfl] at h
  have e : madeCells #[.int .i32 0, .int .i64 0] (n * 2) = pairA (fun _ => (0, 0)) n := by
    apply Array.ext_getElem?
    intro j
    rw [pairA_get]
    by_cases hj : j < n * 2
    · rw [if_pos hj]
      rcases (show j % 2 = 0 ∨ j % 2 = 1 by omega) with e | e <;> simp [madeCells, hj, e, pcell]
    · rw [if_neg hj]
      simp [madeCells, hj]
  rw [e] at h
  exact h
theorem pays_bd {F : Nat → Int × Int × Int} {n : Nat} (h : ∀ k, k < n → -1200000000000 ≤ (F k).1 + (F k).2.1 ∧ (F k).1 + (F k).2.1 ≤ 1200000000000) : ∀ k, k ≤ n → -(1200000000000 * (k : Int)) ≤ paysTo F k ∧ paysTo F k ≤ 1200000000000 * (k : Int)
  | 0, _ => by simp [paysTo]
  | k + 1, hk => by
    have h1 := pays_bd h k (by omega)
    have h2 := h k (by omega)
    rw [paysTo]
    omega
theorem row_bd {p y P n : Nat} (hy : mi p P ≤ y) (hP : P ≤ 1000000000000) (hp : p ≤ 1000000) (k : Nat) : -1200000000000 ≤ (rowF p y P n k).1 + (rowF p y P n k).2.1 ∧ (rowF p y P n k).1 + (rowF p y P n k).2.1 ≤ 1200000000000 := by
  have h1 := mit_le hy k P (Nat.le_refl _)
  have h2 := mit_le hy (k + 1) P (Nat.le_refl _)
  have h3 := mi_bd (Nat.le_trans h1 hP) hp
  unfold rowF
  dsimp only
  split <;> omega
theorem below_set2k {w w' : World} {B g : Nat} (h : Below B w w') (hg : B ≤ g) (o : Nat) (x y : Value) :
    Below B w ((w'.setCell ⟨g, o, none⟩ x).setCell ⟨g, o + 1, none⟩ y) := (h.setCell hg _).setCell hg _
theorem cY_max : cY 3600000 ≤ 9900 := by decide +kernel
theorem pT_bd {n k : Int} (h0 : 0 ≤ n) (h1 : n ≤ 3600000) (hk : k ≤ 480) : pT n k < 119988 := by
  have h2 := civ_in n h0 (by omega)
  have h3 : cY n ≤ 9900 := by
    rcases Int.lt_or_le (cY 3600000) (cY n) with h | h
    · have := (civ_lt (n := 3600000) (k := n) (by omega) (by omega) h0 (by omega)).2 (.inl h)
      omega
    · have := cY_max
      omega
  unfold pT mon
  omega
def DuesPost (M : Nat) (D Sm : Nat → Int) (w : World) (e : Ending) (w' : World) : Prop :=
  ∃ g, e = .returned (.tuple #[.slice (some ⟨g, 0, none⟩) M M, .nilIface]) ∧ w.heap.size ≤ g ∧ Below w.heap.size w w' ∧ Blk w' g 50 (pairA (fun k => (D k, Sm k)) M)
set_option maxRecDepth 100000 in
set_option maxHeartbeats 4000000 in
theorem Dues_at {K P R B M y : Nat} {S F G : Int} (h : Trm.Right ⟨K, P, R, B, M, S, F, G⟩) (hy : mi R P ≤ y) (hyb : y ≤ 9223372036854775807)
    (hU : ∀ W, Calls Tryz.prog 70 #[.int .u8 (K : Int), .int .i64 (P : Int), rv R B, .int .i64 (M : Int)] W (Ret (.tuple #[.int .i64 (y : Int), .nilIface]) W))
    (A : Option Addr) (n c : Nat) (l : List Int) (D : Nat → Int) (hD : ∀ k, k < M → nextD l (plainD S ((k : Int) + 1)) = some (D k)) (w : World) (hw : Lens w)
    (hR : Rv w w.heap.size A (l.map encH)) (hn : l.length = n) (hnc : n ≤ c) (hm : n ≤ 200) (hl : ∀ v ∈ l, -2147483648 ≤ v ∧ v ≤ 2147483647) (hrt : rightL l = true) :
    Calls Tryz.prog 11 #[.agg #[.int .u8 (K : Int), .int .i64 (P : Int), .int .u32 (R : Int), .int .u8 (B : Int), .int .i64 (M : Int), .int .i32 S, .int .i64 F, .int .i64 G], .slice A n c] w (DuesPost M D (fun k => paysTo (rowF R y P M) (k + 1)) w) := by
  have hT := fun W => TRight_true h W
  obtain ⟨hK, hRB, hP, hM, hS, hF, hG⟩ := h
  dsimp only at hK hRB hP hM hS hF hG
  unfold Trm.v at hT
  dsimp only at hT
  have hRows := fun W => Rows_yes (kd := K) hRB (by omega : P ≤ 1000000000000) (by omega : 1 ≤ M) (by omega : M ≤ 480) hy hyb hU W
  have hb1 := row_bd (n := M) hy (by omega : P ≤ 1000000000000) hRB.1
  obtain ⟨FF, hFF⟩ : ∃ FF, rowF R y P M = FF := ⟨_, rfl⟩
  unfold RowsPost at hRows
  rw [hFF] at hRows hb1 ⊢
  have hb2 := pays_bd (n := M) (fun k _ => hb1 k)
  have hSums := fun g W hW => Sums_any (F := FF) (n := M) g (by omega) W hW (fun k hk => by
    have h1 := hb1 k
    have h2 := hb2 (k + 1) hk
    omega)
  unfold SumsPost at hSums
  obtain ⟨Q, hQ⟩ : ∃ Q : Nat → Int, (fun k => paysTo FF (k + 1)) = Q := ⟨_, rfl⟩
  rw [hQ] at hSums ⊢
  have hmk := fun W => makeDues M (by omega) W
  have hHR := fun W (hW : Rv W W.heap.size A (l.map encH)) => HRight_any A n c W.heap.size l W hW hn (by omega) hl
  rw [hrt] at hHR
  have hRo := fun (k : Nat) (hk : k < M) W (hW : Lens W) (hRW : Rv W W.heap.size A (l.map encH)) => RolledOk A n c l S ((k : Int) + 1) (by omega) (by omega) (by omega) (by omega) (pT_bd (by omega) (by omega) (by omega)) W hW hRW hn hnc (by omega) hl
  unfold rv at *
  have HM := Lib.hid hM
  have HR := Lib.hid hR
  have HW := Lib.hid hw
  have HD := Lib.hid hD
  have HRo := Lib.hid hRo
  have HQ0 := Lib.hid (Blk.new w 28 #[.int .u8 (K : Int), .int .i64 (P : Int), .int .u32 (R : Int), .int .u8 (B : Int), .int .i64 (M : Int), .int .i32 S, .int .i64 F, .int .i64 G])
  have HB0 := Lib.hid (b_alloc w (.cells #[.int .u8 (K : Int), .int .i64 (P : Int), .int .u32 (R : Int), .int .u8 (B : Int), .int .i64 (M : Int), .int .i32 S, .int .i64 F, .int .i64 G] 28))
  clear hRo hD hw hR hb1 hb2 hQ hFF hU hrt hl hn hnc hy hyb hK hRB hP hS hF hG hm
  go_enter Tryz.func11, Tryz.ntmps11
  have e1 := (blk8 HQ0.out)
  obtain ⟨c0, c1, c2, c3, c4, c5, c6, c7⟩ := e1
  go_wp2_with fail
  refine (hT _).mono ?_
  rintro e w1 ⟨rfl, hb⟩
  have HQ1 := Lib.hid (HQ0.out.below hb HQ0.out.lt)
  have HB1 := Lib.hid (HB0.out.trans (hb.mono HB0.out.size))
  clear hb c0 c1 c2 c3 c4 c5 c6 c7 HQ0 HB0 hT
  have cH := hHR w1 (rv_later HR.out HB1.out)
  clear hHR
  go_wp2_with fail
  refine cH.mono ?_
  rintro e w1 ⟨rfl, rfl⟩
  obtain ⟨c0, c1, c2, c3, c4, c5, c6, c7⟩ := blk8 HQ1.out
  clear cH
  go_wp2_with fail
  refine (hRows _).mono ?_
  rintro e w2 ⟨gR, rfl, hgR, hb, hkR⟩
  have HQ2 := Lib.hid (HQ1.out.below hb HQ1.out.lt)
  have HB2 := Lib.hid (HB1.out.trans (hb.mono HB1.out.size))
  have HG2 := Lib.hid hkR
  have HGR := Lib.hid hgR
  clear hb hkR hgR hRows c0 c1 c2 c3 c4 c5 c6 c7 HQ1 HB1
  obtain ⟨c0, c1, c2, c3, c4, c5, c6, c7⟩ := blk8 HQ2.out
  go_wp2_with fail
  have HP3 := Lib.hid (Blk.new w2 50 (pairA (fun _ => (0, 0)) M))
  have HQ3 := Lib.hid (HQ2.out.alloc (.cells (pairA (fun _ => (0, 0)) M) 50))
  have HG3 := Lib.hid (HG2.out.alloc (.cells (pairA (fun _ => (0, 0)) M) 50))
  have HB3 := Lib.hid (HB2.out.alloc HB2.out.size (.cells (pairA (fun _ => (0, 0)) M) 50))
  have cS := hSums gR _ HG3.out
  have HZ : Hid (w.heap.size < w2.heap.size) := Lib.hid HQ2.out.lt
  clear hSums c0 c1 c2 c3 c4 c5 c6 c7 hmk
  refine cS.mono ?_
  rintro e w4 ⟨gS, rfl, hgS, hb, hkS⟩
  have HP4 := Lib.hid (HP3.out.below hb HP3.out.lt)
  have HQ4 := Lib.hid (HQ3.out.below hb HQ3.out.lt)
  have HB4 := Lib.hid (HB3.out.trans (hb.mono HB3.out.size))
  have HS4 := Lib.hid hkS
  have HSD : Hid (w2.heap.size < gS) := Lib.hid (by simp at hgS; omega)
  clear hb hkS hgS cS HP3 HQ3 HB3 HG3 HG2 HQ2 HB2 HGR
  obtain ⟨gD, hgD⟩ : ∃ g, w2.heap.size = g := ⟨_, rfl⟩
  obtain ⟨b, hb⟩ : ∃ b, w.heap.size = b := ⟨_, rfl⟩
  rw [hgD] at HP4 HZ HSD
  rw [hb] at HQ4 HZ
  rw [hgD, hb]
  have HBE := Lib.hid hb
  clear hgD hb
  go_wp2_with fail
  go_loopw [43] (fun i wr => ∃ (k : Nat), k ≤ M ∧ i = .int .i64 k ∧ Hid (Blk wr gD 50 (pairA (partP (fun k => (D k, Q k)) k) M)) ∧ Hid (Blk wr gS 22 (oneA Q M)) ∧ Hid (Blk wr b 28 #[.int .u8 (K : Int), .int .i64 (P : Int), .int .u32 (R : Int), .int .u8 (B : Int), .int .i64 (M : Int), .int .i32 S, .int .i64 F, .int .i64 G]) ∧ Hid (Below w.heap.size w wr)) (fun i _ => M - (intOf i).toNat)
  case atStart => exact ⟨0, Nat.zero_le _, rfl, Lib.hid (by have := HP4.out; rwa [pairA_ext (G := partP (fun k => (D k, Q k)) 0) (fun i _ => by unfold partP; rw [if_neg (by omega)])] at this), HS4, HQ4, HB4⟩
  case round =>
    obtain ⟨k, hk, rfl, HPk, HSk, HQk, HBk⟩ := hrel
    by_cases hlt : k < M
    · have d0 := (HSk.out.cell k).trans (oneA_at Q hlt)
      obtain ⟨c0, c1, c2, c3, c4, c5, c6, c7⟩ := blk8 HQk.out
      have z0 := HQk.out.lt
      have hM480 : M ≤ 480 := by have := HM.out; omega
      have cR := HRo.out k hlt _ (HW.out.below HBk.out) (rv_later HR.out HBk.out)
      obtain ⟨X, hX⟩ : ∃ X, D k = X := ⟨_, rfl⟩
      obtain ⟨Y, hY⟩ : ∃ Y, Q k = Y := ⟨_, rfl⟩
      have hDk := HD.out k hlt
      rw [hX] at hDk
      rw [hY] at d0
      unfold NxPost at cR
      have HXY : Hid ((D k, Q k) = (X, Y)) := Lib.hid (by rw [hX, hY])
      have HDk := Lib.hid hDk
      clear hX hY hDk
      go_wp2_with fail
      refine cR.mono ?_
      rintro e w5 ⟨hy1, -, hb5⟩
      have hy2 := hy1 X HDk.out
      subst hy2
      have HP5 := Lib.hid (HPk.out.below hb5 HPk.out.lt)
      have HS5 := Lib.hid (HSk.out.below hb5 HSk.out.lt)
      have HQ5 := Lib.hid (HQk.out.below hb5 HQk.out.lt)
      have HB5 := Lib.hid (HBk.out.trans (hb5.mono HBk.out.size))
      clear hy1 hb5 cR d0 c0 c1 c2 c3 c4 c5 c6 c7 z0 HPk HSk HQk HBk
      obtain ⟨g0, g1⟩ := pairA_at (partP (fun k => (D k, Q k)) k) hlt
      have d0 := (HP5.out.cell (k * 2)).trans g0
      have d1 := (HP5.out.cell (k * 2 + 1)).trans g1
      have f0 := HP5.out.frozen (k * 2)
      have f1 := HP5.out.frozen (k * 2 + 1)
      clear g0 g1
      go_wp2_with fail
      go_roundw
      case rel =>
        have hset := pairA_set (partP (fun k => (D k, Q k)) k) hlt X Y
        rw [partP_next _ _ _ HXY.out] at hset
        refine ⟨k + 1, by omega, by go_num, Lib.hid ?_, Lib.hid ((HS5.out.far (by have := HSD.out; show gS ≠ gD; omega) _).far (by have := HSD.out; show gS ≠ gD; omega) _), Lib.hid ((HQ5.out.far (by have := HZ.out; show b ≠ gD; omega) _).far (by have := HZ.out; show b ≠ gD; omega) _), Lib.hid (below_set2k HB5.out (by have := HBE.out; have := HZ.out; omega) _ _ _)⟩
        have h3 := (HP5.out.set_ (k * 2) (.int .i32 X)).set_ (k * 2 + 1) (.int .i64 Y)
        rwa [hset] at h3
      case measure => simp [intOf]; omega
    · have hkn : k = M := by omega
      subst hkn
      go_wp2_with fail
      go_ret2
      refine ⟨gD, rfl, by have := HBE.out; have := HZ.out; omega, HBk.out, ?_⟩
      have h3 := HPk.out
      rwa [pairA_ext (G := fun k => (D k, Q k)) (fun i hi => by unfold partP; rw [if_pos hi])] at h3
end Go.Proofs.YtjcnglkjjhnpbaaGreatDoor
namespace Go.Proofs.YtjcnglkjjhnpbaaGreatDoor
open Go.RowKit

theorem filter_less {p q : Int → Bool} {l : List Int} (h : ∀ a, p a = true → q a = true) {x : Int} (hx : x ∈ l) (hq : q x = true) (hp : p x = false) : (l.filter p).length < (l.filter q).length := by
  have hle : ∀ m : List Int, (m.filter p).length ≤ (m.filter q).length := by
    intro m
    induction m with
    | nil => simp
    | cons a m ih =>
      by_cases hpa : p a = true
      · simp [hpa, h a hpa, ih]
      · by_cases hqa : q a = true
        · simp [hpa, hqa]; omega
        · simp [hpa, hqa, ih]
  induction l with
  | nil => cases hx
  | cons a m ih =>
    rcases List.mem_cons.1 hx with rfl | hm
    · have := hle m
      simp [hp, hq]
      omega
    · have := ih hm
      by_cases hpa : p a = true
      · simp [hpa, h a hpa, this]
      · by_cases hqa : q a = true
        · simp [hpa, hqa]; omega
        · simp [hpa, hqa, this]
theorem open_near (l : List Int) : ∀ (c : Nat) (x : Int), (l.filter (fun a => decide (x ≤ a))).length ≤ c → ∃ y, x ≤ y ∧ y ≤ x + 3 * c + 2 ∧ openL l y = true := by
  intro c
  induction c with
  | zero =>
    intro x h
    obtain ⟨y, h1, h2, h3⟩ : ∃ y, x ≤ y ∧ y ≤ x + 2 ∧ y % 7 < 5 := by
      by_cases a : x % 7 < 5
      · exact ⟨x, by omega, by omega, a⟩
      · exact ⟨if x % 7 = 5 then x + 2 else x + 1, by split <;> omega, by split <;> omega, by split <;> omega⟩
    refine ⟨y, h1, by omega, ?_⟩
    unfold openL
    rw [decide_eq_true h3, Bool.true_and, Bool.not_eq_true']
    rw [← Bool.not_eq_true, List.contains_iff_mem]
    intro hm
    have : y ∈ l.filter (fun a => decide (x ≤ a)) := List.mem_filter.2 ⟨hm, by simpa using h1⟩
    have := List.length_pos_of_mem this
    omega
  | succ c ih =>
    intro x h
    obtain ⟨y, h1, h2, h3⟩ : ∃ y, x ≤ y ∧ y ≤ x + 2 ∧ y % 7 < 5 := by
      by_cases a : x % 7 < 5
      · exact ⟨x, by omega, by omega, a⟩
      · exact ⟨if x % 7 = 5 then x + 2 else x + 1, by split <;> omega, by split <;> omega, by split <;> omega⟩
    by_cases hm : y ∈ l
    · have hlt := filter_less (p := fun a => decide (y + 1 ≤ a)) (q := fun a => decide (x ≤ a)) (l := l) (fun a ha => by simp at ha ⊢; omega) hm (by simpa using h1) (decide_eq_false (by omega))
      obtain ⟨z, z1, z2, z3⟩ := ih (y + 1) (by omega)
      exact ⟨z, by omega, by omega, z3⟩
    · refine ⟨y, h1, by omega, ?_⟩
      unfold openL
      rw [decide_eq_true h3, Bool.true_and, Bool.not_eq_true']
      rw [← Bool.not_eq_true, List.contains_iff_mem]
      exact hm
theorem nextD_some (l : List Int) : ∀ (f : Nat) (x y : Int), (y - x).toNat = f → x ≤ y → y ≤ 3652058 → openL l y = true → ∃ z, nextD l x = some z := by
  intro f
  induction f with
  | zero =>
    intro x y h1 h2 h3 h4
    obtain rfl : x = y := by omega
    exact ⟨x, nextD_yes h3 h4⟩
  | succ f ih =>
    intro x y h1 h2 h3 h4
    cases ho : openL l x with
    | true => exact ⟨x, nextD_yes (by omega) ho⟩
    | false =>
      rw [nextD_no (by omega) ho]
      exact ih (x + 1) y (by omega) (by omega) h3 h4
theorem cY_top : 9900 < cY 3630000 := by decide +kernel
theorem plain_top {n k : Int} (h0 : 0 ≤ n) (h1 : n ≤ 3600000) (k0 : 0 ≤ k) (k1 : k ≤ 480) : 0 ≤ plainD n k ∧ plainD n k ≤ 3630000 := by
  have ht := pT_bd h0 h1 k1
  obtain ⟨p1, p2, p3, -, -⟩ := plain_in h0 (by omega) k0 ht
  refine ⟨p1, ?_⟩
  rcases Int.lt_or_le 3630000 (plainD n k) with h | h
  · have h5 := (civ_lt (n := 3630000) (k := plainD n k) (by omega) (by omega) p1 p2).1 h
    have h6 := cY_top
    have h7 : pT n k < 118800 := by
      have h2 := civ_in n h0 (by omega)
      have h3 : cY n ≤ 9859 := by
        rcases Int.lt_or_le (cY 3600000) (cY n) with h | h
        · have := (civ_lt (n := 3600000) (k := n) (by omega) (by omega) h0 (by omega)).2 (.inl h)
          omega
        · have : cY 3600000 ≤ 9859 := by decide +kernel
          omega
      unfold pT mon
      omega
    have h8 : mY (pT n k) ≤ 9900 := by unfold mY; omega
    omega
  · exact h
/-- The day of month k. -/
def dueD (l : List Int) (S : Int) (k : Nat) : Int := (nextD l (plainD S ((k : Int) + 1))).getD 0
theorem dueD_is {l : List Int} {S : Int} {k : Nat} (h0 : 0 ≤ S) (h1 : S ≤ 3600000) (hk : k < 480) (hl : l.length ≤ 200) : nextD l (plainD S ((k : Int) + 1)) = some (dueD l S k) := by
  have hp := plain_top h0 h1 (k := (k : Int) + 1) (by omega) (by omega)
  obtain ⟨y, y1, y2, y3⟩ := open_near l 200 (plainD S ((k : Int) + 1)) (Nat.le_trans (List.length_filter_le _ _) hl)
  obtain ⟨z, hz⟩ := nextD_some l _ _ y rfl y1 (by omega) y3
  unfold dueD
  rw [hz]
  rfl
/-- The sum of month k: of the least payment, or of interest only. -/
def LstK (K R M P y : Nat) : Prop := (K = 1 → Lst R M P y) ∧ (K = 2 → y = mi R P)
theorem lstK_any {K R M P : Nat} (hM : 0 < M) : ∃ y, LstK K R M P y := by
  by_cases h : K = 2
  · exact ⟨mi R P, fun e => by omega, fun _ => rfl⟩
  · obtain ⟨y, hy⟩ := lst_any (p := R) (n := M) (P := P) hM
    exact ⟨y, fun _ => hy, fun e => absurd e h⟩
theorem Dues_any {K P R B M y : Nat} {S F G : Int} (h : Trm.Right ⟨K, P, R, B, M, S, F, G⟩) (hy : LstK K R M P y)
    (A : Option Addr) (n c : Nat) (l : List Int) (w : World) (hw : Lens w)
    (hR : Rv w w.heap.size A (l.map encH)) (hn : l.length = n) (hnc : n ≤ c) (hl : ∀ v ∈ l, -2147483648 ≤ v ∧ v ≤ 2147483647) (hrt : rightL l = true) :
    Calls Tryz.prog 11 #[Trm.v ⟨K, P, R, B, M, S, F, G⟩, .slice A n c] w (DuesPost M (dueD l S) (fun k => paysTo (rowF R y P M) (k + 1)) w) := by
  have h9 := h
  obtain ⟨hK, hRB, hP, hM, hS, hF, hG⟩ := h
  dsimp only at hK hRB hP hM hS hF hG
  have hl200 : l.length ≤ 200 := by
    unfold rightL at hrt
    simp only [Bool.and_eq_true, decide_eq_true_eq] at hrt
    exact hrt.1
  have hmi := mi_bd (p := R) (Q := P) (by omega) hRB.1
  have hyy : mi R P ≤ y ∧ y ≤ 9223372036854775807 := by
    rcases hK with e | e
    · have h1 := (hy.1 e).gt (by omega)
      have h2 := (hy.1 e).high (by omega)
      have h3 := prt_bd (n := M) (P := P) (by omega) (by omega)
      omega
    · have := hy.2 e
      omega
  refine Dues_at h9 hyy.1 hyy.2 (fun W => ?_) A n c l (dueD l S) (fun k hk => dueD_is hS.1 hS.2 (by omega) hl200) w hw hR hn hnc (by omega) hl hrt
  rcases hK with e | e
  · subst e
    exact Usual_level hRB (by omega) (by omega) (by omega) (by omega) (hy.1 rfl) W
  · subst e
    rw [hy.2 rfl]
    exact Usual_only hRB (by omega) (by omega) (by omega) (by omega) W
end Go.Proofs.YtjcnglkjjhnpbaaGreatDoor
