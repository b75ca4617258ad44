/-
level's arithmetic: months of a payment, the least one. No condition.
yield's Month. Conditions: the numbers' kinds.
level: a part, a month, what may be. Conditions: the numbers' kinds.
-/
import Derived.Test.YtpbfipeinblfgaaGreatDoorYldAQ9
namespace Go.Proofs.YtpbfipeinblfgaaGreatDoor
/-- A month's interest. -/
def monthN (X : Nat) : Nat := (X + 6000000) / 12000000
theorem month_half (X : Nat) : (X * 30 % 360000000 < 360000000 - X * 30 % 360000000 ↔ X % 12000000 < 6000000) ∧ (X % 12000000 < 6000000 → X * 30 / 360000000 = monthN X) ∧ (¬ X % 12000000 < 6000000 → X * 30 / 360000000 + 1 = monthN X) := by
  unfold monthN
  omega
theorem month_rest (X : Nat) : (X % 12000000 < 6000000 → X / 12000000 = monthN X) ∧ (¬ X % 12000000 < 6000000 → X / 12000000 + 1 = monthN X) := by
  unfold monthN
  omega
theorem month_bd (X : Nat) (h : X ≤ 1000000000000000000) : monthN X ≤ 100000000000 := by
  unfold monthN
  omega
/-- A month's interest on Q, at p millionths. -/
def mi (p Q : Nat) : Nat := monthN (Q * p)
theorem mi_mono {p Q R : Nat} (h : Q ≤ R) : mi p Q ≤ mi p R := by
  unfold mi monthN
  exact Nat.div_le_div_right (Nat.add_le_add_right (Nat.mul_le_mul_right _ h) _)
theorem mi_zero (p : Nat) : mi p 0 = 0 := by simp [mi, monthN]
/-- What a month of the payment y leaves of Q. -/
def mst (p y Q : Nat) : Nat := Q + mi p Q - y
theorem mst_mono {p y z Q R : Nat} (h : Q ≤ R) (hy : z ≤ y) : mst p y Q ≤ mst p z R := by
  unfold mst
  have := mi_mono (p := p) h
  omega
theorem mst_zero (p y : Nat) : mst p y 0 = 0 := by simp [mst, mi_zero]
/-- So many months. -/
def mit (p y : Nat) : Nat → Nat → Nat
  | 0, Q => Q
  | n + 1, Q => mit p y n (mst p y Q)
theorem mit_zero (p y : Nat) : ∀ n, mit p y n 0 = 0
  | 0 => rfl
  | n + 1 => by rw [mit, mst_zero]; exact mit_zero p y n
theorem mit_mono {p y z : Nat} (hy : z ≤ y) : ∀ (n : Nat) {Q R : Nat}, Q ≤ R → mit p y n Q ≤ mit p z n R
  | 0, _, _, h => h
  | n + 1, _, _, h => mit_mono hy n (mst_mono h hy)
theorem mit_succ (p y : Nat) : ∀ (n Q : Nat), mit p y (n + 1) Q = mst p y (mit p y n Q)
  | 0, _ => rfl
  | n + 1, Q => by rw [mit, mit_succ p y n]; rfl
theorem mit_stuck {p y Q : Nat} (h : Q ≤ mst p y Q) : ∀ n, Q ≤ mit p y n Q
  | 0 => Nat.le_refl _
  | n + 1 => by
    rw [mit_succ]
    exact Nat.le_trans h (mst_mono (mit_stuck h n) (Nat.le_refl _))
theorem mit_more {p y Q n : Nat} (h : mit p y n Q = 0) : ∀ k, mit p y (n + k) Q = 0
  | 0 => h
  | k + 1 => by rw [← Nat.add_assoc, mit_succ, mit_more h k, mst_zero]
/-- The months leave nothing. -/
def Clr (p n P y : Nat) : Prop := mit p y n P = 0
instance (p n P y : Nat) : Decidable (Clr p n P y) := inferInstanceAs (Decidable (_ = _))
theorem Clr.mono {p n m P Q y z : Nat} (h : Clr p m Q y) (hn : m ≤ n) (hP : P ≤ Q) (hy : y ≤ z) : Clr p n P z := by
  obtain ⟨k, rfl⟩ := Nat.le.dest hn
  have h1 := mit_more h k
  have h2 := mit_mono (p := p) hy (m + k) hP
  unfold Clr
  omega
theorem mit_low {p y : Nat} : ∀ (n Q : Nat), Q - n * y ≤ mit p y n Q
  | 0, Q => by simp [mit]
  | n + 1, Q => by
    have := mit_low (p := p) (y := y) n (mst p y Q)
    rw [mit, Nat.add_mul]
    unfold mst at this ⊢
    omega
theorem mit_high {p l P : Nat} : ∀ (n Q : Nat), Q ≤ P → mit p (l + mi p P) n Q ≤ Q - n * l
  | 0, Q, _ => by simp [mit]
  | n + 1, Q, h => by
    have hm := mi_mono (p := p) h
    have := mit_high (p := p) (l := l) (P := P) n (mst p (l + mi p P) Q) (by unfold mst; omega)
    rw [mit, Nat.add_mul]
    unfold mst at this ⊢
    omega
/-- An n-th part, rounded up. -/
def prt (P n : Nat) : Nat := (P + n - 1) / n
theorem prt_le {P n : Nat} (hn : 0 < n) : P ≤ n * prt P n := by
  unfold prt
  have h1 := Nat.div_add_mod (P + n - 1) n
  have h2 := Nat.mod_lt (P + n - 1) hn
  omega
theorem prt_lt {P n y : Nat} (hn : 0 < n) (_ : 0 < P) (h : y < prt P n) : n * y < P := by
  unfold prt at h
  have h1 : (y + 1) ≤ (P + n - 1) / n := h
  rw [Nat.le_div_iff_mul_le hn, Nat.add_mul, Nat.mul_comm y n] at h1
  omega
theorem prt_pos {P n : Nat} (hn : 0 < n) (hP : 0 < P) : 1 ≤ prt P n := by
  unfold prt
  rw [Nat.le_div_iff_mul_le hn]
  omega
theorem prt_bd {P n : Nat} (hn : 0 < n) (hP : 0 < P) : prt P n ≤ P := by
  unfold prt
  rw [Nat.div_le_iff_le_mul hn]
  have : P * 1 ≤ P * n := Nat.mul_le_mul_left _ hn
  have e : P * n = P * (n - 1) + P := by
    obtain ⟨k, rfl⟩ : ∃ k, n = k + 1 := ⟨n - 1, by omega⟩
    simp [Nat.mul_add]
  have : n - 1 ≤ P * (n - 1) := Nat.le_mul_of_pos_left _ hP
  omega
theorem clr_high {p P n : Nat} (hn : 0 < n) : Clr p n P (prt P n + mi p P) := by
  have h1 := mit_high (p := p) (l := prt P n) n P (Nat.le_refl _)
  have h2 := prt_le (P := P) hn
  unfold Clr
  omega
theorem clr_low {p P n y : Nat} (hn : 0 < n) (hP : 0 < P) (h : Clr p n P y) : prt P n ≤ y := by
  rcases Nat.lt_or_ge y (prt P n) with hlt | hge
  · have h1 := prt_lt hn hP hlt
    have h2 := mit_low (p := p) (y := y) n P
    unfold Clr at h
    omega
  · exact hge
/-- The least payment. -/
def Lst (p n P y : Nat) : Prop := Clr p n P y ∧ ∀ z, Clr p n P z → y ≤ z
theorem lst_any {p n P : Nat} (hn : 0 < n) : ∃ y, Lst p n P y := by
  have hh := clr_high (p := p) (P := P) hn
  generalize prt P n + mi p P = b at hh
  revert hh
  induction b with
  | zero => intro hh; exact ⟨0, hh, fun z _ => Nat.zero_le z⟩
  | succ b ih =>
    intro hh
    by_cases hb : Clr p n P b
    · exact ih hb
    · refine ⟨b + 1, hh, fun z hz => ?_⟩
      rcases Nat.lt_or_ge b z with h | h
      · exact h
      · exact absurd (hz.mono (Nat.le_refl _) (Nat.le_refl _) h) hb
theorem Lst.high {p n P y : Nat} (hn : 0 < n) (h : Lst p n P y) : y ≤ prt P n + mi p P := h.2 _ (clr_high hn)
theorem Lst.low {p n P y : Nat} (hn : 0 < n) (hP : 0 < P) (h : Lst p n P y) : prt P n ≤ y := clr_low hn hP h.1
theorem Lst.iff {p n P y z : Nat} (h : Lst p n P y) : Clr p n P z ↔ y ≤ z := ⟨fun hz => h.2 z hz, fun hz => h.1.mono (Nat.le_refl _) (Nat.le_refl _) hz⟩
theorem Lst.gt {p n P y : Nat} (hP : 0 < P) (h : Lst p n P y) : mi p P < y := by
  rcases Nat.lt_or_ge (mi p P) y with hlt | hge
  · exact hlt
  · have := mit_stuck (p := p) (y := y) (Q := P) (by unfold mst; omega) n
    have h1 := h.1
    unfold Clr at h1
    omega
/-- What the code asks, month by month. -/
def clB (p y : Nat) : Nat → Nat → Bool
  | 0, _ => false
  | n + 1, Q => if Q ≤ mst p y Q then false else if mst p y Q = 0 then true else clB p y n (mst p y Q)
theorem clB_iff {p y : Nat} : ∀ (n Q : Nat), 0 < Q → (clB p y n Q = true ↔ Clr p n Q y)
  | 0, Q, h => by simp [clB, Clr, mit]; omega
  | n + 1, Q, h => by
    unfold clB
    by_cases h1 : Q ≤ mst p y Q
    · rw [if_pos h1]
      have := mit_stuck h1 (n + 1)
      unfold Clr
      simp; omega
    · rw [if_neg h1]
      by_cases h2 : mst p y Q = 0
      · rw [if_pos h2]
        unfold Clr
        rw [mit, h2, mit_zero]; simp
      · rw [if_neg h2, clB_iff n _ (by omega)]
        unfold Clr
        rw [mit]
/-- What the document's reckoning leaves. -/
def rlN (p y : Nat) : Nat → Nat → Nat
  | 0, Q => Q
  | n + 1, Q => if Q = 0 then 0 else if Q + mi p Q ≤ y then 0 else if Q ≤ mst p y Q then Q else rlN p y n (mst p y Q)
theorem rlN_iff {p y : Nat} : ∀ (n Q : Nat), (rlN p y n Q = 0 ↔ Clr p n Q y)
  | 0, Q => by simp [rlN, Clr, mit]
  | n + 1, Q => by
    unfold rlN
    by_cases h0 : Q = 0
    · subst h0
      rw [if_pos rfl]
      unfold Clr
      rw [mit_zero]
    · rw [if_neg h0]
      by_cases h1 : Q + mi p Q ≤ y
      · rw [if_pos h1]
        unfold Clr
        rw [mit, show mst p y Q = 0 by unfold mst; omega, mit_zero]
      · rw [if_neg h1]
        by_cases h2 : Q ≤ mst p y Q
        · rw [if_pos h2]
          have := mit_stuck h2 (n + 1)
          unfold Clr
          omega
        · rw [if_neg h2, rlN_iff n]
          unfold Clr
          rw [mit]

theorem mi_bd {p Q : Nat} (hQ : Q ≤ 1000000000000) (hp : p ≤ 1000000) : mi p Q ≤ 100000000000 := month_bd _ (pp_le hQ hp)
theorem mst_le {p y Q P : Nat} (h : mi p P ≤ y) (hQ : Q ≤ P) : mst p y Q ≤ Q := by
  have := mi_mono (p := p) hQ
  unfold mst
  omega
theorem mit_le {p y P : Nat} (h : mi p P ≤ y) : ∀ (n Q : Nat), Q ≤ P → mit p y n Q ≤ Q
  | 0, _, _ => Nat.le_refl _
  | n + 1, Q, hQ => by
    have h1 := mst_le h hQ
    have h2 := mit_le h n (mst p y Q) (by omega)
    rw [mit]
    omega
theorem mit_only (p P : Nat) : ∀ n, mit p (mi p P) n P = P
  | 0 => rfl
  | n + 1 => by rw [mit, show mst p (mi p P) P = P by unfold mst; omega, mit_only p P n]
end Go.Proofs.YtpbfipeinblfgaaGreatDoor
namespace Go.Proofs.YtpbfipeinblfgaaGreatDoor
open Go.RowKit

set_option maxRecDepth 20000 in
set_option maxHeartbeats 4000000 in
theorem Month_yes {P p b : Nat} (hP : P ≤ 1000000000000) (hr : rateB p b) (w : World) :
    Calls Tryz.prog 141 #[rv p b, .int .i64 (P : Int)] w (Ret (.tuple #[.int .i64 ((monthN (P * p) : Nat) : Int), .nilIface]) w) := by
  have hT := fun W => takes_yes hr (P := (P : Int)) (by omega) (by omega) W
  have hX := pp_le hP hr.1
  obtain ⟨X, hXe⟩ : ∃ X, P * p = X := ⟨_, rfl⟩
  have hDl := fun W => daily_any b hP hr.1 hXe W
  rw [hXe] at hX ⊢
  have hU := fun W => unitOf_any (b := 2) (Or.inr rfl) W
  rw [show unitN 2 = 360000000 from rfl] at hU
  have hb := month_bd X hX
  obtain ⟨m1, m2, m3⟩ := month_half X
  have hRo : ∀ W, Calls Tryz.prog 180 #[.int .u64 (X : Int), .int .u64 30, .int .u64 360000000] W (Ret (.tuple #[.int .u64 ((monthN X : Nat) : Int), .nilIface]) W) := by
    intro W
    by_cases hl : X % 12000000 < 6000000
    · have := Round_down X 30 360000000 (by omega) (by omega) (by omega) (by omega) (by omega) (m1.2 hl) W
      rw [m2 hl] at this
      exact this
    · have := Round_up X 30 360000000 (by omega) (by omega) (by omega) (by omega) (by omega) (fun h => hl (m1.1 h)) W
      rw [m3 hl] at this
      exact this
  obtain ⟨m, hm⟩ : ∃ m, monthN X = m := ⟨_, rfl⟩
  rw [hm] at hRo hb ⊢
  have i1 : IntKind.i64.wrap (m : Int) = (m : Int) := by rw [IntKind.wrap_i64]; omega
  unfold rv at hT hDl ⊢
  clear hP hr hX hXe hb m1 m2 m3 hm
  go_enter Tryz.func141, Tryz.ntmps141
  have HQ0 := Lib.hid (Blk.new w 25 #[.int .u32 (p : Int), .int .u8 (b : Int)])
  have HB0 := Lib.hid (b_alloc w (.cells #[.int .u32 (p : Int), .int .u8 (b : Int)] 25))
  go_wp2_with fail
  refine (hT _).mono ?_
  rintro e w1 ⟨rfl, hb1⟩
  have HQ1_0 := Lib.hid (HQ0.out.below hb1 HQ0.out.lt)
  have HB1 := Lib.hid (HB0.out.trans (hb1.mono HB0.out.size))
  clear hb1
  have c1_0_0 := HQ1_0.out.cell 0
  have c1_0_1 := HQ1_0.out.cell 1
  have z1_0 := HQ1_0.out.lt
  simp at c1_0_0 c1_0_1
  go_wp2_with fail
  refine (hDl _).mono ?_
  rintro e w2 ⟨rfl, hb2⟩
  have HQ2_0 := Lib.hid (HQ1_0.out.below hb2 HQ1_0.out.lt)
  have HB2 := Lib.hid (HB1.out.trans (hb2.mono HB1.out.size))
  clear hb2 c1_0_0 c1_0_1 z1_0
  have c2_0_0 := HQ2_0.out.cell 0
  have c2_0_1 := HQ2_0.out.cell 1
  have z2_0 := HQ2_0.out.lt
  simp at c2_0_0 c2_0_1
  go_wp2_with fail
  refine (hU _).mono ?_
  rintro e w3 ⟨rfl, hb3⟩
  have HQ3_0 := Lib.hid (HQ2_0.out.below hb3 HQ2_0.out.lt)
  have HB3 := Lib.hid (HB2.out.trans (hb3.mono HB2.out.size))
  clear hb3 c2_0_0 c2_0_1 z2_0
  have c3_0_0 := HQ3_0.out.cell 0
  have c3_0_1 := HQ3_0.out.cell 1
  have z3_0 := HQ3_0.out.lt
  simp at c3_0_0 c3_0_1
  go_wp2_with fail
  refine (hRo _).mono ?_
  rintro e w4 ⟨rfl, hb4⟩
  have HQ4_0 := Lib.hid (HQ3_0.out.below hb4 HQ3_0.out.lt)
  have HB4 := Lib.hid (HB3.out.trans (hb4.mono HB3.out.size))
  clear hb4 c3_0_0 c3_0_1 z3_0
  have c4_0_0 := HQ4_0.out.cell 0
  have c4_0_1 := HQ4_0.out.cell 1
  have z4_0 := HQ4_0.out.lt
  simp at c4_0_0 c4_0_1
  go_wp2_with fail
  go_ret2
  exact ⟨rfl, HB4.out⟩
set_option maxRecDepth 20000 in
set_option maxHeartbeats 4000000 in
theorem Month_no {p b : Nat} {P : Int} (h : ¬ (rateB p b ∧ 0 ≤ P ∧ P ≤ 1000000000000)) (w : World) :
    Calls Tryz.prog 141 #[rv p b, .int .i64 P] w (Ret (.tuple #[.int .i64 0, eno 1]) w) := by
  have hT := fun W => takes_no h W
  unfold eno
  unfold rv at hT ⊢
  clear h
  go_enter Tryz.func141, Tryz.ntmps141
  have HQ0 := Lib.hid (Blk.new w 25 #[.int .u32 (p : Int), .int .u8 (b : Int)])
  have HB0 := Lib.hid (b_alloc w (.cells #[.int .u32 (p : Int), .int .u8 (b : Int)] 25))
  go_wp2_with fail
  refine (hT _).mono ?_
  rintro e w1 ⟨rfl, hb1⟩
  have HQ1_0 := Lib.hid (HQ0.out.below hb1 HQ0.out.lt)
  have HB1 := Lib.hid (HB0.out.trans (hb1.mono HB0.out.size))
  clear hb1
  have c1_0_0 := HQ1_0.out.cell 0
  have c1_0_1 := HQ1_0.out.cell 1
  have z1_0 := HQ1_0.out.lt
  simp at c1_0_0 c1_0_1
  go_wp2_with fail
  go_ret2
  exact ⟨rfl, HB1.out⟩
end Go.Proofs.YtpbfipeinblfgaaGreatDoor
namespace Go.Proofs.YtpbfipeinblfgaaGreatDoor
open Go.RowKit

set_option maxHeartbeats 1000000 in
theorem Least_any (a b : Int) (w : World) :
    Calls Tryz.prog 142 #[.int .i64 a, .int .i64 b] w fun e w' => e = .returned (.int .i64 (min a b)) ∧ w = w' := by
  by_cases h : a ≤ b
  · have hm : min a b = a := by omega
    rw [hm]
    go_enter Tryz.func142, Tryz.ntmps142
    go_wp2
    all_goals first
      | (go_ret; exact ⟨rfl, rfl⟩)
      | (exfalso; omega)
  · have hm : min a b = b := by omega
    rw [hm]
    go_enter Tryz.func142, Tryz.ntmps142
    go_wp2
    all_goals first
      | (go_ret; exact ⟨rfl, rfl⟩)
      | (exfalso; omega)
set_option maxRecDepth 20000 in
set_option maxHeartbeats 4000000 in
theorem part_any {P n : Nat} (hP : P ≤ 1000000000000) (hn0 : 0 < n) (hn : n ≤ 480) (w : World) :
    Calls Tryz.prog 177 #[.int .i64 (P : Int), .int .i64 (n : Int)] w (Ret (.int .i64 ((prt P n : Nat) : Int)) w) := by
  obtain ⟨s, hs⟩ : ∃ s, P + n - 1 = s := ⟨_, rfl⟩
  obtain ⟨q, hq⟩ : ∃ q, s / n = q := ⟨_, rfl⟩
  have hpe : prt P n = q := by unfold prt; rw [hs, hq]
  rw [hpe]
  have i1 : (P : Int) + (n : Int) - 1 = (s : Int) := by omega
  have i2 : (s : Int).tdiv (n : Int) = (q : Int) := by rw [← hq]; exact Int.ofNat_tdiv s n
  have hql : q ≤ s := by rw [← hq]; exact Nat.div_le_self _ _
  have hsl : s ≤ 1000000000480 := by omega
  have i3 : ¬ (n : Int) = 0 := by omega
  clear hs hq hpe
  go_enter Tryz.func177, Tryz.ntmps177
  go_wp2_with fail
  go_ret
  exact ⟨by first | rfl | simp, Below.refl _ _⟩
theorem set3L {w : World} {g : Nat} {T : TypeId} {a b c : Value} (h : Blk w g T #[a, b, c]) (x y z : Value) :
    Blk (((w.setCell ⟨g, 0, none⟩ x).setCell ⟨g, 1, none⟩ y).setCell ⟨g, 2, none⟩ z) g T #[x, y, z] := ((h.set_ 0 x).set_ 1 y).set_ 2 z
theorem below_set3 {w w' : World} {B g : Nat} (h : Below B w w') (hg : B ≤ g) (x y z : Value) : Below B w (((w'.setCell ⟨g, 0, none⟩ x).setCell ⟨g, 1, none⟩ y).setCell ⟨g, 2, none⟩ z) :=
  ((h.setCell hg _).setCell hg _).setCell hg _
/-- A month. -/
def rowV (i o l : Int) : Value := .agg #[.int .i64 i, .int .i64 o, .int .i64 l]
set_option maxRecDepth 20000 in
theorem mfin {w W : World} {T : Array Value} {x y z : Int} {v : Value} (hB : Below w.heap.size w W) (hQ : Blk W (w.heap.size + 1) 163 #[.int .i64 x, .int .i64 y, .int .i64 z]) (h6 : T[6]? = some (.pointer (some ⟨w.heap.size + 1, 0, none⟩))) (h7 : T[7]? = some v) :
    bodyPost Tryz.prog Tryz.f92 (Ret (.tuple #[rowV x y z, v]) w) Exit.ret { tmps := T, defers := [] } W := by
  have c0 := hQ.cell 0
  have c1 := hQ.cell 1
  have c2 := hQ.cell 2
  simp at c0 c1 c2
  unfold rowV
  refine bodyPost_ret (v := .tuple #[.agg #[.int .i64 x, .int .i64 y, .int .i64 z], v]) ?_ rfl ⟨rfl, hB⟩
  simp [results, Tryz.results92, go_sem, h6, h7, c0, c1, c2, Result.andThen]
set_option maxRecDepth 20000 in
set_option maxHeartbeats 4000000 in
theorem month_any {Q p b : Nat} {y : Int} (hQ : Q ≤ 1000000000000) (hr : rateB p b) (hy0 : 0 ≤ y) (hy : y ≤ 9223372036854775807) (w : World) :
    Calls Tryz.prog 92 #[.int .i64 (Q : Int), rv p b, .int .i64 y] w (Ret (.tuple #[rowV ((mi p Q : Nat) : Int) (min y ((Q : Int) + (mi p Q : Nat)) - (mi p Q : Nat)) ((Q : Int) - (min y ((Q : Int) + (mi p Q : Nat)) - (mi p Q : Nat))), .nilIface]) w) := by
  have hM := fun W => Month_yes hQ hr W
  replace hM : ∀ W, Calls Tryz.prog 141 #[rv p b, .int .i64 (Q : Int)] W (Ret (.tuple #[.int .i64 ((mi p Q : Nat) : Int), .nilIface]) W) := hM
  have hb := mi_bd hQ hr.1
  obtain ⟨m, hm⟩ : ∃ m, mi p Q = m := ⟨_, rfl⟩
  rw [hm] at hM hb ⊢
  have hL := fun W => Least_any y ((Q : Int) + (m : Int)) W
  obtain ⟨o, ho⟩ : ∃ o, min y ((Q : Int) + (m : Int)) = o := ⟨_, rfl⟩
  rw [ho] at hL ⊢
  have ho1 : 0 ≤ o := by omega
  have ho2 : o ≤ (Q : Int) + (m : Int) := by omega
  have i1 : IntKind.i64.wrap ((Q : Int) + (m : Int)) = (Q : Int) + (m : Int) := by rw [IntKind.wrap_i64]; omega
  have i2 : IntKind.i64.wrap (o - (m : Int)) = o - (m : Int) := by rw [IntKind.wrap_i64]; omega
  have i3 : IntKind.i64.wrap ((Q : Int) - (o - (m : Int))) = (Q : Int) - (o - (m : Int)) := by rw [IntKind.wrap_i64]; omega
  unfold rv at hM ⊢
  clear hr hb hm ho hy0 hy hQ ho1 ho2
  go_enter Tryz.func92, Tryz.ntmps92
  have HQ0 := Lib.hid (Blk.new w 25 #[.int .u32 (p : Int), .int .u8 (b : Int)])
  have HB0 := Lib.hid (b_alloc w (.cells #[.int .u32 (p : Int), .int .u8 (b : Int)] 25))
  have HQ1_0 := Lib.hid (HQ0.out.alloc (.cells #[.int .i64 0, .int .i64 0, .int .i64 0] 163))
  have HQ1_1 : Hid (Blk ((w.alloc (.cells #[.int .u32 (p : Int), .int .u8 (b : Int)] 25)).alloc (.cells #[.int .i64 0, .int .i64 0, .int .i64 0] 163)) (w.heap.size + 1) 163 #[.int .i64 0, .int .i64 0, .int .i64 0]) := Lib.hid (by
    have h := Blk.new (w.alloc (.cells #[.int .u32 (p : Int), .int .u8 (b : Int)] 25)) 163 #[.int .i64 0, .int .i64 0, .int .i64 0]
    rw [show (w.alloc (.cells #[.int .u32 (p : Int), .int .u8 (b : Int)] 25)).heap.size = w.heap.size + 1 by simp] at h
    exact h)
  have HB1 := Lib.hid (HB0.out.alloc HB0.out.size (.cells #[.int .i64 0, .int .i64 0, .int .i64 0] 163))
  go_wp2_with fail
  refine (hM _).mono ?_
  rintro e w2 ⟨rfl, hb2⟩
  have HQ2_0 := Lib.hid (HQ1_0.out.below hb2 HQ1_0.out.lt)
  have HQ2_1 := Lib.hid (HQ1_1.out.below hb2 HQ1_1.out.lt)
  have HB2 := Lib.hid (HB1.out.trans (hb2.mono HB1.out.size))
  clear hb2
  have c2_0_0 := HQ2_0.out.cell 0
  have c2_0_1 := HQ2_0.out.cell 1
  have z2_0 := HQ2_0.out.lt
  have c2_1_0 := HQ2_1.out.cell 0
  have f2_1_0 := HQ2_1.out.frozen 0
  have c2_1_1 := HQ2_1.out.cell 1
  have f2_1_1 := HQ2_1.out.frozen 1
  have c2_1_2 := HQ2_1.out.cell 2
  have f2_1_2 := HQ2_1.out.frozen 2
  have z2_1 := HQ2_1.out.lt
  try simp at c2_0_0 c2_0_1 c2_1_0 f2_1_0 c2_1_1 f2_1_1 c2_1_2 f2_1_2
  go_wp2_with fail
  refine (hL _).mono ?_
  rintro e w99 ⟨rfl, rfl⟩
  go_wp2_with fail
  exact mfin (below_set3 HB2.out (Nat.le_succ _) _ _ _) (set3L HQ2_1.out _ _ _) rfl rfl
set_option maxRecDepth 20000 in
set_option maxHeartbeats 4000000 in
theorem ltakes_yes {P p b n : Nat} (hr : rateB p b) (hP0 : 1 ≤ P) (hP : P ≤ 1000000000000) (hn0 : 1 ≤ n) (hn : n ≤ 480) (w : World) :
    Calls Tryz.prog 140 #[.int .i64 (P : Int), rv p b, .int .i64 (n : Int)] w (Ret (.bool true) w) := by
  have hR := fun W => YR_yes hr W
  clear hr
  unfold rv at hR ⊢
  go_enter Tryz.func140, Tryz.ntmps140
  have HQ0 := Lib.hid (Blk.new w 25 #[.int .u32 (p : Int), .int .u8 (b : Int)])
  have HB0 := Lib.hid (b_alloc w (.cells #[.int .u32 (p : Int), .int .u8 (b : Int)] 25))
  go_wp2_with fail
  refine (hR _).mono ?_
  rintro e w1 ⟨rfl, hb1⟩
  have HQ1_0 := Lib.hid (HQ0.out.below hb1 HQ0.out.lt)
  have HB1 := Lib.hid (HB0.out.trans (hb1.mono HB0.out.size))
  clear hb1
  have c1_0_0 := HQ1_0.out.cell 0
  have c1_0_1 := HQ1_0.out.cell 1
  have z1_0 := HQ1_0.out.lt
  try simp at c1_0_0 c1_0_1
  go_wp2_with fail
  go_ret
  exact ⟨by first | rfl | (simp; omega), HB1.out⟩
/-- What may be. -/
def lvB (p b : Nat) (P n : Int) : Prop := rateB p b ∧ 1 ≤ P ∧ P ≤ 1000000000000 ∧ 1 ≤ n ∧ n ≤ 480
instance (p b : Nat) (P n : Int) : Decidable (lvB p b P n) := inferInstanceAs (Decidable (_ ∧ _))
set_option maxRecDepth 20000 in
set_option maxHeartbeats 4000000 in
theorem ltakes_no {p b : Nat} {P n : Int} (h : ¬ lvB p b P n) (w : World) :
    Calls Tryz.prog 140 #[.int .i64 P, rv p b, .int .i64 n] w (Ret (.bool false) w) := by
  by_cases hr : rateB p b
  · have hR := fun W => YR_yes hr W
    unfold rv at hR ⊢
    rcases (show P < 1 ∨ (1 ≤ P ∧ 1000000000000 < P) ∨ (1 ≤ P ∧ P ≤ 1000000000000 ∧ n < 1) ∨ (1 ≤ P ∧ P ≤ 1000000000000 ∧ 1 ≤ n ∧ 480 < n) by have h' : ¬ (1 ≤ P ∧ P ≤ 1000000000000 ∧ 1 ≤ n ∧ n ≤ 480) := fun e => h ⟨hr, e⟩; omega) with h1 | ⟨h1, h2⟩ | ⟨h1, h2, h3⟩ | ⟨h1, h2, h3, h4⟩
    · clear h hr
      go_enter Tryz.func140, Tryz.ntmps140
      have HQ0 := Lib.hid (Blk.new w 25 #[.int .u32 (p : Int), .int .u8 (b : Int)])
      have HB0 := Lib.hid (b_alloc w (.cells #[.int .u32 (p : Int), .int .u8 (b : Int)] 25))
      go_wp2_with fail
      refine (hR _).mono ?_
      rintro e w1 ⟨rfl, hb1⟩
      have HQ1_0 := Lib.hid (HQ0.out.below hb1 HQ0.out.lt)
      have HB1 := Lib.hid (HB0.out.trans (hb1.mono HB0.out.size))
      clear hb1
      have c1_0_0 := HQ1_0.out.cell 0
      have c1_0_1 := HQ1_0.out.cell 1
      have z1_0 := HQ1_0.out.lt
      try simp at c1_0_0 c1_0_1
      go_wp2_with fail
      go_ret
      exact ⟨by first | rfl | (simp; omega), HB1.out⟩
    · clear h hr
      go_enter Tryz.func140, Tryz.ntmps140
      have HQ0 := Lib.hid (Blk.new w 25 #[.int .u32 (p : Int), .int .u8 (b : Int)])
      have HB0 := Lib.hid (b_alloc w (.cells #[.int .u32 (p : Int), .int .u8 (b : Int)] 25))
      go_wp2_with fail
      refine (hR _).mono ?_
      rintro e w1 ⟨rfl, hb1⟩
      have HQ1_0 := Lib.hid (HQ0.out.below hb1 HQ0.out.lt)
      have HB1 := Lib.hid (HB0.out.trans (hb1.mono HB0.out.size))
      clear hb1
      have c1_0_0 := HQ1_0.out.cell 0
      have c1_0_1 := HQ1_0.out.cell 1
      have z1_0 := HQ1_0.out.lt
      try simp at c1_0_0 c1_0_1
      go_wp2_with fail
      go_ret
      exact ⟨by first | rfl | (simp; omega), HB1.out⟩
    · clear h hr
      go_enter Tryz.func140, Tryz.ntmps140
      have HQ0 := Lib.hid (Blk.new w 25 #[.int .u32 (p : Int), .int .u8 (b : Int)])
      have HB0 := Lib.hid (b_alloc w (.cells #[.int .u32 (p : Int), .int .u8 (b : Int)] 25))
      go_wp2_with fail
      refine (hR _).mono ?_
      rintro e w1 ⟨rfl, hb1⟩
      have HQ1_0 := Lib.hid (HQ0.out.below hb1 HQ0.out.lt)
      have HB1 := Lib.hid (HB0.out.trans (hb1.mono HB0.out.size))
      clear hb1
      have c1_0_0 := HQ1_0.out.cell 0
      have c1_0_1 := HQ1_0.out.cell 1
      have z1_0 := HQ1_0.out.lt
      try simp at c1_0_0 c1_0_1
      go_wp2_with fail
      go_ret
      exact ⟨by first | rfl | (simp; omega), HB1.out⟩
    · clear h hr
      go_enter Tryz.func140, Tryz.ntmps140
      have HQ0 := Lib.hid (Blk.new w 25 #[.int .u32 (p : Int), .int .u8 (b : Int)])
      have HB0 := Lib.hid (b_alloc w (.cells #[.int .u32 (p : Int), .int .u8 (b : Int)] 25))
      go_wp2_with fail
      refine (hR _).mono ?_
      rintro e w1 ⟨rfl, hb1⟩
      have HQ1_0 := Lib.hid (HQ0.out.below hb1 HQ0.out.lt)
      have HB1 := Lib.hid (HB0.out.trans (hb1.mono HB0.out.size))
      clear hb1
      have c1_0_0 := HQ1_0.out.cell 0
      have c1_0_1 := HQ1_0.out.cell 1
      have z1_0 := HQ1_0.out.lt
      try simp at c1_0_0 c1_0_1
      go_wp2_with fail
      go_ret
      exact ⟨by first | rfl | (simp; omega), HB1.out⟩
  · have hR := fun W => YR_no hr W
    unfold rv at hR ⊢
    clear h hr
    go_enter Tryz.func140, Tryz.ntmps140
    have HQ0 := Lib.hid (Blk.new w 25 #[.int .u32 (p : Int), .int .u8 (b : Int)])
    have HB0 := Lib.hid (b_alloc w (.cells #[.int .u32 (p : Int), .int .u8 (b : Int)] 25))
    go_wp2_with fail
    refine (hR _).mono ?_
    rintro e w1 ⟨rfl, hb1⟩
    have HQ1_0 := Lib.hid (HQ0.out.below hb1 HQ0.out.lt)
    have HB1 := Lib.hid (HB0.out.trans (hb1.mono HB0.out.size))
    clear hb1
    have c1_0_0 := HQ1_0.out.cell 0
    have c1_0_1 := HQ1_0.out.cell 1
    have z1_0 := HQ1_0.out.lt
    try simp at c1_0_0 c1_0_1
    go_wp2_with fail
    go_ret
    exact ⟨by first | rfl | (simp; omega), HB1.out⟩
end Go.Proofs.YtpbfipeinblfgaaGreatDoor
