/-
arrearslaw16.few: the first days, rising from one on. No condition.
TermsRise's plain mathematics: what is due rises, and the days don't fall. No condition.
-/
import Derived.Test.YtpnoecjpplaicaaGreatDoorTrmG
import Derived.Test.YtpnoecjpplaicaaGreatDoorHRight
namespace Go.Proofs.YtpnoecjpplaicaaGreatDoor
open Go.ChangeShapes Go.WideShapes Go.ChangeAt Go.RowKit

/-- The day behind k bytes. -/
def atK (l : List UInt8) (f : Int) : Nat → Int
  | 0 => f
  | k + 1 => atK l f k + (1 + (((l.getD k 0).toNat % 40 : Nat) : Int))
def fewD (l : List UInt8) (f : Int) (k : Nat) : List Int := (List.range k).map (fun i => atK l f (i + 1))
theorem fewD_next (l : List UInt8) (f : Int) (k : Nat) : fewD l f (k + 1) = fewD l f k ++ [atK l f (k + 1)] := by
  unfold fewD
  rw [List.range_succ, List.map_append]
  rfl
theorem fewD_len (l : List UInt8) (f : Int) (k : Nat) : (fewD l f k).length = k := by simp [fewD]
theorem atK_bd (l : List UInt8) (f : Int) : ∀ k, f + k ≤ atK l f k ∧ atK l f k ≤ f + 40 * k
  | 0 => by simp [atK]
  | k + 1 => by
    have := atK_bd l f k
    rw [atK]
    omega
theorem fewD_get (l : List UInt8) (f : Int) {k n : Nat} (h : k < n) : (fewD l f n).getD k 0 = atK l f (k + 1) := by
  unfold fewD
  simp [List.getD, h]
theorem few_right (l : List UInt8) {f : Int} (h0 : 0 ≤ f) (h1 : f ≤ 3600000) {n : Nat} (hn : n ≤ 40) : rightL (fewD l f n) = true := by
  unfold rightL
  rw [fewD_len, decide_eq_true (by omega : n ≤ 200), Bool.true_and]
  have key : ∀ k, k ≤ n → upB (fewD l f n) k = true := by
    intro k
    induction k with
    | zero => intro _; rfl
    | succ k ih =>
      intro hk
      have hb := atK_bd l f (k + 1)
      simp only [upB]
      rw [ih (by omega), fewD_get l f (by omega : k < n)]
      have hd : dayB (atK l f (k + 1)) = true := by unfold dayB; simp; omega
      rw [hd]
      cases k with
      | zero => rfl
      | succ k =>
        have h2 : atK l f (k + 1 + 1) = atK l f (k + 1) + (1 + (((l.getD (k + 1) 0).toNat % 40 : Nat) : Int)) := rfl
        rw [show k + 1 - 1 = k from rfl, fewD_get l f (by omega : k < n), h2]
        simp
        omega
  exact key n (Nat.le_refl _)
theorem few_in (l : List UInt8) {f : Int} (h0 : 0 ≤ f) (h1 : f ≤ 3600000) {n : Nat} (hn : n ≤ 40) : ∀ v ∈ fewD l f n, -2147483648 ≤ v ∧ v ≤ 2147483647 := by
  intro v hv
  unfold fewD at hv
  obtain ⟨i, hi, rfl⟩ := List.mem_map.1 hv
  have := List.mem_range.1 hi
  have := atK_bd l f (i + 1)
  omega
set_option maxRecDepth 20000 in
set_option maxHeartbeats 1000000 in
theorem Few16_any (A : Option Addr) (n c B : Nat) (l : List UInt8) (f : Int) (hf0 : 0 ≤ f) (hf1 : f ≤ 3600000) (w : World) (hR : Rd w B A l) (hn : l.length = n) (hm : n ≤ 140737488355328) (hB : B ≤ w.heap.size) :
    Calls Tryz.prog 11 #[.slice A n c, .int .i32 f] w (FewPost w (fewD l f (min n 40))) := by
  subst hn
  have HR := Lib.hid hR
  clear hR
  go_enter Tryz.func11, Tryz.ntmps11
  go_wp2_with fail
  go_loopw [6, 7, 8, 14] (fun v x a i wr => ∃ k : Nat, k ≤ l.length ∧ i = .int .i64 k ∧ a = .int .i32 (atK l f (min k 40)) ∧ Hid (OwnH wr w.heap.size v (min k 40) (fewD l f (min k 40))) ∧ Hid (OwnN wr w.heap.size x (min k 40) (fewD l f (min k 40))) ∧ Hid (Below w.heap.size w wr)) (fun _ _ _ i _ => l.length - (intOf i).toNat)
  case atStart => exact ⟨0, Nat.zero_le _, rfl, rfl, Lib.hid (World.ownsRow_nil w w.heap.size 26 1), Lib.hid (World.ownsRow_nil w w.heap.size 3 1), Lib.hid (Below.refl _ _)⟩
  case round =>
    obtain ⟨k, hk, rfl, rfl, HH, HN, HBL⟩ := hrel
    by_cases hlt : k < l.length
    · obtain ⟨b, o, rfl, hb, hc0⟩ := HR.out.at_ hlt
      have hc := (HBL.out.cell (p := ⟨b, o + k, none⟩) (by exact Nat.lt_of_lt_of_le hb hB)).trans hc0
      have hU := (l[k]).toNat_lt
      have hgd : l.getD k 0 = l[k] := by simp [List.getD, hlt]
      have hak : atK l f (k + 1) = atK l f k + (1 + (((l[k]).toNat % 40 : Nat) : Int)) := by rw [atK, hgd]
      have hbd := atK_bd l f k
      have hbd2 := atK_bd l f (k + 1)
      obtain ⟨U, hUe⟩ : ∃ U, (l[k]).toNat = U := ⟨_, rfl⟩
      rw [hUe] at hc hU hak
      clear hc0 hgd hUe
      by_cases hmk : k < 40
      · rw [Nat.min_eq_left (by omega : k ≤ 40)] at HH HN ⊢
        obtain ⟨r, hr⟩ : ∃ r, U % 40 = r := ⟨_, rfl⟩
        have hr40 : r < 40 := by omega
        have hrm : (U : Int).tmod 40 = (r : Int) := by rw [← hr]; rfl
        rw [hr] at hak
        obtain ⟨a, ha⟩ : ∃ a, atK l f k = a := ⟨_, rfl⟩
        obtain ⟨u, hu⟩ : ∃ u, atK l f (k + 1) = u := ⟨_, rfl⟩
        rw [ha] at hak hbd ⊢
        rw [hu] at hak hbd2
        have i1 : IntKind.i32.wrap (r : Int) = (r : Int) := by rw [IntKind.wrap_i32]; omega
        have i2 : IntKind.i32.wrap (1 + (r : Int)) = 1 + (r : Int) := by rw [IntKind.wrap_i32]; omega
        have i3 : IntKind.i32.wrap (a + (1 + (r : Int))) = u := by rw [IntKind.wrap_i32]; omega
        have i4 : IntKind.u8.wrap (r : Int) = (r : Int) := by rw [IntKind.wrap_u8]; omega
        have i5 : IntKind.i64.wrap u = u := by rw [IntKind.wrap_i64]; omega
        have HU := Lib.hid hu
        clear hr hu ha hak hbd hbd2 hU hr40
        have hsz := HBL.out.size
        have HO := Lib.hid (HH.out.alloc (.cells #[.int .i32 u] 26))
        have HNA := Lib.hid (HN.out.alloc (.cells #[.int .i32 u] 26))
        have HR1 := Lib.hid (rv_oneH wr u)
        have HT := Lib.hid (show fewD l f k ++ [u] = fewD l f (min (k + 1) 40) from by rw [Nat.min_eq_left (by omega), fewD_next, HU.out])
        have HAL := Lib.hid (HBL.out.alloc hsz (.cells #[.int .i32 u] 26))
        clear HH HN
        go_wp2_with (with_reducible refine wpList_appendH (o := ⟨some 30, _, _, _, _, _⟩) rfl (.tmp 27) (.tmp 29) rfl w.heap.size _ k (fewD l f k) ?h1 HO.out (wr.heap.size + 1) (some ⟨wr.heap.size, 0, none⟩) 1 1 [u] ?h2 HR1.out rfl ?h3 ?h4 ?_)
        try (case h1 => rfl)
        try (case h2 => rfl)
        case h3 => omega
        case h4 => simp [fewD_len]; omega
        intro v1 w1 hown1 hg1
        have hN1 := HNA.out.past HO.out hg1
        have hb1 : Below w.heap.size w w1 := HAL.out.grown hg1 HAL.out.size (fun g hg => (World.ownsRow.lt HO.out g hg).1)
        have hz1 : w.heap.size ≤ w1.heap.size := hb1.size
        have HO1 := Lib.hid (hown1.alloc (.cells #[.int .i64 u] 3))
        have HN1 := Lib.hid (hN1.alloc (.cells #[.int .i64 u] 3))
        have HAL1 := Lib.hid (hb1.alloc hz1 (.cells #[.int .i64 u] 3))
        have HR2 := Lib.hid (rv_oneN w1 u)
        clear hown1 hg1 hN1 hb1 HO HNA HR1 HAL
        go_wp2_with (with_reducible refine wpList_appendN (o := ⟨some 35, _, _, _, _, _⟩) rfl (.tmp 31) (.tmp 34) rfl w.heap.size _ k (fewD l f k) ?h1 HN1.out (w1.heap.size + 1) (some ⟨w1.heap.size, 0, none⟩) 1 1 [u] ?h2 HR2.out rfl ?h3 ?h4 ?_)
        try (case h1 => rfl)
        try (case h2 => rfl)
        case h3 => omega
        case h4 => simp [fewD_len]; omega
        intro v2 w2 hown2 hg2
        have hH2 := HO1.out.past HN1.out hg2
        have hb2 : Below w.heap.size w w2 := HAL1.out.grown hg2 HAL1.out.size (fun g hg => (World.ownsRow.lt HN1.out g hg).1)
        have HO2 := Lib.hid hH2
        have HN2 := Lib.hid hown2
        have HB2 := Lib.hid hb2
        clear hown2 hg2 hH2 hb2 HO1 HN1 HAL1 HR2
        go_wp2_with fail
        go_roundw
        case rel => exact ⟨k + 1, by omega, by go_num, by rw [Nat.min_eq_left (by omega : k + 1 ≤ 40), HU.out], Lib.hid (by have h := HO2.out; rw [← HT.out, Nat.min_eq_left (by omega)]; exact h), Lib.hid (by have h := HN2.out; rw [← HT.out, Nat.min_eq_left (by omega)]; exact h), HB2⟩
        case measure => simp [intOf]; omega
      · have e1 : min k 40 = 40 := Nat.min_eq_right (by omega)
        have e2 : min (k + 1) 40 = 40 := Nat.min_eq_right (by omega)
        have HE := Lib.hid (e2.trans e1.symm)
        clear e1 e2
        go_wp2_with fail
        go_roundw
        case rel => exact ⟨k + 1, by omega, by go_num, by rw [HE.out], Lib.hid (by rw [HE.out]; exact HH.out), Lib.hid (by rw [HE.out]; exact HN.out), HBL⟩
        case measure => simp [intOf]; omega
    · obtain rfl : k = l.length := by omega
      go_wp2_with fail
      go_ret2
      have h1 := HH.out
      have h2 := HN.out
      obtain ⟨hl1, A1, c1, hv1, hc1, hm1, hr1⟩ := own_formH h1
      obtain ⟨hl2, A2, c2, hv2, hc2, hm2, hr2⟩ := own_formN h2
      rw [← hl1] at hv1 hc1
      rw [← hl2] at hv2 hc2
      exact ⟨A1, A2, c1, c2, by rw [hv1, hv2]; rfl, hc1, hc2, hm1, hm2, hr1, hr2, HBL.out⟩
end Go.Proofs.YtpnoecjpplaicaaGreatDoor
namespace Go.Proofs.YtpnoecjpplaicaaGreatDoor
open Go.RowKit

theorem row_pay {p y P n k : Nat} : 0 ≤ (rowF p y P n k).1 + (rowF p y P n k).2.1 ∧ (k + 1 = n → (mit p y k P : Int) ≤ (rowF p y P n k).1 + (rowF p y P n k).2.1) ∧ (k + 1 ≠ n → (mit p y k P : Int) - mit p y (k + 1) P ≤ (rowF p y P n k).1 + (rowF p y P n k).2.1) := by
  have h1 : mit p y (k + 1) P ≤ mit p y k P + mi p (mit p y k P) := by
    rw [mit_succ]
    unfold mst
    omega
  unfold rowF
  dsimp only
  refine ⟨?_, fun h => ?_, fun h => ?_⟩
  · split <;> omega
  · rw [if_pos h]; omega
  · rw [if_neg h]; omega
theorem sum_rise (p y P n k : Nat) : paysTo (rowF p y P n) k ≤ paysTo (rowF p y P n) (k + 1) := by
  have := (row_pay (p := p) (y := y) (P := P) (n := n) (k := k)).1
  rw [paysTo]
  omega
theorem sum_low (p y P n : Nat) : ∀ k, k < n → (P : Int) - mit p y k P ≤ paysTo (rowF p y P n) k
  | 0, _ => by
    show (P : Int) - (P : Int) ≤ 0
    omega
  | k + 1, h => by
    have h1 := sum_low p y P n k (by omega)
    have h2 := (row_pay (p := p) (y := y) (P := P) (n := n) (k := k)).2.2 (by omega)
    rw [paysTo]
    omega
theorem sum_all (p y P n : Nat) (h : 1 ≤ n) : (P : Int) ≤ paysTo (rowF p y P n) n := by
  obtain ⟨m, rfl⟩ : ∃ m, n = m + 1 := ⟨n - 1, by omega⟩
  have h1 := sum_low p y P (m + 1) m (by omega)
  have h2 := (row_pay (p := p) (y := y) (P := P) (n := m + 1) (k := m)).2.1 rfl
  rw [paysTo]
  omega
theorem plain_zero {n : Int} (h0 : 0 ≤ n) (h1 : n ≤ 3600000) : plainD n 0 = n := by
  obtain ⟨hr, hn⟩ := civ_right n h0 (by omega)
  have hc := civ_in n h0 (by omega)
  obtain ⟨e1, e2⟩ := pT_zero n ⟨hc.2.2.1, hc.2.2.2.1⟩
  unfold plainD
  have e3 : pD n 0 = cD n := by
    by_cases h : cD n = mlen (cY n) (cM n)
    · rw [plain_last h, e1, e2, h]
    · rw [plain_mid h, e1, e2]
      omega
  rw [e1, e2, e3, hn]
theorem due_after {l : List Int} {S : Int} {k : Nat} (h0 : 0 ≤ S) (h1 : S ≤ 3600000) (hk : k < 480) (hl : l.length ≤ 200) : S < dueD l S k := by
  have h2 := dueD_is (l := l) h0 h1 hk hl
  have h3 := nextD_in l _ _ rfl _ h2
  have h4 := plain_rise (n := S) (k := 0) (j := (k : Int) + 1) h0 (by omega) (Int.le_refl _) (by omega) (pT_bd h0 h1 (by omega))
  rw [plain_zero h0 h1] at h4
  omega
theorem due_rise {l : List Int} {S : Int} {k : Nat} (h0 : 0 ≤ S) (h1 : S ≤ 3600000) (hk : k + 1 < 480) (hl : l.length ≤ 200) : dueD l S k ≤ dueD l S (k + 1) := by
  have h2 := dueD_is (l := l) h0 h1 (show k < 480 by omega) hl
  have h2' := dueD_is (l := l) h0 h1 hk hl
  obtain ⟨a1, a2, a3, a4⟩ := nextD_in l _ _ rfl _ h2
  obtain ⟨b1, b2, b3, b4⟩ := nextD_in l _ _ rfl _ h2'
  have h4 := plain_rise (n := S) (k := (k : Int) + 1) (j := ((k + 1 : Nat) : Int) + 1) h0 (by omega) (by omega) (by omega) (pT_bd h0 h1 (by omega))
  rcases Int.lt_or_le (dueD l S (k + 1)) (dueD l S k) with h | h
  · have := a4 _ (by omega) h
    rw [b3] at this
    cases this
  · exact h
end Go.Proofs.YtpnoecjpplaicaaGreatDoor
