/-
arrearslaw16.few: the first days, rising from one on. No condition.
TermsDues: the walk. Conditions: the laid variables' cells, the bytes are there.
-/
import Derived.Test.YtjcnglkjjhnpbaaGreatDoorTrmG
import Derived.Test.YtjcnglkjjhnpbaaGreatDoorTrmW
import Derived.Test.YtjcnglkjjhnpbaaGreatDoorTrmH
import Derived.Test.YtjcnglkjjhnpbaaGreatDoorCodeC
namespace Go.Proofs.YtjcnglkjjhnpbaaGreatDoor
open Go.ChangeShapes Go.WideShapes Go.ChangeAt Go.RowKit

/-- The day behind k bytes. -/
def atK (l : List UInt8) (f : Int) : Nat → Int
  | 0 => f
  | k + 1 => atK l f k + (1 + (((l.getD k 0).toNat % 40 : Nat) : Int))
def fewD (l : List UInt8) (f : Int) (k : Nat) : List Int := (List.range k).map (fun i => atK l f (i + 1))
theorem fewD_next (l : List UInt8) (f : Int) (k : Nat) : fewD l f (k + 1) = fewD l f k ++ [atK l f (k + 1)] := by
  unfold fewD
  rw [List.range_succ, List.map_append]
  rfl
theorem fewD_len (l : List UInt8) (f : Int) (k : Nat) : (fewD l f k).length = k := by simp [fewD]
theorem atK_bd (l : List UInt8) (f : Int) : ∀ k, f + k ≤ atK l f k ∧ atK l f k ≤ f + 40 * k
  | 0 => by simp [atK]
  | k + 1 => by
    have := atK_bd l f k
    rw [atK]
    omega
theorem fewD_get (l : List UInt8) (f : Int) {k n : Nat} (h : k < n) : (fewD l f n).getD k 0 = atK l f (k + 1) := by
  unfold fewD
  simp [List.getD, h]
theorem few_right (l : List UInt8) {f : Int} (h0 : 0 ≤ f) (h1 : f ≤ 3600000) {n : Nat} (hn : n ≤ 40) : rightL (fewD l f n) = true := by
  unfold rightL
  rw [fewD_len, decide_eq_true (by omega : n ≤ 200), Bool.true_and]
  have key : ∀ k, k ≤ n → upB (fewD l f n) k = true := by
    intro k
    induction k with
    | zero => intro _; rfl
    | succ k ih =>
      intro hk
      have hb := atK_bd l f (k + 1)
      simp only [upB]
      rw [ih (by omega), fewD_get l f (by omega : k < n)]
      have hd : dayB (atK l f (k + 1)) = true := by unfold dayB; simp; omega
      rw [hd]
      cases k with
      | zero => rfl
      | succ k =>
        have h2 : atK l f (k + 1 + 1) = atK l f (k + 1) + (1 + (((l.getD (k + 1) 0).toNat % 40 : Nat) : Int)) := rfl
        rw [show k + 1 - 1 = k from rfl, fewD_get l f (by omega : k < n), h2]
        simp
        omega
  exact key n (Nat.le_refl _)
theorem few_in (l : List UInt8) {f : Int} (h0 : 0 ≤ f) (h1 : f ≤ 3600000) {n : Nat} (hn : n ≤ 40) : ∀ v ∈ fewD l f n, -2147483648 ≤ v ∧ v ≤ 2147483647 := by
  intro v hv
  unfold fewD at hv
  obtain ⟨i, hi, rfl⟩ := List.mem_map.1 hv
  have := List.mem_range.1 hi
  have := atK_bd l f (i + 1)
  omega
set_option maxRecDepth 20000 in
set_option maxHeartbeats 1000000 in
theorem Few16_any (A : Option Addr) (n c B : Nat) (l : List UInt8) (f : Int) (hf0 : 0 ≤ f) (hf1 : f ≤ 3600000) (w : World) (hR : Rd w B A l) (hn : l.length = n) (hm : n ≤ 140737488355328) (hB : B ≤ w.heap.size) :
    Calls Tryz.prog 10 #[.slice A n c, .int .i32 f] w (FewPost w (fewD l f (min n 40))) := by
  subst hn
  have HR := Lib.hid hR
  clear hR
  go_enter Tryz.func10, Tryz.ntmps10
  go_wp2_with fail
  go_loopw [6, 7, 8, 14] (fun v x a i wr => ∃ k : Nat, k ≤ l.length ∧ i = .int .i64 k ∧ a = .int .i32 (atK l f (min k 40)) ∧ Hid (OwnH wr w.heap.size v (min k 40) (fewD l f (min k 40))) ∧ Hid (OwnN wr w.heap.size x (min k 40) (fewD l f (min k 40))) ∧ Hid (Below w.heap.size w wr)) (fun _ _ _ i _ => l.length - (intOf i).toNat)
  case atStart => exact ⟨0, Nat.zero_le _, rfl, rfl, Lib.hid (World.ownsRow_nil w w.heap.size 26 1), Lib.hid (World.ownsRow_nil w w.heap.size 3 1), Lib.hid (Below.refl _ _)⟩
  case round =>
    obtain ⟨k, hk, rfl, rfl, HH, HN, HBL⟩ := hrel
    by_cases hlt : k < l.length
    · obtain ⟨b, o, rfl, hb, hc0⟩ := HR.out.at_ hlt
      have hc := (HBL.out.cell (p := ⟨b, o + k, none⟩) (by exact Nat.lt_of_lt_of_le hb hB)).trans hc0
      have hU := (l[k]).toNat_lt
      have hgd : l.getD k 0 = l[k] := by simp [List.getD, hlt]
      have hak : atK l f (k + 1) = atK l f k + (1 + (((l[k]).toNat % 40 : Nat) : Int)) := by rw [atK, hgd]
      have hbd := atK_bd l f k
      have hbd2 := atK_bd l f (k + 1)
      obtain ⟨U, hUe⟩ : ∃ U, (l[k]).toNat = U := ⟨_, rfl⟩
      rw [hUe] at hc hU hak
      clear hc0 hgd hUe
      by_cases hmk : k < 40
      · rw [Nat.min_eq_left (by omega : k ≤ 40)] at HH HN ⊢
        obtain ⟨r, hr⟩ : ∃ r, U % 40 = r := ⟨_, rfl⟩
        have hr40 : r < 40 := by omega
        have hrm : (U : Int).tmod 40 = (r : Int) := by rw [← hr]; rfl
        rw [hr] at hak
        obtain ⟨a, ha⟩ : ∃ a, atK l f k = a := ⟨_, rfl⟩
        obtain ⟨u, hu⟩ : ∃ u, atK l f (k + 1) = u := ⟨_, rfl⟩
        rw [ha] at hak hbd ⊢
        rw [hu] at hak hbd2
        have i1 : IntKind.i32.wrap (r : Int) = (r : Int) := by rw [IntKind.wrap_i32]; omega
        have i2 : IntKind.i32.wrap (1 + (r : Int)) = 1 + (r : Int) := by rw [IntKind.wrap_i32]; omega
        have i3 : IntKind.i32.wrap (a + (1 + (r : Int))) = u := by rw [IntKind.wrap_i32]; omega
        have i4 : IntKind.u8.wrap (r : Int) = (r : Int) := by rw [IntKind.wrap_u8]; omega
        have i5 : IntKind.i64.wrap u = u := by rw [IntKind.wrap_i64]; omega
        have HU := Lib.hid hu
        clear hr hu ha hak hbd hbd2 hU hr40
        have hsz := HBL.out.size
        have HO := Lib.hid (HH.out.alloc (.cells #[.int .i32 u] 26))
        have HNA := Lib.hid (HN.out.alloc (.cells #[.int .i32 u] 26))
        have HR1 := Lib.hid (rv_oneH wr u)
        have HT := Lib.hid (show fewD l f k ++ [u] = fewD l f (min (k + 1) 40) from by rw [Nat.min_eq_left (by omega), fewD_next, HU.out])
        have HAL := Lib.hid (HBL.out.alloc hsz (.cells #[.int .i32 u] 26))
        clear HH HN
        go_wp2_with (with_reducible refine wpList_appendH (o := ⟨some 30, _, _, _, _, _⟩) rfl (.tmp 27) (.tmp 29) rfl w.heap.size _ k (fewD l f k) ?h1 HO.out (wr.heap.size + 1) (some ⟨wr.heap.size, 0, none⟩) 1 1 [u] ?h2 HR1.out rfl ?h3 ?h4 ?_)
        try (case h1 => rfl)
        try (case h2 => rfl)
        case h3 => omega
        case h4 => simp; omega
        intro v1 w1 hown1 hg1
        have hN1 := HNA.out.past HO.out hg1
        have hb1 : Below w.heap.size w w1 := HAL.out.grown hg1 HAL.out.size (fun g hg => (World.ownsRow.lt HO.out g hg).1)
        have hz1 : w.heap.size ≤ w1.heap.size := hb1.size
        have HO1 := Lib.hid (hown1.alloc (.cells #[.int .i64 u] 3))
        have HN1 := Lib.hid (hN1.alloc (.cells #[.int .i64 u] 3))
        have HAL1 := Lib.hid (hb1.alloc hz1 (.cells #[.int .i64 u] 3))
        have HR2 := Lib.hid (rv_oneN w1 u)
        clear hown1 hg1 hN1 hb1 HO HNA HR1 HAL
        go_wp2_with (with_reducible refine wpList_appendN (o := ⟨some 35, _, _, _, _, _⟩) rfl (.tmp 31) (.tmp 34) rfl w.heap.size _ k (fewD l f k) ?h1 HN1.out (w1.heap.size + 1) (some ⟨w1.heap.size, 0, none⟩) 1 1 [u] ?h2 HR2.out rfl ?h3 ?h4 ?_)
        try (case h1 => rfl)
        try (case h2 => rfl)
        case h3 => omega
        case h4 => simp; omega
        intro v2 w2 hown2 hg2
        have hH2 := HO1.out.past HN1.out hg2
        have hb2 : Below w.heap.size w w2 := HAL1.out.grown hg2 HAL1.out.size (fun g hg => (World.ownsRow.lt HN1.out g hg).1)
        have HO2 := Lib.hid hH2
        have HN2 := Lib.hid hown2
        have HB2 := Lib.hid hb2
        clear hown2 hg2 hH2 hb2 HO1 HN1 HAL1 HR2
        go_wp2_with fail
        go_roundw
        case rel => exact ⟨k + 1, by omega, by go_num, by rw [Nat.min_eq_left (by omega : k + 1 ≤ 40), HU.out], Lib.hid (by have h := HO2.out; rw [← HT.out, Nat.min_eq_left (by omega)]; exact h), Lib.hid (by have h := HN2.out; rw [← HT.out, Nat.min_eq_left (by omega)]; exact h), HB2⟩
        case measure => simp [intOf]; omega
      · have e1 : min k 40 = 40 := Nat.min_eq_right (by omega)
        have e2 : min (k + 1) 40 = 40 := Nat.min_eq_right (by omega)
        have HE := Lib.hid (e2.trans e1.symm)
        clear e1 e2
        go_wp2_with fail
        go_roundw
        case rel => exact ⟨k + 1, by omega, by go_num, by rw [HE.out], Lib.hid (by rw [HE.out]; exact HH.out), Lib.hid (by rw [HE.out]; exact HN.out), HBL⟩
        case measure => simp [intOf]; omega
    · obtain rfl : k = l.length := by omega
      go_wp2_with fail
      go_ret2
      have h1 := HH.out
      have h2 := HN.out
      obtain ⟨hl1, A1, c1, hv1, hc1, hm1, hr1⟩ := own_formH h1
      obtain ⟨hl2, A2, c2, hv2, hc2, hm2, hr2⟩ := own_formN h2
      rw [← hl1] at hv1 hc1
      rw [← hl2] at hv2 hc2
      exact ⟨A1, A2, c1, c2, by rw [hv1, hv2]; rfl, hc1, hc2, hm1, hm2, hr1, hr2, HBL.out⟩
end Go.Proofs.YtjcnglkjjhnpbaaGreatDoor
namespace Go.Proofs.YtjcnglkjjhnpbaaGreatDoor
open Go.ChangeShapes Go.WideShapes Go.ChangeAt Go.RowKit

set_option maxRecDepth 100000 in
set_option maxHeartbeats 4000000 in
/-- Dues of terms that aren't Right. -/
theorem TDues_no {K R B : Nat} {P M S F G : Int} (h : ¬ Trm.Right ⟨K, P, R, B, M, S, F, G⟩) (A : Option Addr) (n c : Nat) (w : World) :
    Calls Tryz.prog 11 #[.agg #[.int .u8 (K : Int), .int .i64 P, .int .u32 (R : Int), .int .u8 (B : Int), .int .i64 M, .int .i32 S, .int .i64 F, .int .i64 G], .slice A n c] w (Ret (.tuple #[.slice none 0 0, .iface 45 (.int .i64 1)]) w) := by
  have hT := fun W => TRight_false h W
  unfold Trm.v at hT
  dsimp only at hT
  clear h
  have HQ0 := Lib.hid (Blk.new w 28 #[.int .u8 (K : Int), .int .i64 P, .int .u32 (R : Int), .int .u8 (B : Int), .int .i64 M, .int .i32 S, .int .i64 F, .int .i64 G])
  have HB0 := Lib.hid (b_alloc w (.cells #[.int .u8 (K : Int), .int .i64 P, .int .u32 (R : Int), .int .u8 (B : Int), .int .i64 M, .int .i32 S, .int .i64 F, .int .i64 G] 28))
  go_enter Tryz.func11, Tryz.ntmps11
  obtain ⟨c0, c1, c2, c3, c4, c5, c6, c7⟩ := blk8 HQ0.out
  go_wp2_with fail
  refine (hT _).mono ?_
  rintro e w1 ⟨rfl, hb⟩
  have HB1 := Lib.hid (HB0.out.trans (hb.mono HB0.out.size))
  clear hb c0 c1 c2 c3 c4 c5 c6 c7 HQ0 HB0 hT
  go_wp2_with fail
  go_ret2
  exact ⟨rfl, HB1.out⟩
set_option maxRecDepth 100000 in
set_option maxHeartbeats 4000000 in
/-- Dues at holidays that aren't Right. -/
theorem TDues_hol {K R B : Nat} {P M S F G : Int} (h : Trm.Right ⟨K, P, R, B, M, S, F, G⟩) (A : Option Addr) (n c : Nat) (l : List Int) (w : World) (hR : Rv w w.heap.size A (l.map encH)) (hn : l.length = n) (hm : n ≤ 200) (hl : ∀ v ∈ l, -2147483648 ≤ v ∧ v ≤ 2147483647) (hrt : rightL l = false) :
    Calls Tryz.prog 11 #[.agg #[.int .u8 (K : Int), .int .i64 P, .int .u32 (R : Int), .int .u8 (B : Int), .int .i64 M, .int .i32 S, .int .i64 F, .int .i64 G], .slice A n c] w (Ret (.tuple #[.slice none 0 0, .iface 45 (.int .i64 1)]) w) := by
  have hT := fun W => TRight_true h W
  unfold Trm.v at hT
  dsimp only at hT
  clear h
  have hHR := fun W (hW : Rv W W.heap.size A (l.map encH)) => HRight_any A n c W.heap.size l W hW hn (by omega) hl
  rw [hrt] at hHR
  have HR := Lib.hid hR
  have HQ0 := Lib.hid (Blk.new w 28 #[.int .u8 (K : Int), .int .i64 P, .int .u32 (R : Int), .int .u8 (B : Int), .int .i64 M, .int .i32 S, .int .i64 F, .int .i64 G])
  have HB0 := Lib.hid (b_alloc w (.cells #[.int .u8 (K : Int), .int .i64 P, .int .u32 (R : Int), .int .u8 (B : Int), .int .i64 M, .int .i32 S, .int .i64 F, .int .i64 G] 28))
  clear hR hn hm hl hrt
  go_enter Tryz.func11, Tryz.ntmps11
  obtain ⟨c0, c1, c2, c3, c4, c5, c6, c7⟩ := blk8 HQ0.out
  go_wp2_with fail
  refine (hT _).mono ?_
  rintro e w1 ⟨rfl, hb⟩
  have HB1 := Lib.hid (HB0.out.trans (hb.mono HB0.out.size))
  clear hb c0 c1 c2 c3 c4 c5 c6 c7 HQ0 HB0 hT
  have cH := hHR w1 (rv_later HR.out HB1.out)
  clear hHR
  go_wp2_with fail
  refine cH.mono ?_
  rintro e w2 ⟨rfl, rfl⟩
  clear cH
  go_wp2_with fail
  go_ret2
  exact ⟨rfl, HB1.out⟩
set_option maxRecDepth 100000 in
set_option maxHeartbeats 4000000 in
theorem TDuesL_no {K R B : Nat} {P M S F G : Int} (hi : Trm.In ⟨K, P, R, B, M, S, F, G⟩) (h : ¬ Trm.Right ⟨K, P, R, B, M, S, F, G⟩) (A : Option Addr) (n c : Nat) (l : List UInt8) (w : World) (hR : Rd w w.heap.size A l) (hn : l.length = n) (hm : n ≤ 140737488355328) (hle : Laid w)
    (cA : ∀ W, Below w.heap.size w W → Calls Tryz.prog 7 #[] W (Ret (.bool true) W)) :
    Calls Tryz.prog 3 #[.agg #[.int .u8 (K : Int), .int .i64 P, .int .u32 (R : Int), .int .u8 (B : Int), .int .i64 M, .int .i32 S, .int .i64 F, .int .i64 G], .slice A n c] w (Ret (.bool true) w) := by
  have cO := fun W => own16_any hi W
  have cQ := fun W => QRight_false hi h W
  have cT := fun W => TRight_false h W
  have cD := fun A n c W => TDues_no h A n c W
  unfold Trm.v at cO cT
  unfold Trm.r at cO cQ
  dsimp only at cO cQ cT
  have cF := fun W (hW : Below w.heap.size w W) => Few16_any A n c w.heap.size l 0 (by omega) (by omega) W (hR.below hW) hn hm hW.size
  unfold FewPost at cF
  have HLE := Lib.hid hle
  have HQ0 := Lib.hid (Blk.new w 28 #[.int .u8 (K : Int), .int .i64 P, .int .u32 (R : Int), .int .u8 (B : Int), .int .i64 M, .int .i32 S, .int .i64 F, .int .i64 G])
  have HB0 := Lib.hid (b_alloc w (.cells #[.int .u8 (K : Int), .int .i64 P, .int .u32 (R : Int), .int .u8 (B : Int), .int .i64 M, .int .i32 S, .int .i64 F, .int .i64 G] 28))
  have cA1 := cA _ HB0.out
  clear cA hi h hR hn hm hle
  go_enter Tryz.func3, Tryz.ntmps3
  go_wp2_with fail
  refine cA1.mono ?_
  rintro e w1 ⟨rfl, hb⟩
  have HT1 := Lib.hid (HQ0.out.below hb HQ0.out.lt)
  have HB1 := Lib.hid (HB0.out.trans (hb.mono HB0.out.size))
  obtain ⟨c0, c1, c2, c3, c4, c5, c6, c7⟩ := blk8 HT1.out
  clear hb cA1 HQ0 HB0
  go_wp2_with fail
  refine (cO _).mono ?_
  rintro e w2 ⟨rfl, hb⟩
  have HT2 := Lib.hid (HT1.out.below hb HT1.out.lt)
  have HB2 := Lib.hid (HB1.out.trans (hb.mono HB1.out.size))
  clear hb c0 c1 c2 c3 c4 c5 c6 c7 HT1 HB1 cO
  go_wp2_with fail
  refine (cQ _).mono ?_
  rintro e w3 ⟨rfl, hb⟩
  have HT3 := Lib.hid (HT2.out.below hb HT2.out.lt)
  have HB3 := Lib.hid (HB2.out.trans (hb.mono HB2.out.size))
  clear hb HT2 HB2 cQ
  have cF1 := cF _ HB3.out
  clear cF
  go_wp2_with fail
  refine cF1.mono ?_
  rintro e w4 ⟨A1, A2, e1, e2, rfl, -, -, -, -, -, -, hb⟩
  have HT4 := Lib.hid (HT3.out.below hb HT3.out.lt)
  have HB4 := Lib.hid (HB3.out.trans (hb.mono HB3.out.size))
  clear hb HT3 HB3 cF1
  obtain ⟨c0, c1, c2, c3, c4, c5, c6, c7⟩ := blk8 HT4.out
  go_wp2_with fail
  refine (cD _ _ _ _).mono ?_
  rintro e w5 ⟨rfl, hb⟩
  have HT5 := Lib.hid (HT4.out.below hb HT4.out.lt)
  have HB5 := Lib.hid (HB4.out.trans (hb.mono HB4.out.size))
  clear hb c0 c1 c2 c3 c4 c5 c6 c7 HT4 HB4 cD
  obtain ⟨c0, c1, c2, c3, c4, c5, c6, c7⟩ := blk8 HT5.out
  go_wp2_with fail
  refine (cT _).mono ?_
  rintro e w6 ⟨rfl, hb⟩
  have HB6 := Lib.hid (HB5.out.trans (hb.mono HB5.out.size))
  have HCO := Lib.hid (Code_errno 1 w6 (HLE.out.below HB6.out))
  clear hb c0 c1 c2 c3 c4 c5 c6 c7 HT5 HB5 cT
  go_wp2_with fail
  refine HCO.out.mono ?_
  rintro e w7 ⟨rfl, hb⟩
  have HB7 := Lib.hid (HB6.out.trans (hb.mono HB6.out.size))
  clear hb HB6 HCO
  go_wp2_with fail
  go_ret
  exact ⟨by first | rfl | simp, HB7.out⟩
set_option maxRecDepth 100000 in
set_option maxHeartbeats 4000000 in
theorem TDuesL_yes {K P R B M : Nat} {S F G : Int} (hi : Trm.In ⟨K, P, R, B, M, S, F, G⟩) (h : Trm.Right ⟨K, P, R, B, M, S, F, G⟩) (A : Option Addr) (n c : Nat) (l : List UInt8) (w : World) (hR : Rd w w.heap.size A l) (hn : l.length = n) (hm : n ≤ 140737488355328) (hw : Lens w) (hle : Laid w)
    (cA : ∀ W, Below w.heap.size w W → Calls Tryz.prog 7 #[] W (Ret (.bool true) W)) :
    Calls Tryz.prog 3 #[.agg #[.int .u8 (K : Int), .int .i64 (P : Int), .int .u32 (R : Int), .int .u8 (B : Int), .int .i64 (M : Int), .int .i32 S, .int .i64 F, .int .i64 G], .slice A n c] w (Ret (.bool true) w) := by
  have cO := fun W => own16_any hi W
  have cQ := fun W => QRight_true hi h W
  have cT := fun W => TRight_true h W
  unfold Trm.v at cO cT
  unfold Trm.r at cO cQ
  dsimp only at cO cQ cT
  have hM := h.M
  have hS := h.S
  dsimp only at hM hS
  obtain ⟨y, hy⟩ := lstK_any (K := K) (R := R) (M := M) (P := P) (by omega)
  have cF := fun W (hW : Below w.heap.size w W) => Few16_any A n c w.heap.size l S hS.1 hS.2 W (hR.below hW) hn hm hW.size
  obtain ⟨q, hq⟩ : ∃ q, min n 40 = q := ⟨_, rfl⟩
  rw [hq] at cF
  have hq40 : q ≤ 40 := by omega
  obtain ⟨L, hL⟩ : ∃ L, fewD l S q = L := ⟨_, rfl⟩
  have hLl : L.length = q := by rw [← hL, fewD_len]
  have hLr : rightL L = true := by rw [← hL]; exact few_right l hS.1 hS.2 hq40
  have hLi : ∀ v ∈ L, -2147483648 ≤ v ∧ v ≤ 2147483647 := by rw [← hL]; exact few_in l hS.1 hS.2 hq40
  rw [hL] at cF
  have cD := fun (A1 : Option Addr) (c1 : Nat) (W : World) (hW : Lens W) (hR1 : Rv W W.heap.size A1 (L.map encH)) (hc1 : L.length ≤ c1) => Dues_any h hy A1 L.length c1 L W hW hR1 rfl hc1 hLi hLr
  unfold Trm.v at cD
  dsimp only at cD
  have cRD := fun (A1 : Option Addr) (c1 : Nat) (W : World) (hR1 : Rv W W.heap.size A1 (L.map encN)) => RDues16 h hy A1 L.length c1 L W hR1 rfl (by omega)
  have cOp := fun (A1 : Option Addr) (c1 : Nat) (d : Int) (W : World) (hR1 : Rv W W.heap.size A1 (L.map encH)) => Open9 A1 L.length c1 W.heap.size L d W hR1 rfl (by omega)
  have hOp : ∀ k, k < M → (dayB (dueD L S k) && openL L (dueD L S k)) = true ∧ 0 ≤ dueD L S k ∧ dueD L S k ≤ 3652058 := fun k hk => by
    have h1 := dueD_is (l := L) hS.1 hS.2 (k := k) (by omega) (by omega)
    have h2 := plain_top hS.1 hS.2 (k := (k : Int) + 1) (by omega) (by omega)
    obtain ⟨h3, h4, h5, -⟩ := nextD_in L _ _ rfl _ h1
    refine ⟨?_, by omega, h4⟩
    rw [h5, Bool.and_true]
    unfold dayB
    simp
    omega
  have cH2 := fun (g : Nat) (W : World) (hg : Blk W g 26 #[.int .i32 5, .int .i32 5]) => TDues_hol h (some ⟨g, 0, none⟩) 2 2 [5, 5] W (fun _ => ⟨g, 0, rfl, hg.lt, fun j x hx => by
    rw [hg.cell]
    rcases j with _ | _ | j
    · simpa [encH] using hx
    · simpa [encH] using hx
    · simp at hx⟩) rfl (by decide) (by decide) (by decide)
  obtain ⟨D, hD⟩ : ∃ D, dueD L S = D := ⟨_, rfl⟩
  obtain ⟨Q, hQ⟩ : ∃ Q : Nat → Int, (fun k => paysTo (rowF R y P M) (k + 1)) = Q := ⟨_, rfl⟩
  rw [hD, hQ] at cD cRD
  rw [hD] at hOp
  have hQ64 : ∀ k, k < M → True := fun _ _ => trivial
  unfold FewPost at cF
  unfold DuesPost at cD
  unfold RDPost at cRD
  have HOP := Lib.hid hOp
  have HM := Lib.hid hM
  have HW := Lib.hid hw
  have HLE := Lib.hid hle
  have HCF := Lib.hid cF
  have HCD := Lib.hid cD
  have HCRD := Lib.hid cRD
  have HCOP := Lib.hid cOp
  have HCH2 := Lib.hid cH2
  have HQ0 := Lib.hid (Blk.new w 28 #[.int .u8 (K : Int), .int .i64 (P : Int), .int .u32 (R : Int), .int .u8 (B : Int), .int .i64 (M : Int), .int .i32 S, .int .i64 F, .int .i64 G])
  have HB0 := Lib.hid (b_alloc w (.cells #[.int .u8 (K : Int), .int .i64 (P : Int), .int .u32 (R : Int), .int .u8 (B : Int), .int .i64 (M : Int), .int .i32 S, .int .i64 F, .int .i64 G] 28))
  have cA1 := cA _ HB0.out
  clear cA hi h hR hn hm hw hS hM hy hq hq40 hL hLl hLr hLi hD hQ hQ64 hOp cF cD cRD cOp cH2 hle
  go_enter Tryz.func3, Tryz.ntmps3
  go_wp2_with fail
  refine cA1.mono ?_
  rintro e w1 ⟨rfl, hb⟩
  have HT1 := Lib.hid (HQ0.out.below hb HQ0.out.lt)
  have HB1 := Lib.hid (HB0.out.trans (hb.mono HB0.out.size))
  obtain ⟨c0, c1, c2, c3, c4, c5, c6, c7⟩ := blk8 HT1.out
  clear hb cA1 HQ0 HB0
  go_wp2_with fail
  refine (cO _).mono ?_
  rintro e w2 ⟨rfl, hb⟩
  have HT2 := Lib.hid (HT1.out.below hb HT1.out.lt)
  have HB2 := Lib.hid (HB1.out.trans (hb.mono HB1.out.size))
  clear hb c0 c1 c2 c3 c4 c5 c6 c7 HT1 HB1
  go_wp2_with fail
  refine (cQ _).mono ?_
  rintro e w3 ⟨rfl, hb⟩
  have HT3 := Lib.hid (HT2.out.below hb HT2.out.lt)
  have HB3 := Lib.hid (HB2.out.trans (hb.mono HB2.out.size))
  obtain ⟨c0, c1, c2, c3, c4, c5, c6, c7⟩ := blk8 HT3.out
  clear hb HT2 HB2 cQ
  have cF1 := HCF.out _ HB3.out
  clear HCF
  go_wp2_with fail
  refine cF1.mono ?_
  rintro e w4 ⟨A1, A2, ca1, ca2, rfl, he1, he2, -, -, hr1, hr2, hb⟩
  have HT4 := Lib.hid (HT3.out.below hb HT3.out.lt)
  have HB4 := Lib.hid (HB3.out.trans (hb.mono HB3.out.size))
  have cD1 := HCD.out A1 ca1 _ (HW.out.below HB4.out) hr1 he1
  have HH4 := Lib.hid hr1
  have HX4 := Lib.hid hr2
  clear hb c0 c1 c2 c3 c4 c5 c6 c7 HT3 HB3 cF1 HCD hr1 hr2
  obtain ⟨c0, c1, c2, c3, c4, c5, c6, c7⟩ := blk8 HT4.out
  go_wp2_with fail
  refine cD1.mono ?_
  rintro e w5 ⟨g, rfl, hg, hb, hk⟩
  have HT5 := Lib.hid (HT4.out.below hb HT4.out.lt)
  have HB5 := Lib.hid (HB4.out.trans (hb.mono HB4.out.size))
  have HG5 := Lib.hid hk
  have HH5 := Lib.hid (rv_later HH4.out hb)
  have HX5 := Lib.hid (rv_later HX4.out hb)
  clear hb c0 c1 c2 c3 c4 c5 c6 c7 HT4 HB4 cD1 hk hg HH4 HX4
  obtain ⟨c0, c1, c2, c3, c4, c5, c6, c7⟩ := blk8 HT5.out
  go_wp2_with fail
  refine (cO _).mono ?_
  rintro e w6 ⟨rfl, hb⟩
  have HT6 := Lib.hid (HT5.out.below hb HT5.out.lt)
  have HB6 := Lib.hid (HB5.out.trans (hb.mono HB5.out.size))
  have HG6 := Lib.hid (HG5.out.below hb HG5.out.lt)
  have HH6 := Lib.hid (rv_later HH5.out hb)
  have HX6 := rv_later HX5.out hb
  have cRD1 := HCRD.out A2 ca2 _ HX6
  clear hb c0 c1 c2 c3 c4 c5 c6 c7 HT5 HB5 HG5 HH5 HX5 HX6 cO HCRD
  go_wp2_with fail
  refine cRD1.mono ?_
  rintro e w7 ⟨A3, c3, rfl, hr3, hb⟩
  have HT7 := Lib.hid (HT6.out.below hb HT6.out.lt)
  have HB7 := Lib.hid (HB6.out.trans (hb.mono HB6.out.size))
  have HG7 := Lib.hid (HG6.out.below hb HG6.out.lt)
  have HH7 := Lib.hid (rv_later HH6.out hb)
  have HR7 := Lib.hid hr3
  clear hb HT6 HB6 HG6 HH6 hr3 cRD1
  obtain ⟨c0, c1, c2, c3, c4, c5, c6, c7⟩ := blk8 HT7.out
  go_wp2_with fail
  refine (cT _).mono ?_
  rintro e w8 ⟨rfl, hb⟩
  have HT8 := Lib.hid (HT7.out.below hb HT7.out.lt)
  have HB8 := Lib.hid (HB7.out.trans (hb.mono HB7.out.size))
  have HG8 := Lib.hid (HG7.out.below hb HG7.out.lt)
  have HH8 := Lib.hid (rv_later HH7.out hb)
  have HR8 := Lib.hid ((HR7.out.below hb).more hb.size)
  clear hb HT7 HB7 HG7 HH7 HR7 cT c0 c1 c2 c3 c4 c5 c6 c7
  obtain ⟨b, hb⟩ : ∃ b, w.heap.size = b := ⟨_, rfl⟩
  rw [hb] at HT8 ⊢
  clear hb
  go_wp2_with fail
  go_loopw [12, 13, 71] (fun _ _ i wr => ∃ (k : Nat), k ≤ M ∧ i = .int .i64 k ∧ Hid (Below w8.heap.size w8 wr)) (fun _ _ i _ => M - (intOf i).toNat)
  case atStart => exact ⟨0, Nat.zero_le _, rfl, Lib.hid (Below.refl _ _)⟩
  case round =>
    obtain ⟨k, hk, rfl, HBk⟩ := hrel
    by_cases hlt : k < M
    · have HGk := Lib.hid (HG8.out.below HBk.out HG8.out.lt)
      have HRk := (HR8.out.below HBk.out).more HBk.out.size
      have hkl : k < (duesL D Q M).length := by rw [duesL_len]; exact hlt
      obtain ⟨b9, o9, hA9, hb9, hc9⟩ := HRk.at_ hkl
      have hv9 : (duesL D Q M)[k] = (D k, Q k) := by simp [duesL]
      rw [hv9] at hc9
      have r0 := hc9 0 _ rfl
      have r1 := hc9 1 _ rfl
      obtain ⟨g0, g1⟩ := pairA_at (fun k => (D k, Q k)) hlt
      have d0 : _ = some (Value.int .i32 (D k)) := (HGk.out.cell (k * 2)).trans g0
      have d1 : _ = some (Value.int .i64 (Q k)) := (HGk.out.cell (k * 2 + 1)).trans g1
      obtain ⟨hop, hx0, hx1⟩ := HOP.out k hlt
      have cOp1 := HCOP.out A1 ca1 (D k)
      rw [hop] at cOp1
      obtain ⟨X, hX⟩ : ∃ X, D k = X := ⟨_, rfl⟩
      obtain ⟨Y, hY⟩ : ∃ Y, Q k = Y := ⟨_, rfl⟩
      rw [hX] at d0 r0 cOp1 hx0 hx1
      rw [hY] at d1 r1
      have hM480 := HM.out
      have HN := Lib.hid (Blk.new wr 50 #[.int .i32 X, .int .i64 Y])
      have hba := b_alloc wr (.cells #[.int .i32 X, .int .i64 Y] 50)
      have HBa := Lib.hid (HBk.out.trans (hba.mono HBk.out.size))
      have r0' : (wr.alloc (.cells #[.int .i32 X, .int .i64 Y] 50)).cell? ⟨b9, o9 + k * 2, none⟩ = some (.int .i64 X) := (hba.cell (p := ⟨b9, o9 + k * 2, none⟩) hb9).trans r0
      have r1' : (wr.alloc (.cells #[.int .i32 X, .int .i64 Y] 50)).cell? ⟨b9, o9 + k * 2 + 1, none⟩ = some (.int .i64 Y) := (hba.cell (p := ⟨b9, o9 + k * 2 + 1, none⟩) hb9).trans r1
      have HRR := Lib.hid (And.intro (show b9 < (wr.alloc (.cells #[.int .i32 X, .int .i64 Y] 50)).heap.size from Nat.lt_of_lt_of_le hb9 hba.size) (And.intro r0' r1'))
      have HCO := Lib.hid cOp1
      subst hA9
      clear g0 g1 hX hY hba r0 r1 r0' r1' hc9 hv9 hkl HRk hop cOp1
      go_wp2_with fail
      obtain ⟨W, hW⟩ : ∃ W, wr.alloc (.cells #[.int .i32 X, .int .i64 Y] 50) = W := ⟨_, rfl⟩
      obtain ⟨z, hz⟩ : ∃ z, wr.heap.size = z := ⟨_, rfl⟩
      rw [hW] at HN HBa HRR ⊢
      rw [hz] at HN ⊢
      clear hW hz d0 d1 hb9
      have LD : ∀ W', Below W.heap.size W W' → (Instr.loadAt 26 (.pointer (some ⟨z, 0, none⟩))).run Tryz.prog W' = .ok (.int .i32 X) W' := fun W' hb => by
        have c0 := (HN.out.below hb HN.out.lt).cell 0
        simp at c0
        go_simp
      have LS : ∀ W', Below W.heap.size W W' → (Instr.loadAt 22 (.pointer (some ⟨z, 1, none⟩))).run Tryz.prog W' = .ok (.int .i64 Y) W' := fun W' hb => by
        have c0 := (HN.out.below hb HN.out.lt).cell 1
        simp at c0
        go_simp
      have LX : ∀ W', Below W.heap.size W W' → (Instr.loadAt 2 (.pointer (some ⟨b9, o9 + k * 2, none⟩))).run Tryz.prog W' = .ok (.int .i64 X) W' := fun W' hb => by
        have c0 := (hb.cell (p := ⟨b9, o9 + k * 2, none⟩) HRR.out.1).trans HRR.out.2.1
        go_simp
      have LY : ∀ W', Below W.heap.size W W' → (Instr.loadAt 2 (.pointer (some ⟨b9, o9 + k * 2 + 1, none⟩))).run Tryz.prog W' = .ok (.int .i64 Y) W' := fun W' hb => by
        have c0 := (hb.cell (p := ⟨b9, o9 + k * 2 + 1, none⟩) HRR.out.1).trans HRR.out.2.2
        go_simp
      have cOP : ∀ W', Below W.heap.size W W' → Calls Tryz.prog 15 #[.slice A1 L.length ca1, .int .i32 X] W' fun e w' => e = .returned (.bool true) ∧ Below W'.heap.size W' w' := fun W' hb => (HCO.out W' (rv_later HH8.out (HBa.out.trans (hb.mono HBa.out.size)))).mono fun e w' ⟨h1, h2⟩ => ⟨h1, by rw [h2]; exact Below.refl _ _⟩
      have hxw : IntKind.i64.wrap X = X := by rw [IntKind.wrap_i64]; omega
      refine wp_region_flow [some 76, some 77, some 78, some 79, some 80, some 81, some 82, some 83, some 84, some 85, some 86, some 87, some 88, some 89, some 90, some 91, some 92, some 93, some 94, some 95, some 96, some 97, some 98, some 99, some 100, some 101] (fun i => ([.is (.pointer (some ⟨z, 0, none⟩)), .is (.int .i32 X), .is (.int .i64 X), .is (.slice (some ⟨b9, o9, none⟩) M c3), .is (.int .i64 ((k : Nat) : Int)), .is (.pointer (some ⟨b9, o9 + k * 2, none⟩)), .is (.pointer (some ⟨b9, o9 + k * 2, none⟩)), .is (.int .i64 X), .is (.bool false), .is (.bool false), .is (.pointer (some ⟨z, 1, none⟩)), .is (.int .i64 Y), .is (.slice (some ⟨b9, o9, none⟩) M c3), .is (.int .i64 ((k : Nat) : Int)), .is (.pointer (some ⟨b9, o9 + k * 2, none⟩)), .is (.pointer (some ⟨b9, o9 + k * 2 + 1, none⟩)), .is (.int .i64 Y), .is (.bool false), .is (.bool false), .is (.bool false), .is (.slice A1 L.length ca1), .is (.pointer (some ⟨z, 0, none⟩)), .is (.int .i32 X), .is (.bool true), .is (.bool false), .is (.bool false)] : List Flw).getD i .any) (by kernel_rfl) (by kernel_rfl) rfl ?_ ?_
      · clear HGk HBk HBa HN HRR HCO
        refine ⟨step_free rfl (fun aF wF hs hb => ?_), ?_⟩
        · obtain ⟨x0, -⟩ := hs
          have e0 : aF.eval (.tmp 13) = .pointer (some ⟨z, 0, none⟩) := x0
          refine opC_value (v := .pointer (some ⟨z, 0, none⟩)) ?_ ⟨rfl, below_same wF⟩
          have t0 := ev_of e0
          simp [execOp, go_sem, t0]
        refine ⟨step_free rfl (fun aF wF hs hb => ?_), ?_⟩
        · obtain ⟨x0, -⟩ := hs
          have e0 : aF.eval (.tmp 76) = .pointer (some ⟨z, 0, none⟩) := x0
          exact opC_load e0 (LD wF hb) ⟨rfl, below_same wF⟩
        refine ⟨step_free rfl (fun aF wF hs hb => ?_), ?_⟩
        · obtain ⟨x0, -⟩ := hs
          have e0 : aF.eval (.tmp 77) = .int .i32 X := x0
          refine opC_value (v := .int .i64 X) ?_ ⟨rfl, below_same wF⟩
          simp [execOp, go_sem, ev_of e0, hxw]
        refine ⟨step_free rfl (fun aF wF hs hb => ?_), ?_⟩
        · obtain ⟨x0, -⟩ := hs
          have e0 : aF.eval (.tmp 11) = .slice (some ⟨b9, o9, none⟩) M c3 := x0
          exact opC_move e0 ⟨rfl, below_same wF⟩
        refine ⟨step_free rfl (fun aF wF hs hb => ?_), ?_⟩
        · obtain ⟨x0, -⟩ := hs
          have e0 : aF.eval (.tmp 12) = .int .i64 ((k : Nat) : Int) := x0
          exact opC_move e0 ⟨rfl, below_same wF⟩
        refine ⟨step_free rfl (fun aF wF hs hb => ?_), ?_⟩
        · obtain ⟨x0, x1, -⟩ := hs
          have e0 : aF.eval (.tmp 79) = .slice (some ⟨b9, o9, none⟩) M c3 := x0
          have e1 : aF.eval (.tmp 80) = .int .i64 ((k : Nat) : Int) := x1
          refine opC_value (v := .pointer (some ⟨b9, o9 + k * 2, none⟩)) ?_ ⟨rfl, below_same wF⟩
          have t0 := ev_of e0
          have t1 := ev_of e1
          simp [execOp, go_sem, t0, t1]
          exact fun hx => absurd hx (by omega)
        refine ⟨step_free rfl (fun aF wF hs hb => ?_), ?_⟩
        · obtain ⟨x0, -⟩ := hs
          have e0 : aF.eval (.tmp 81) = .pointer (some ⟨b9, o9 + k * 2, none⟩) := x0
          refine opC_value (v := .pointer (some ⟨b9, o9 + k * 2, none⟩)) ?_ ⟨rfl, below_same wF⟩
          have t0 := ev_of e0
          simp [execOp, go_sem, t0]
        refine ⟨step_free rfl (fun aF wF hs hb => ?_), ?_⟩
        · obtain ⟨x0, -⟩ := hs
          have e0 : aF.eval (.tmp 82) = .pointer (some ⟨b9, o9 + k * 2, none⟩) := x0
          exact opC_load e0 (LX wF hb) ⟨rfl, below_same wF⟩
        refine ⟨step_free rfl (fun aF wF hs hb => ?_), ?_⟩
        · obtain ⟨x0, x1, -⟩ := hs
          have e0 : aF.eval (.tmp 78) = .int .i64 X := x0
          have e1 : aF.eval (.tmp 83) = .int .i64 X := x1
          refine opC_value (v := .bool false) ?_ ⟨rfl, below_same wF⟩
          have t0 := ev_of e0
          have t1 := ev_of e1
          simp [execOp, go_sem, t0, t1]
        refine ⟨step_free rfl (fun aF wF hs hb => ?_), ?_⟩
        · obtain ⟨x0, -⟩ := hs
          have e0 : aF.eval (.tmp 84) = .bool false := x0
          exact opC_move e0 ⟨rfl, below_same wF⟩
        refine ⟨step_yes 9 85 rfl rfl (fun _ _ h => h) (fun aF wF hs hb => ?_), ?_⟩
        · obtain ⟨x0, -⟩ := hs
          have e0 : aF.eval (.tmp 13) = .pointer (some ⟨z, 0, none⟩) := x0
          refine opC_value (v := .pointer (some ⟨z, 1, none⟩)) ?_ ⟨rfl, below_same wF⟩
          have t0 := ev_of e0
          simp [execOp, go_sem, t0]
        refine ⟨step_yes 9 85 rfl rfl (fun _ _ h => h) (fun aF wF hs hb => ?_), ?_⟩
        · obtain ⟨x0, -⟩ := hs
          have e0 : aF.eval (.tmp 86) = .pointer (some ⟨z, 1, none⟩) := x0
          exact opC_load e0 (LS wF hb) ⟨rfl, below_same wF⟩
        refine ⟨step_yes 9 85 rfl rfl (fun _ _ h => h) (fun aF wF hs hb => ?_), ?_⟩
        · obtain ⟨x0, -⟩ := hs
          have e0 : aF.eval (.tmp 11) = .slice (some ⟨b9, o9, none⟩) M c3 := x0
          exact opC_move e0 ⟨rfl, below_same wF⟩
        refine ⟨step_yes 9 85 rfl rfl (fun _ _ h => h) (fun aF wF hs hb => ?_), ?_⟩
        · obtain ⟨x0, -⟩ := hs
          have e0 : aF.eval (.tmp 12) = .int .i64 ((k : Nat) : Int) := x0
          exact opC_move e0 ⟨rfl, below_same wF⟩
        refine ⟨step_yes 9 85 rfl rfl (fun _ _ h => h) (fun aF wF hs hb => ?_), ?_⟩
        · obtain ⟨x0, x1, -⟩ := hs
          have e0 : aF.eval (.tmp 88) = .slice (some ⟨b9, o9, none⟩) M c3 := x0
          have e1 : aF.eval (.tmp 89) = .int .i64 ((k : Nat) : Int) := x1
          refine opC_value (v := .pointer (some ⟨b9, o9 + k * 2, none⟩)) ?_ ⟨rfl, below_same wF⟩
          have t0 := ev_of e0
          have t1 := ev_of e1
          simp [execOp, go_sem, t0, t1]
          exact fun hx => absurd hx (by omega)
        refine ⟨step_yes 9 85 rfl rfl (fun _ _ h => h) (fun aF wF hs hb => ?_), ?_⟩
        · obtain ⟨x0, -⟩ := hs
          have e0 : aF.eval (.tmp 90) = .pointer (some ⟨b9, o9 + k * 2, none⟩) := x0
          refine opC_value (v := .pointer (some ⟨b9, o9 + k * 2 + 1, none⟩)) ?_ ⟨rfl, below_same wF⟩
          have t0 := ev_of e0
          simp [execOp, go_sem, t0]
        refine ⟨step_yes 9 85 rfl rfl (fun _ _ h => h) (fun aF wF hs hb => ?_), ?_⟩
        · obtain ⟨x0, -⟩ := hs
          have e0 : aF.eval (.tmp 91) = .pointer (some ⟨b9, o9 + k * 2 + 1, none⟩) := x0
          exact opC_load e0 (LY wF hb) ⟨rfl, below_same wF⟩
        refine ⟨step_yes 9 85 rfl rfl (fun _ _ h => h) (fun aF wF hs hb => ?_), ?_⟩
        · obtain ⟨x0, x1, -⟩ := hs
          have e0 : aF.eval (.tmp 87) = .int .i64 Y := x0
          have e1 : aF.eval (.tmp 92) = .int .i64 Y := x1
          refine opC_value (v := .bool false) ?_ ⟨rfl, below_same wF⟩
          have t0 := ev_of e0
          have t1 := ev_of e1
          simp [execOp, go_sem, t0, t1]
        refine ⟨step_free rfl (fun aF wF hs hb => ?_), ?_⟩
        · obtain ⟨x0, x1, -⟩ := hs
          have e0 : aF.eval (.tmp 85) = .bool false := x0
          have e1 : aF.eval (.tmp 93) = .bool false := x1
          refine opC_value (v := .bool false) ?_ ⟨rfl, below_same wF⟩
          have t0 := ev_of e0
          have t1 := ev_of e1
          simp [execOp, go_sem, t0, t1]
        refine ⟨step_free rfl (fun aF wF hs hb => ?_), ?_⟩
        · obtain ⟨x0, -⟩ := hs
          have e0 : aF.eval (.tmp 94) = .bool false := x0
          exact opC_move e0 ⟨rfl, below_same wF⟩
        refine ⟨step_yes 19 95 rfl rfl (fun _ _ h => h) (fun aF wF hs hb => ?_), ?_⟩
        · obtain ⟨x0, -⟩ := hs
          have e0 : aF.eval (.tmp 7) = .slice A1 L.length ca1 := x0
          exact opC_move e0 ⟨rfl, below_same wF⟩
        refine ⟨step_yes 19 95 rfl rfl (fun _ _ h => h) (fun aF wF hs hb => ?_), ?_⟩
        · obtain ⟨x0, -⟩ := hs
          have e0 : aF.eval (.tmp 13) = .pointer (some ⟨z, 0, none⟩) := x0
          refine opC_value (v := .pointer (some ⟨z, 0, none⟩)) ?_ ⟨rfl, below_same wF⟩
          have t0 := ev_of e0
          simp [execOp, go_sem, t0]
        refine ⟨step_yes 19 95 rfl rfl (fun _ _ h => h) (fun aF wF hs hb => ?_), ?_⟩
        · obtain ⟨x0, -⟩ := hs
          have e0 : aF.eval (.tmp 97) = .pointer (some ⟨z, 0, none⟩) := x0
          exact opC_load e0 (LD wF hb) ⟨rfl, below_same wF⟩
        refine ⟨step_yes 19 95 rfl rfl (fun _ _ h => h) (fun aF wF hs hb => ?_), ?_⟩
        · obtain ⟨x0, x1, -⟩ := hs
          have e0 : aF.eval (.tmp 96) = .slice A1 L.length ca1 := x0
          have e1 : aF.eval (.tmp 98) = .int .i32 X := x1
          exact opC_call (args := #[.slice A1 L.length ca1, .int .i32 X]) (enters9 Tryz.func15 (by kernel_rfl) rfl) (by simp [e0, e1]) (cOP wF hb) (fun _ h => ⟨rfl, h⟩)
        refine ⟨step_yes 19 95 rfl rfl (fun _ _ h => h) (fun aF wF hs hb => ?_), ?_⟩
        · obtain ⟨x0, -⟩ := hs
          have e0 : aF.eval (.tmp 99) = .bool true := x0
          refine opC_value (v := .bool false) ?_ ⟨rfl, below_same wF⟩
          have t0 := ev_of e0
          simp [execOp, go_sem, t0]
        refine ⟨step_free rfl (fun aF wF hs hb => ?_), ?_⟩
        · obtain ⟨x0, x1, -⟩ := hs
          have e0 : aF.eval (.tmp 95) = .bool false := x0
          have e1 : aF.eval (.tmp 100) = .bool false := x1
          refine opC_value (v := .bool false) ?_ ⟨rfl, below_same wF⟩
          have t0 := ev_of e0
          have t1 := ev_of e1
          simp [execOp, go_sem, t0, t1]
        exact trivial
      · intro f w9 hf hb9
        have h101 : f 25 = .bool false := hf 25 101 rfl
        have HB9 := Lib.hid (HBa.out.trans (hb9.mono HBa.out.size))
        simp only [putF, Act.put, List.setIfInBounds_toArray, List.set_cons_zero, List.set_cons_succ]
        rw [h101]
        clear hf h101 hb9 LD LS LX LY cOP HGk HBk HN HBa HRR HCO hxw
        go_wp2_with fail
        go_roundw
        case rel => exact ⟨k + 1, by omega, by go_num, HB9⟩
        case measure => simp [intOf]; omega
    · have hkM : k = M := by omega
      subst hkM
      have HTk := Lib.hid (HT8.out.below HBk.out HT8.out.lt)
      have HBw := Lib.hid (HB8.out.trans (HBk.out.mono HB8.out.size))
      have hba := b_alloc wr (.cells #[.int .i32 5, .int .i32 5] 26)
      have HTa := Lib.hid (HTk.out.below hba HTk.out.lt)
      have HBa := Lib.hid (HBw.out.trans (hba.mono HBw.out.size))
      have cHH := HCH2.out wr.heap.size _ (Blk.new wr 26 #[.int .i32 5, .int .i32 5])
      obtain ⟨c0, c1, c2, c3, c4, c5, c6, c7⟩ := blk8 HTk.out
      clear hba HTk HBk HBw
      go_wp2_with fail
      refine cHH.mono ?_
      rintro e w9 ⟨rfl, hb⟩
      have HB9 := Lib.hid (HBa.out.trans (hb.mono HBa.out.size))
      have HCO := Lib.hid (Code_errno 1 w9 (HLE.out.below HB9.out))
      clear hb c0 c1 c2 c3 c4 c5 c6 c7 HTa HBa cHH
      go_wp2_with fail
      refine HCO.out.mono ?_
      rintro e w10 ⟨rfl, hb⟩
      have HB10 := Lib.hid (HB9.out.trans (hb.mono HB9.out.size))
      clear hb HB9 HCO
      go_wp2_with fail
      go_ret
      exact ⟨by first | rfl | simp, HB10.out⟩
theorem TDuesL_any {t : Trm} (hi : t.In) (A : Option Addr) (n c : Nat) (l : List UInt8) (w : World) (hR : Rd w w.heap.size A l) (hn : l.length = n) (hm : n ≤ 140737488355328) (hw : Lens w) (hp : Pows w) (hle : Laid w)
    (m : Int) (hx : w.cell? ⟨5, 0, none⟩ = some (.int .i64 m)) (te : TypeId) (pe : Value) (he : w.cell? ⟨1, 0, none⟩ = some (.iface te pe)) :
    Calls Tryz.prog 3 #[t.v, .slice A n c] w (Ret (.bool true) w) := by
  have cA : ∀ W, Below w.heap.size w W → Calls Tryz.prog 7 #[] W (Ret (.bool true) W) := fun W hb =>
    awake16 W (hw.below hb) (hp.below hb) m ((hb.cell (block_lt_of_cell hx)).trans hx) te pe ((hb.cell (block_lt_of_cell he)).trans he)
  obtain ⟨K, P, R, B, M, S, F, G⟩ := t
  by_cases h : Trm.Right ⟨K, P, R, B, M, S, F, G⟩
  · have hP := h.P
    have hM := h.M
    dsimp only at hP hM
    obtain ⟨P, rfl⟩ : ∃ n : Nat, P = n := ⟨P.toNat, by omega⟩
    obtain ⟨M, rfl⟩ : ∃ n : Nat, M = n := ⟨M.toNat, by omega⟩
    exact TDuesL_yes hi h A n c l w hR hn hm hw hle cA
  · exact TDuesL_no hi h A n c l w hR hn hm hle cA
end Go.Proofs.YtjcnglkjjhnpbaaGreatDoor
