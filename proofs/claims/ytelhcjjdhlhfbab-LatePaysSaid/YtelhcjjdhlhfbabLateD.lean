/-
  late: Bucket, Name; the document's Behind, Bucket; the law's few. Conditions: the rows are there.
-/
import Derived.Test.YtelhcjjdhlhfbabLateC
namespace Go.Proofs.Ytelhcjjdhlhfbab
open Go.ChangeShapes Go.WideShapes Go.ChangeAt Go.RowKit

set_option maxRecDepth 20000 in
set_option maxHeartbeats 1000000 in
theorem RBehind_any (A : Option Addr) (n c B : Nat) (l : List (Int × Int)) (p t : Int) (w : World) (hR : Rs refT w B A l) (hn : l.length = n) (hm : n ≤ maxLen) (hB : B ≤ w.heap.size) (hI : ∀ u ∈ l, -9223372036854775808 ≤ u.2 - p ∧ u.2 - p ≤ 9223372036854775807) :
    Calls Try.prog 14 #[.slice A n c, .int .i64 p, .int .i64 t] w (Ret (.int .i64 (behD l p t)) w) := by
  subst hn
  have HR := Lib.hid hR
  have HI := Lib.hid hI
  unfold maxLen at hm
  clear hR hI
  go_enter Try.func14, Try.ntmps14
  go_wp2_with fail
  go_loopw [7, 12] (fun m i wr => ∃ k : Nat, k ≤ l.length ∧ i = .int .i64 k ∧ m = .int .i64 (behD (l.take k) p t) ∧ Hid (Below w.heap.size w wr)) (fun _ i _ => l.length - (intOf i).toNat)
  case atStart => exact ⟨0, Nat.zero_le _, rfl, rfl, Lib.hid (Below.refl _ _)⟩
  case round =>
    obtain ⟨k, hk, rfl, rfl, HBL⟩ := hrel
    by_cases hlt : k < l.length
    · obtain ⟨b1, o1, rfl, hb1, c0, c1⟩ := HR.out.ref hlt
      have d0 := (HBL.out.cell (p := ⟨b1, o1 + k * 2, none⟩) (by exact Nat.lt_of_lt_of_le hb1 hB)).trans c0
      have d1 := (HBL.out.cell (p := ⟨b1, o1 + k * 2 + 1, none⟩) (by exact Nat.lt_of_lt_of_le hb1 hB)).trans c1
      obtain ⟨y0, y1⟩ := HI.out _ (List.getElem_mem hlt)
      have hs := behD_snoc (l.take k) l[k] p t
      rw [← List.take_succ_eq_append_getElem hlt] at hs
      obtain ⟨x, hx⟩ : ∃ x, (l[k]).1 = x := ⟨_, rfl⟩
      obtain ⟨y, hy⟩ : ∃ y, (l[k]).2 = y := ⟨_, rfl⟩
      obtain ⟨M, hM⟩ : ∃ M, behD (l.take k) p t = M := ⟨_, rfl⟩
      rw [hx] at d0
      rw [hy] at d1 y0 y1
      rw [hx, hy, hM] at hs
      rw [hM]
      have HS := Lib.hid hs
      have HAL := Lib.hid (HBL.out.alloc HBL.out.size (.cells #[.int .i64 x, .int .i64 y] 48))
      clear hx hy c0 c1 hs hM
      by_cases hxt : x < t
      · by_cases hc : M < y - p
        · have HE := Lib.hid (HS.out.trans (if_pos ⟨hxt, y0, y1, hc⟩))
          go_wp2_with fail
          all_goals first | (exfalso; omega) | skip
          all_goals go_roundw
          case rel => exact ⟨k + 1, by omega, by go_num, by rw [HE.out], HAL⟩
          case measure => simp [intOf]; omega
        · have HE := Lib.hid (HS.out.trans (if_neg (fun h => hc h.2.2.2)))
          go_wp2_with fail
          all_goals first | (exfalso; omega) | skip
          all_goals go_roundw
          case rel => exact ⟨k + 1, by omega, by go_num, by rw [HE.out], HAL⟩
          case measure => simp [intOf]; omega
      · have HE := Lib.hid (HS.out.trans (if_neg (fun h => hxt h.1)))
        go_wp2_with fail
        all_goals go_roundw
        case rel => exact ⟨k + 1, by omega, by go_num, by rw [HE.out], HAL⟩
        case measure => simp [intOf]; omega
    · have HE := Lib.hid (show l.take k = l from List.take_of_length_le (by omega))
      go_wp2_with fail
      go_ret
      exact ⟨by rw [HE.out]; rfl, HBL.out⟩
/-- The bucket of so many days. -/
def bucD (d : Int) : Nat := if d ≤ 0 then 0 else if d < 30 then 1 else if d < 60 then 2 else if d < 90 then 3 else 4
theorem bucD_mono {a b : Int} (h : a ≤ b) : bucD a ≤ bucD b := by
  unfold bucD
  repeat' split
  all_goals omega
theorem bucD_le (a : Int) : bucD a ≤ 4 := by
  unfold bucD
  repeat' split
  all_goals omega
set_option maxRecDepth 20000 in
theorem Bucket_any (d : Int) (w : World) : Calls Try.prog 15 #[.int .i64 d] w fun e w' => e = .returned (.int .u8 (bucD d : Nat)) ∧ w = w' := by
  unfold bucD
  by_cases h0 : d ≤ 0
  · rw [if_pos h0]
    go_enter Try.func15, Try.ntmps15
    go_wp2_with fail
    go_ret
    exact ⟨rfl, rfl⟩
  rw [if_neg h0]
  by_cases h1 : d < 30
  · rw [if_pos h1]
    go_enter Try.func15, Try.ntmps15
    go_wp2_with fail
    go_ret
    exact ⟨rfl, rfl⟩
  rw [if_neg h1]
  by_cases h2 : d < 60
  · rw [if_pos h2]
    go_enter Try.func15, Try.ntmps15
    go_wp2_with fail
    go_ret
    exact ⟨rfl, rfl⟩
  rw [if_neg h2]
  by_cases h3 : d < 90
  · rw [if_pos h3]
    go_enter Try.func15, Try.ntmps15
    go_wp2_with fail
    go_ret
    exact ⟨rfl, rfl⟩
  rw [if_neg h3]
  go_enter Try.func15, Try.ntmps15
  go_wp2_with fail
  go_ret
  exact ⟨rfl, rfl⟩
set_option maxRecDepth 20000 in
theorem RBucket_any (d : Int) (hd : d ≤ 9223372036854775807) (w : World) : Calls Try.prog 16 #[.int .i64 d] w fun e w' => e = .returned (.int .u8 (bucD d : Nat)) ∧ w = w' := by
  by_cases h0 : d ≤ 0
  · rw [show bucD d = 0 by unfold bucD; rw [if_pos h0]]
    go_enter Try.func16, Try.ntmps16
    go_wp2_with fail
    go_ret
    exact ⟨rfl, rfl⟩
  · obtain ⟨q, hq⟩ : ∃ q, d / 30 = q := ⟨_, rfl⟩
    have h1 : 0 ≤ d := by omega
    have hb : ((bucD d : Nat) : Int) = min (1 + q) 4 := by
      unfold bucD
      rw [if_neg h0]
      repeat' split
      all_goals omega
    rw [hb]
    have q0 : 0 ≤ q := by omega
    have q1 : q ≤ 307445734561825860 := by omega
    clear hb
    by_cases h4 : 1 + q ≤ 4
    · rw [Int.min_eq_left h4]
      go_enter Try.func16, Try.ntmps16
      go_wp2_with fail
      all_goals first | (exfalso; omega) | skip
      all_goals go_ret
      all_goals exact ⟨by first | rfl | (apply ret_int; omega), rfl⟩
    · rw [Int.min_eq_right (by omega)]
      go_enter Try.func16, Try.ntmps16
      go_wp2_with fail
      all_goals first | (exfalso; omega) | skip
      all_goals go_ret
      all_goals exact ⟨by first | rfl | (apply ret_int; omega), rfl⟩
def nameD (k : Nat) : ByteArray := if k = 0 then ⟨#[99, 117, 114, 114, 101, 110, 116]⟩ else if k = 1 then ⟨#[103, 114, 97, 99, 101]⟩ else if k = 2 then ⟨#[116, 104, 105, 114, 116, 121]⟩ else if k = 3 then ⟨#[115, 105, 120, 116, 121]⟩ else if k = 4 then ⟨#[110, 105, 110, 101, 116, 121]⟩ else ⟨#[]⟩
set_option maxRecDepth 20000 in
theorem Name_any (k : Nat) (w : World) : Calls Try.prog 17 #[.int .u8 (k : Int)] w fun e w' => e = .returned (.string (nameD k)) ∧ w = w' := by
  by_cases h : k ≤ 4
  · rcases (show k = 0 ∨ k = 1 ∨ k = 2 ∨ k = 3 ∨ k = 4 by omega) with rfl | rfl | rfl | rfl | rfl
    all_goals
      clear h
      go_enter Try.func17, Try.ntmps17
      go_wp2_with fail
      go_ret
      exact ⟨rfl, rfl⟩
  · rw [show nameD k = ⟨#[]⟩ by unfold nameD; rw [if_neg (by omega), if_neg (by omega), if_neg (by omega), if_neg (by omega), if_neg (by omega)]]
    have j0 : ((k : Int) == 0) = false := by rw [beq_eq_false_iff_ne]; omega
    have j1 : ((k : Int) == 1) = false := by rw [beq_eq_false_iff_ne]; omega
    have j2 : ((k : Int) == 2) = false := by rw [beq_eq_false_iff_ne]; omega
    have j3 : ((k : Int) == 3) = false := by rw [beq_eq_false_iff_ne]; omega
    have j4 : ((k : Int) == 4) = false := by rw [beq_eq_false_iff_ne]; omega
    clear h
    go_enter Try.func17, Try.ntmps17
    go_wp2_with fail
    go_ret
    exact ⟨rfl, rfl⟩
/-- The example's rows. -/
def exD : List (Int × Int) := [(10, 100), (40, 200)]
theorem exD_rows (w : World) (ty : TypeId) : Rs dueT (w.alloc (.cells #[.int .i32 10, .int .i64 100, .int .i32 40, .int .i64 200] ty)) (w.heap.size + 1) (some ⟨w.heap.size, 0, none⟩) exD := fun _ =>
  ⟨w.heap.size, 0, rfl, by omega, fun j v hv i x hx => by
    rcases j with _ | _ | j
    · obtain rfl : (10, 100) = v := by simpa [exD] using hv
      rcases i with _ | _ | i <;> simp [dueT] at hx ⊢ <;> exact hx
    · obtain rfl : (40, 200) = v := by simpa [exD] using hv
      rcases i with _ | _ | i <;> simp [dueT] at hx ⊢ <;> exact hx
    · simp [exD] at hv⟩
set_option maxRecDepth 20000 in
set_option maxHeartbeats 1000000 in
theorem awake12 (w : World) : Calls Try.prog 8 #[] w (Ret (.bool true) w) := by
  have hex := exD_rows w 32
  have hIn : ∀ u ∈ exD, DueIn u := fun u hu => by
    simp only [exD, List.mem_cons, List.not_mem_nil, or_false] at hu
    rcases hu with rfl | rfl <;> simp [DueIn]
  have hS1 := fun W (h : Below (w.heap.size + 1) (w.alloc (.cells #[.int .i32 10, .int .i64 100, .int .i32 40, .int .i64 200] 32)) W) => Since_any (some ⟨w.heap.size, 0, none⟩) 2 2 (w.heap.size + 1) exD 100 45 W (hex.below h) rfl (by decide) (by have := h.size; simpa using this) hIn (by omega)
  have hS2 := fun W (h : Below (w.heap.size + 1) (w.alloc (.cells #[.int .i32 10, .int .i64 100, .int .i32 40, .int .i64 200] 32)) W) => Since_any (some ⟨w.heap.size, 0, none⟩) 2 2 (w.heap.size + 1) exD 99 45 W (hex.below h) rfl (by decide) (by have := h.size; simpa using this) hIn (by omega)
  rw [show sinD exD 100 45 = 5 by decide] at hS1
  rw [show sinD exD 99 45 = 35 by decide] at hS2
  have hBu := fun W => Bucket_any 35 W
  rw [show ((bucD 35 : Nat) : Int) = 2 by decide] at hBu
  have HB0 := Lib.hid (b_alloc w (.cells #[.int .i32 10, .int .i64 100, .int .i32 40, .int .i64 200] 32))
  clear hex hIn
  go_enter Try.func8, Try.ntmps8
  go_wp2_with fail
  refine (hS1 _ (Below.refl _ _)).mono ?_
  rintro e w2 ⟨rfl, hb2⟩
  have HB2 := Lib.hid hb2
  clear hb2 hS1
  go_wp2_with fail
  refine (hS2 _ (HB2.out.mono (by simp))).mono ?_
  rintro e w3 ⟨rfl, hb3⟩
  have HB3 := Lib.hid (HB0.out.trans ((HB2.out.trans (hb3.mono HB2.out.size)).mono HB0.out.size))
  clear hb3 hS2
  go_wp2_with fail
  refine (hBu _).mono ?_
  rintro e w4 ⟨rfl, rfl⟩
  go_wp2_with fail
  go_ret
  exact ⟨rfl, HB3.out⟩
end Go.Proofs.Ytelhcjjdhlhfbab
