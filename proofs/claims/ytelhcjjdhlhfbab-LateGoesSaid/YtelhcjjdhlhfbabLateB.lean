/-
  late: Oldest, Since, Behind, Bucket, Name; the document's. Conditions: the rows are there.
-/
import Derived.Test.YtelhcjjdhlhfbabLateA
import Derived.Test.YtelhcjjdhlhfbabCoinA
import Derived.LoopTactic
namespace Go.Proofs.Ytelhcjjdhlhfbab
open Go.ChangeShapes Go.WideShapes Go.ChangeAt Go.RowKit

theorem b_alloc (w : World) (o : Obj) : Below w.heap.size w (w.alloc o) := (Below.refl _ _).alloc (Nat.le_refl _) _
theorem ret_bool {a b : Bool} (h : a = b) : Ending.returned (.bool a) = .returned (.bool b) := by rw [h]
theorem ret_int {k : IntKind} {a b : Int} (h : a = b) : Ending.returned (.int k a) = .returned (.int k b) := by rw [h]
theorem block_lt_of_cell {w : World} {p : Addr} {v : Value} (h : w.cell? p = some v) : p.block < w.heap.size := World.block_lt_of_cell? w p h
/-- What comes back of a call that only makes memory. -/
def Ret (v : Value) (w : World) (e : Ending) (w' : World) : Prop := e = .returned v ∧ Below w.heap.size w w'
set_option maxRecDepth 20000 in
theorem Old1_any (d s p : Int) (b : Nat) (w : World) (hc : w.cell? ⟨b, 0, none⟩ = some (.int .i64 p)) :
    Calls Try.prog 19 #[.agg #[.int .i32 d, .int .i64 s], .pointer (some ⟨b, 0, none⟩)] w (Ret (.bool (decide (p < s))) w) := by
  have hlb := block_lt_of_cell hc
  by_cases h : p < s
  · rw [decide_eq_true h]
    go_enter Try.func19, Try.ntmps19
    go_wp2_with fail
    go_ret
    exact ⟨by first | rfl | (apply ret_bool; simpa using h), b_alloc _ _⟩
  · rw [decide_eq_false h]
    go_enter Try.func19, Try.ntmps19
    go_wp2_with fail
    go_ret
    exact ⟨by first | rfl | (apply ret_bool; simpa using h), b_alloc _ _⟩
def idxD (o : Option Nat) : Int := match o with | none => -1 | some k => (k : Int)
set_option maxRecDepth 20000 in
set_option maxHeartbeats 1000000 in
theorem Idx_any (A : Option Addr) (n c B : Nat) (l : List (Int × Int)) (p : Int) (b : Nat) (w : World) (hR : Rs dueT w B A l) (hn : l.length = n) (hm : n ≤ maxLen) (hB : B ≤ w.heap.size) (hc : w.cell? ⟨b, 0, none⟩ = some (.int .i64 p)) :
    Calls Try.prog 18 #[.slice A n c, .func (.func 19) #[] #[.pointer (some ⟨b, 0, none⟩)]] w (Ret (.int .i64 (idxD (oldD p l))) w) := by
  subst hn
  unfold maxLen at hm
  have hlb := block_lt_of_cell hc
  have HR := Lib.hid hR
  have HC := Lib.hid hc
  clear hR hc
  go_enter Try.func18, Try.ntmps18
  go_wp2_with fail
  go_loopw [5, 8] (fun _ i wr => ∃ k : Nat, k ≤ l.length ∧ i = .int .i64 k ∧ Hid (∀ j, (hj : j < l.length) → j < k → (l[j]'hj).2 ≤ p) ∧ Hid (Below w.heap.size w wr)) (fun _ i _ => l.length - (intOf i).toNat)
  case atStart => exact ⟨0, Nat.zero_le _, rfl, Lib.hid (fun j _ h => absurd h (by omega)), Lib.hid (Below.refl _ _)⟩
  case round =>
    obtain ⟨k, hk, rfl, HI, HBL⟩ := hrel
    by_cases hlt : k < l.length
    · obtain ⟨b1, o1, rfl, hb1, c0, c1⟩ := HR.out.due hlt
      have d0 := (HBL.out.cell (p := ⟨b1, o1 + k * 2, none⟩) (by exact Nat.lt_of_lt_of_le hb1 hB)).trans c0
      have d1 := (HBL.out.cell (p := ⟨b1, o1 + k * 2 + 1, none⟩) (by exact Nat.lt_of_lt_of_le hb1 hB)).trans c1
      obtain ⟨x, hx⟩ : ∃ x, (l[k]).1 = x := ⟨_, rfl⟩
      obtain ⟨y, hy⟩ : ∃ y, (l[k]).2 = y := ⟨_, rfl⟩
      rw [hx] at d0
      rw [hy] at d1
      have HY := Lib.hid hy
      have hC := Old1_any x y p b wr ((HBL.out.cell (p := ⟨b, 0, none⟩) hlb).trans HC.out)
      clear hx hy c0 c1
      by_cases h : p < y
      · rw [decide_eq_true h] at hC
        have HE := Lib.hid (show oldD p l = some k from oldD_of hlt (by rw [HY.out]; exact h) (fun j hj => HI.out j (by omega) hj))
        clear h
        go_wp2_with fail
        refine hC.mono ?_
        rintro e w2 ⟨rfl, hb2⟩
        clear hC d0 d1
        go_wp2_with fail
        go_ret
        exact ⟨by rw [HE.out]; rfl, HBL.out.trans (hb2.mono HBL.out.size)⟩
      · rw [decide_eq_false h] at hC
        have HH := Lib.hid h
        clear h
        go_wp2_with fail
        refine hC.mono ?_
        rintro e w2 ⟨rfl, hb2⟩
        clear hC d0 d1
        go_wp2_with fail
        go_roundw
        case rel => exact ⟨k + 1, by omega, by go_num, Lib.hid (fun j hj hjk => by
          rcases Nat.lt_or_ge j k with h | h
          · exact HI.out j hj h
          · obtain rfl : j = k := by omega
            have := HH.out
            rw [HY.out]; omega), Lib.hid (HBL.out.trans (hb2.mono HBL.out.size))⟩
        case measure => simp [intOf]; omega
    · have HE := Lib.hid (show oldD p l = none from oldD_no (fun d hd => by
        obtain ⟨j, hj, rfl⟩ := List.mem_iff_getElem.1 hd
        exact HI.out j hj (by omega)))
      go_wp2_with fail
      go_ret
      exact ⟨by rw [HE.out]; rfl, HBL.out⟩
def oldV (o : Option Nat) : Value := match o with | none => .tuple #[.int .i64 0, .bool false] | some k => .tuple #[.int .i64 (k : Int), .bool true]
set_option maxRecDepth 20000 in
set_option maxHeartbeats 1000000 in
theorem Oldest_any (A : Option Addr) (n c B : Nat) (l : List (Int × Int)) (p : Int) (w : World) (hR : Rs dueT w B A l) (hn : l.length = n) (hm : n ≤ maxLen) (hB : B ≤ w.heap.size) :
    Calls Try.prog 10 #[.slice A n c, .int .i64 p] w (Ret (oldV (oldD p l)) w) := by
  have hI := Idx_any A n c B l p w.heap.size (w.alloc (.cells #[.int .i64 p] 23)) (hR.below ((Below.refl _ _).alloc hB _)) hn hm (by simp; omega) (by simp)
  have HB0 := Lib.hid (b_alloc w (.cells #[.int .i64 p] 23))
  clear hR
  cases ho : oldD p l with
  | none =>
    rw [ho] at hI
    simp only [idxD] at hI
    simp only [oldV]
    clear ho
    go_enter Try.func10, Try.ntmps10
    go_wp2_with fail
    refine hI.mono ?_
    rintro e w2 ⟨rfl, hb2⟩
    clear hI
    go_wp2_with fail
    go_ret2
    exact ⟨rfl, HB0.out.trans (hb2.mono HB0.out.size)⟩
  | some k =>
    rw [ho] at hI
    simp only [idxD] at hI
    simp only [oldV]
    clear ho
    go_enter Try.func10, Try.ntmps10
    go_wp2_with fail
    refine hI.mono ?_
    rintro e w2 ⟨rfl, hb2⟩
    clear hI
    go_wp2_with fail
    go_ret2
    exact ⟨rfl, HB0.out.trans (hb2.mono HB0.out.size)⟩
end Go.Proofs.Ytelhcjjdhlhfbab
