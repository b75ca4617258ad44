/-
The laws' cut. No condition but sizes.
-/
import Derived.Test.YtbaenpgjggojaaaRlGaZ9
import Derived.Test.YtbaenpgjggojaaaJoinRZ9
namespace Go.Proofs.Ytbaenpgjggojaaa
open Go.ChangeShapes Go.WideShapes Go.RowKit

/-- What cut makes of a record. -/
def cutLs (l : List UInt8) (long : Bool) : List UInt8 := if long then l.take 200 ++ (List.replicate 300 0 ++ l.take 200) else l.take 200
theorem cutLs_len (l : List UInt8) (long : Bool) : (cutLs l long).length ≤ 700 := by
  have h : (l.take 200).length ≤ 200 := by rw [List.length_take]; omega
  unfold cutLs
  split
  · rw [List.length_append, List.length_append, List.length_replicate]
    omega
  · omega
theorem make300 (u : World) : (Instr.makeSlice 35 (.int .i64 300) (.int .i64 300)).run Try.prog u = .ok (.slice (some ⟨u.heap.size, 0, none⟩) 300 300) (u.alloc (.cells (madeCells #[.int .u8 0] 300) 5)) := makeB 292 (by decide) u
set_option maxRecDepth 20000 in
set_option maxHeartbeats 2000000 in
theorem cut_any (A : Option Addr) (n c B : Nat) (l : List UInt8) (long : Bool) (w : World) (hR : Rd w B A l) (hn : l.length = n) (hm : n ≤ 9223372036854775807) (hB : B ≤ w.heap.size) :
    Calls Try.prog 11 #[.slice A n c, .bool long] w (ClW w (cutLs l long)) := by
  have cC := CutW_any A n c B 200 l w hR hn hm (by decide) hB
  cases long with
  | false =>
    clear hR hn hm hB
    go_enter Try.func11, Try.ntmps11
    go_wp2_with fail
    refine cC.mono ?_
    rintro e w1 ⟨v, rfl, ho, hb⟩
    obtain ⟨-, A1, c1, rfl, -, -, -⟩ := own_form ho
    obtain ⟨P, hP⟩ : ∃ P, l.take 200 = P := ⟨_, rfl⟩
    rw [hP] at ho ⊢
    have HO := Lib.hid (And.intro ho (And.intro hb (show cutLs l false = P from hP)))
    clear cC ho hb hP
    go_wp2_with fail
    go_ret
    exact ⟨_, rfl, by rw [HO.out.2.2]; exact HO.out.1, HO.out.2.1⟩
  | true =>
    clear hR hn hm hB
    go_enter Try.func11, Try.ntmps11
    go_wp2_with fail
    refine cC.mono ?_
    rintro e w1 ⟨v, rfl, ho, hb⟩
    obtain ⟨-, A1, c1, rfl, -, -, hrd⟩ := own_form ho
    obtain ⟨P, hP⟩ : ∃ P, l.take 200 = P := ⟨_, rfl⟩
    have hPl : P.length ≤ 200 := by rw [← hP, List.length_take]; omega
    rw [hP] at hrd ⊢
    have hmk := make300 w1
    have hk2 : Blk (w1.alloc (.cells (madeCells #[.int .u8 0] 300) 5)) w1.heap.size 5 ((List.replicate 300 (0 : UInt8)).map enc8).toArray := by
      have e : madeCells #[(.int .u8 0 : Value)] 300 = ((List.replicate 300 (0 : UInt8)).map enc8).toArray := by
        apply Array.toList_inj.1
        rw [toList_madeCells_one, List.map_replicate]
        exact congrArg (List.replicate 300) (rfl : (Value.int .u8 0) = enc8 0)
      rw [e]
      exact Blk.new w1 _ _
    have hb2 : Below w1.heap.size w1 (w1.alloc (.cells (madeCells #[.int .u8 0] 300) 5)) := (Below.refl _ _).alloc (Nat.le_refl _) _
    obtain ⟨w2, hw2⟩ : ∃ W, w1.alloc (.cells (madeCells #[.int .u8 0] 300) 5) = W := ⟨_, rfl⟩
    rw [hw2] at hmk hk2 hb2
    have hb3 : Below w2.heap.size w2 (w2.alloc (.cells #[.slice A1 P.length c1, .slice (some ⟨w1.heap.size, 0, none⟩) 300 300, .slice A1 P.length c1] 35)) := (Below.refl _ _).alloc (Nat.le_refl _) _
    have hk3 := Blk.new w2 35 #[.slice A1 P.length c1, .slice (some ⟨w1.heap.size, 0, none⟩) 300 300, .slice A1 P.length c1]
    have HO := Lib.hid (And.intro hb (And.intro hb2 (And.intro hb3 (And.intro hk2 (And.intro hk3 (And.intro hrd (And.intro hPl hP)))))))
    clear cC ho hb hrd hk2 hb2 hb3 hk3 hw2 hPl hP
    go_wp2_with fail
    obtain ⟨w3, hw3⟩ : ∃ W, w2.alloc (.cells #[.slice A1 P.length c1, .slice (some ⟨w1.heap.size, 0, none⟩) 300 300, .slice A1 P.length c1] 35) = W := ⟨_, rfl⟩
    rw [hw3] at HO ⊢
    clear hw3
    obtain ⟨hb, hb2, hb3, hk2, hk3, hrd, hPl, hP⟩ := HO.out
    have hb13 := hb2.trans (hb3.mono hb2.size)
    have r1 : Rd w3 w3.heap.size A1 P := (hrd.below hb13).more hb13.size
    have r2 : Rd w3 w3.heap.size (some ⟨w1.heap.size, 0, none⟩) (List.replicate 300 (0 : UInt8)) := ((blk_rd hk2).below hb3).more hb3.size
    have cJ := Join_own w2.heap.size 0 3 w3.heap.size [⟨A1, c1, P⟩, ⟨some ⟨w1.heap.size, 0, none⟩, 300, List.replicate 300 0⟩, ⟨A1, c1, P⟩] 3 w3 (fun j g hj => by
      match j, hj with
      | 0, hj => injection hj with hj; subst hj; exact ⟨hk3.cell 0, r1⟩
      | 1, hj => injection hj with hj; subst hj; exact ⟨by rw [hk3.cell]; simp, r2⟩
      | 2, hj => injection hj with hj; subst hj; exact ⟨hk3.cell 2, r1⟩
      | n + 3, hj => simp at hj) hk3.lt (Nat.le_refl _) rfl (by decide) (by unfold glue; simp [glue]; omega)
    have hgl : glue [⟨A1, c1, P⟩, ⟨some ⟨w1.heap.size, 0, none⟩, 300, List.replicate 300 0⟩, ⟨A1, c1, P⟩] = cutLs l true := by
      unfold cutLs
      rw [if_pos rfl, hP]
      simp [glue]
    rw [hgl] at cJ
    have HF := Lib.hid (hb.trans (hb13.mono hb.size))
    clear hb hb2 hb3 hk2 hk3 hrd hPl hP hb13 r1 r2 hgl HO hmk
    refine cJ.mono ?_
    rintro e w4 ⟨v, rfl, ho, hb4⟩
    obtain ⟨-, A4, c4, rfl, -, -, -⟩ := own_form ho
    have HO := Lib.hid (And.intro (ho.low HF.out.size) (HF.out.trans (hb4.mono HF.out.size)))
    clear cJ ho hb4
    go_wp2_with fail
    go_ret
    exact ⟨_, rfl, HO.out.1, HO.out.2⟩
end Go.Proofs.Ytbaenpgjggojaaa
