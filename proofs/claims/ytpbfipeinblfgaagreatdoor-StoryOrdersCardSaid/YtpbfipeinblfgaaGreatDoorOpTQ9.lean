/-
Terms among a law's arguments, opened; what the world's shape gives of MaxLen. No condition.
-/
import Derived.Test.YtpbfipeinblfgaaGreatDoorTrmAQ9
import Derived.Test.YtpbfipeinblfgaaGreatDoorShutAQ9
import Derived.Test.YtpbfipeinblfgaaGreatDoorDoorEQ9
import Derived.Lib.SmallJoins
import Derived.Shelf.Vars
namespace Go.Proofs.YtpbfipeinblfgaaGreatDoor
open Go.ChangeShapes Go.WideShapes Go.ChangeAt Go.RowKit

section
variable {H : Type} {enc : TypeId × Value → H} {W : World}
theorem cellsTerms : Tryz.prog.cellsOf 28 = 8 := by kernel_rfl
theorem cellsRate : Tryz.prog.cellsOf 25 = 2 := by kernel_rfl
theorem cellsT1 : Tryz.prog.cellsOf 5 = 1 := by kernel_rfl
theorem cellsT2 : Tryz.prog.cellsOf 22 = 1 := by kernel_rfl
theorem cellsT3 : Tryz.prog.cellsOf 3 = 1 := by kernel_rfl
theorem cellsT4 : Tryz.prog.cellsOf 26 = 1 := by kernel_rfl
theorem cellsT5 : Tryz.prog.cellsOf 23 = 1 := by kernel_rfl
theorem array8 {α : Type} {cs : Array α} (h : cs.size = 8) : ∃ c0 c1 c2 c3 c4 c5 c6 c7, cs = #[c0, c1, c2, c3, c4, c5, c6, c7] := by
  obtain ⟨l⟩ := cs
  match l, h with
  | [c0, c1, c2, c3, c4, c5, c6, c7], _ => exact ⟨c0, c1, c2, c3, c4, c5, c6, c7, rfl⟩
set_option maxRecDepth 20000 in
theorem open_rate2 {w : World} {n : Nat} {a0 a1 : Value} {x : DataW H × List MemPlace} (h : DataW.trod enc Tryz.prog w 0 (fun _ => true) true n 25 [a0, a1] = some x) : ∃ R B : Nat, a0 = .int .u32 (R : Int) ∧ a1 = .int .u8 (B : Int) ∧ R < 4294967296 ∧ B < 256 := by
  obtain ⟨xs, n', hn', hy, hlen, hyl, hf⟩ := DataW.trod_struct Tryz.underlying25 h
  match xs, hyl with
  | [y0, y1], _ =>
    have h0 : DataW.trod enc Tryz.prog w 0 (fun _ => true) true n' 23 (List.take (Tryz.prog.cellsOf 23) (List.drop 0 [a0, a1])) = some y0 := hf 0 _ rfl
    rw [cellsT5] at h0
    have h1 : DataW.trod enc Tryz.prog w 0 (fun _ => true) true n' 5 (List.take (Tryz.prog.cellsOf 5) (List.drop 1 [a0, a1])) = some y1 := hf 1 _ rfl
    rw [cellsT1] at h1
    obtain ⟨z0, e0, _, w0⟩ := DataW.trod_int Tryz.underlying23 (h0 : DataW.trod enc Tryz.prog w 0 (fun _ => true) true n' 23 [a0] = some y0)
    obtain ⟨z1, e1, _, w1⟩ := DataW.trod_int Tryz.underlying5 (h1 : DataW.trod enc Tryz.prog w 0 (fun _ => true) true n' 5 [a1] = some y1)
    obtain ⟨R, rfl, hR⟩ := wf_u32 w0
    obtain ⟨B, rfl, hB⟩ := wf_u8 w1
    obtain rfl := List.head_eq_of_cons_eq e0
    obtain rfl := List.head_eq_of_cons_eq e1
    exact ⟨R, B, rfl, rfl, hR, hB⟩
set_option maxRecDepth 20000 in
theorem open_terms {b0 : Nat} {v : Value} {d : DataW H} {p : List MemPlace} (hval : Value.okWide Tryz.prog W .any b0 28 v) (h : DataW.Trod enc Tryz.prog W 0 (fun _ => true) true 28 v d p) :
    ∃ t : Trm, v = t.v ∧ t.In := by
  obtain ⟨cs, rfl, hsz⟩ := okWide_struct Tryz.underlying28 hval
  obtain ⟨a0, a1, a2, a3, a4, a5, a6, a7, rfl⟩ := array8 (hsz.trans cellsTerms)
  obtain ⟨fuel, hf0⟩ := h
  have hf1 : DataW.trod enc Tryz.prog W 0 (fun _ => true) true fuel 28 [a0, a1, a2, a3, a4, a5, a6, a7] = some (d, p) := by simpa [Value.cells] using hf0
  obtain ⟨xs, n', hn', hy, hlen, hyl, hf⟩ := DataW.trod_struct Tryz.underlying28 hf1
  match xs, hyl with
  | [y0, y1, y2, y3, y4, y5, y6], _ =>
    have h0 : DataW.trod enc Tryz.prog W 0 (fun _ => true) true n' 5 (List.take (Tryz.prog.cellsOf 5) (List.drop 0 [a0, a1, a2, a3, a4, a5, a6, a7])) = some y0 := hf 0 _ rfl
    rw [cellsT1] at h0
    have h1 : DataW.trod enc Tryz.prog W 0 (fun _ => true) true n' 22 (List.take (Tryz.prog.cellsOf 22) (List.drop 1 [a0, a1, a2, a3, a4, a5, a6, a7])) = some y1 := hf 1 _ rfl
    rw [cellsT2] at h1
    have h2 : DataW.trod enc Tryz.prog W 0 (fun _ => true) true n' 25 (List.take (Tryz.prog.cellsOf 25) (List.drop 2 [a0, a1, a2, a3, a4, a5, a6, a7])) = some y2 := hf 2 _ rfl
    rw [cellsRate] at h2
    have h3 : DataW.trod enc Tryz.prog W 0 (fun _ => true) true n' 3 (List.take (Tryz.prog.cellsOf 3) (List.drop 4 [a0, a1, a2, a3, a4, a5, a6, a7])) = some y3 := hf 3 _ rfl
    rw [cellsT3] at h3
    have h4 : DataW.trod enc Tryz.prog W 0 (fun _ => true) true n' 26 (List.take (Tryz.prog.cellsOf 26) (List.drop 5 [a0, a1, a2, a3, a4, a5, a6, a7])) = some y4 := hf 4 _ rfl
    rw [cellsT4] at h4
    have h5 : DataW.trod enc Tryz.prog W 0 (fun _ => true) true n' 22 (List.take (Tryz.prog.cellsOf 22) (List.drop 6 [a0, a1, a2, a3, a4, a5, a6, a7])) = some y5 := hf 5 _ rfl
    rw [cellsT2] at h5
    have h6 : DataW.trod enc Tryz.prog W 0 (fun _ => true) true n' 3 (List.take (Tryz.prog.cellsOf 3) (List.drop 7 [a0, a1, a2, a3, a4, a5, a6, a7])) = some y6 := hf 6 _ rfl
    rw [cellsT3] at h6
    obtain ⟨z0, e0, _, w0⟩ := DataW.trod_int Tryz.underlying5 (h0 : DataW.trod enc Tryz.prog W 0 (fun _ => true) true n' 5 [a0] = some y0)
    obtain ⟨z1, e1, _, w1⟩ := DataW.trod_int Tryz.underlying22 (h1 : DataW.trod enc Tryz.prog W 0 (fun _ => true) true n' 22 [a1] = some y1)
    obtain ⟨R, B, rfl, rfl, hR, hB⟩ := open_rate2 (h2 : DataW.trod enc Tryz.prog W 0 (fun _ => true) true n' 25 [a2, a3] = some y2)
    obtain ⟨z3, e3, _, w3⟩ := DataW.trod_int Tryz.underlying3 (h3 : DataW.trod enc Tryz.prog W 0 (fun _ => true) true n' 3 [a4] = some y3)
    obtain ⟨z4, e4, _, w4⟩ := DataW.trod_int Tryz.underlying26 (h4 : DataW.trod enc Tryz.prog W 0 (fun _ => true) true n' 26 [a5] = some y4)
    obtain ⟨z5, e5, _, w5⟩ := DataW.trod_int Tryz.underlying22 (h5 : DataW.trod enc Tryz.prog W 0 (fun _ => true) true n' 22 [a6] = some y5)
    obtain ⟨z6, e6, _, w6⟩ := DataW.trod_int Tryz.underlying3 (h6 : DataW.trod enc Tryz.prog W 0 (fun _ => true) true n' 3 [a7] = some y6)
    obtain ⟨K, rfl, hK⟩ := wf_u8 w0
    have hP := wf_i64 w1
    have hM := wf_i64 w3
    have hS := wf_i32 w4
    have hF := wf_i64 w5
    have hG := wf_i64 w6
    obtain rfl := List.head_eq_of_cons_eq e0
    obtain rfl := List.head_eq_of_cons_eq e1
    obtain rfl := List.head_eq_of_cons_eq e3
    obtain rfl := List.head_eq_of_cons_eq e4
    obtain rfl := List.head_eq_of_cons_eq e5
    obtain rfl := List.head_eq_of_cons_eq e6
    exact ⟨⟨K, z1, R, B, z3, z4, z5, z6⟩, rfl, ⟨hK, hP, hR, hB, hM, hS, hF, hG⟩⟩
end
theorem maxLen_of {W : World} (h : W.ShapedOpen Tryz.prog) : ∃ m, W.cell? ⟨3, 0, none⟩ = some (.int .i64 m) :=
  cell_of_shapedOpen_int h (of_decide_eq_true (by kernel_rfl)) (t := 3) (zero := #[.int .i64 0]) (by kernel_rfl) rfl (by kernel_rfl) (by kernel_rfl) Tryz.underlying3
end Go.Proofs.YtpbfipeinblfgaaGreatDoor
