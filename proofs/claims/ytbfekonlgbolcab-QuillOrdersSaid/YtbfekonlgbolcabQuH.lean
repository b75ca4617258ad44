/-
  A Lens's Text; the law's helpers lay and take. Conditions: the Quill, the Lens are known.
-/
import Derived.Test.YtbfekonlgbolcabQuG
import Derived.Laws.BytesArg
namespace Go.Proofs.Ytbfekonlgbolcab
open Go.RowKit

theorem strOf_bytes (l : List UInt8) : strOfNums (l.map fun x => (x.toNat : Int)) = ⟨l.toArray⟩ := by
  unfold strOfNums
  rw [List.map_map]
  congr 2
  conv => rhs; rw [← List.map_id l]
  apply List.map_congr_left
  intro x _
  simp
theorem conv_rg {w : World} {g : Nat} {A : Option Addr} {l : List UInt8} {n c : Nat} (h : Rg w g A l) (hn : l.length = n) : (convert 24 9 (.slice A n c)).run Try.prog w = .ok (.string ⟨l.toArray⟩) w := by
  rcases Nat.eq_zero_or_pos l.length with h0 | h0
  · obtain rfl : l = [] := List.eq_nil_of_length_eq_zero h0
    subst hn
    cases A with
    | none =>
      have := run_convert_bytes_nil (P := Try.prog) w 24 5 Try.underlying24 Try.underlying5 ([] : List UInt8).length c 9 Try.underlying9
      exact this
    | some a =>
      have hl : (loadCells a 0).run Try.prog w = .ok (([] : List Int).map (Value.int .u8)).toArray w := by simp [loadCells, loadCellsFrom]
      have := run_bytesToString (P := Try.prog) w a 0 c [] hl
      rw [run_convert_bytes_string w 24 9 5 (some a) _ c Try.underlying24 Try.underlying5 Try.underlying9]
      exact this
  · obtain ⟨o, rfl, _, hc⟩ := h h0
    have := run_convert_bytes_arg (P := Try.prog) w 24 5 Try.underlying24 Try.underlying5 g o n c (l.map fun x => (x.toNat : Int)) (by rw [List.length_map]; exact hn)
      (fun i hi => by
        have hil : i < l.length := by omega
        rw [hc i _ (List.getElem?_eq_getElem hil)]
        simp [List.getD, hil]) 9 Try.underlying9
    rw [strOf_bytes] at this
    exact this

def tV (most : Nat) (st : Option (List UInt8)) : ByteArray := match st.bind (takeS most) with | some (t, _) => ⟨t.toArray⟩ | none => ⟨#[]⟩
def tS (most : Nat) (st : Option (List UInt8)) : Option (List UInt8) := match st.bind (takeS most) with | some (_, r) => some r | none => none

section
variable (b g : Nat)
def TtPost (most : Nat) (w : World) (st : Option (List UInt8)) (e : Ending) (w' : World) : Prop := e = .returned (.string (tV most st)) ∧ Ln w' b g (tS most st) ∧ Far w w' b none
end
end Go.Proofs.Ytbfekonlgbolcab
