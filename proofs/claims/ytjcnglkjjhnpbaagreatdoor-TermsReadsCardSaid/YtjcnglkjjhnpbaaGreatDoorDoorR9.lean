/-
  What the listed variable strconv.ErrRange gives a walk. No condition.
-/
import Derived.Test.YtjcnglkjjhnpbaaGreatDoorDoorE
import Derived.Stop.LaidErr
namespace Go.Proofs.YtjcnglkjjhnpbaaGreatDoor
open Go.ChangeShapes Go.WideShapes Go.ChangeAt Go.RowKit

theorem str_row : ∀ u, Tryz.prog.typeName? 3 u = some "*errors.errorString" → u = 275 := by
  have e : ("*errors.errorString" : String) = "*" ++ "errors.errorString" := by decide +kernel
  rw [e]
  exact typeName_ptr_named (by kernel_rfl) (by kernel_rfl) (by decide +kernel)
theorem sentinel_mem {W : World} {text : List UInt8} {f : Field} {n : String} {g : Nat} (hg : Tryz.prog.globalNamed n = some g) (ht : (Tryz.prog.globals[g]?).map (·.type) = some 42)
    (he : Tryz.prog.underlying 277 = some (.struct #[f])) (hft : f.type = 9) (hfo : f.offset = 0) :
    ∀ {L : List (String × DataW Unit)}, laidMet Tryz.prog L W → (n, (.iface "*errors.errorString" (.ptr (.agg [.lit (.string text)])) : DataW Unit)) ∈ L → ∃ a : Addr, W.var? Tryz.prog n = some #[.iface 275 (.pointer (some a))]
  | [], _, hm => by cases hm
  | x :: r, h, hm => by
    rcases List.mem_cons.1 hm with e | hm
    · subst e
      obtain ⟨a, s, hv, _⟩ := laid_sentinel h hg ht Tryz.underlying42 str_row Tryz.underlying275 he hft hfo Tryz.underlying9 (by kernel_rfl) (by kernel_rfl)
      exact ⟨a, hv⟩
    · exact sentinel_mem hg ht he hft hfo h.tail hm
theorem errR_str {L : List (String × DataW Unit)} {W : World} (h : laidMetH Tryz.prog L W) (hm : ("strconv.ErrRange", Rows.laid_strconv_ErrRange) ∈ L.filter fun x => x.2.handleName?.isNone) :
    ∃ a : Addr, W.cell? ⟨1, 0, none⟩ = some (.iface 275 (.pointer (some a))) := by
  obtain ⟨a, hv⟩ := sentinel_mem errR_named errR_typed Tryz.underlying277 rfl rfl (plain_laid h) hm
  exact ⟨a, by rw [World.var?_cell errR_named hv 0]; rfl⟩
end Go.Proofs.YtjcnglkjjhnpbaaGreatDoor
