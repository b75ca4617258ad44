/-
  strconv's powers of ten, whole, of the listed variable. No condition.
-/
import Derived.Test.YtijkcolkedeibaaDoorDoorZ
import Derived.Test.YtijkcolkedeibaaDoorFmt
import Derived.Test.YtijkcolkedeibaaDoorCoinY
namespace Go.Proofs.YtijkcolkedeibaaDoor
open Go.ChangeShapes Go.WideShapes Go.ChangeAt Go.RowKit

theorem pows_of {L : List (String × DataW Unit)} {W : World} (h : laidMetH Tryd.prog L W) (hm : ("internal/strconv.uint64pow10", Rows.laid_internal_strconv_uint64pow10) ∈ L.filter fun x => x.2.handleName?.isNone) : Pows W := by
  obtain ⟨g, t, cs, fuel, p, hg, hty, hvar, hd⟩ := Go.Lib.laidMet.reads (plain_laid h) hm
  obtain rfl := Option.some.inj (pow10_named.symm.trans hg)
  obtain rfl := Option.some.inj (pow10_typed.symm.trans hty)
  have hcs := Go.Lib.cells_of_tab (zs := pow10T) Tryd.underlying121 Tryd.underlying39 u64_cells pow10_cells hd
  have e : cs = (pow10T.map fun z => Value.int .u64 z).toArray := Array.toList_inj.1 (hcs.trans (by simp))
  unfold Pows Lib.TabIs
  rw [hvar, e]
  rfl
end Go.Proofs.YtijkcolkedeibaaDoor
