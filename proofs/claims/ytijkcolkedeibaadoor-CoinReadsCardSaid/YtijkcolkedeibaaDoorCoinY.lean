import Derived.Test.YtijkcolkedeibaaDoorCoinX
namespace Go.Proofs.YtijkcolkedeibaaDoor
open Go.RowKit Go.Lib

set_option maxHeartbeats 4000000 in
set_option maxRecDepth 20000 in
/-- The document's example holds. -/
theorem coin_awake (w : World) (m : Int) (hm : w.cell? ⟨3, 0, none⟩ = some (.int .i64 m)) (te : TypeId) (pe : Value) (hR : w.cell? ⟨0, 0, none⟩ = some (.iface te pe)) (hT : w.cell? ⟨6, 2, none⟩ = some (.int .u64 100)) :
    Calls Tryd.prog 4 #[] w fun e w' => e = .returned (.bool true) ∧ Below w.heap.size w w' := by
  have cR := Read_5 w m hm te pe hR
  go_enter Tryd.func4, Tryd.ntmps4
  go_wp2_with fail
  refine cR.mono ?_
  rintro e w1 ⟨rfl, hb1⟩
  have cT := Text_5 w1 ((hb1.cell (p := ⟨6, 2, none⟩) (block_lt_of_cell hT)).trans hT)
  clear cR
  go_wp2_with fail
  refine cT.mono ?_
  rintro e w2 ⟨rfl, hb2⟩
  clear cT
  go_wp2_with fail
  go_returns
  exact ⟨by kernel_rfl, hb1.trans (hb2.mono hb1.size)⟩
end Go.Proofs.YtijkcolkedeibaaDoor
