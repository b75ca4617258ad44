import Derived.Test.YtijkcolkedeibaaDoorCoinT
namespace Go.Proofs.YtijkcolkedeibaaDoor
open Go.RowKit

set_option maxHeartbeats 4000000 in
set_option maxRecDepth 20000 in
theorem Text_5 (w : World) (hT : w.cell? ⟨6, 2, none⟩ = some (.int .u64 100)) :
    Calls Tryd.prog 9 #[.int .i64 (-5)] w fun e w' => e = .returned (.string ⟨#[45, 48, 46, 48, 53]⟩) ∧ Below w.heap.size w w' := by
  have h0 := Format_0 w
  have h1 := Format_105 w hT
  go_enter Tryd.func9, Tryd.ntmps9
  go_wp2_with (first
    | (go_at_call 15; refine h0.mono ?_; rintro e w' ⟨rfl, rfl⟩)
    | (go_at_call 15; refine h1.mono ?_; rintro e w1 ⟨rfl, hb⟩))
  go_ret
  exact ⟨by kernel_rfl, hb⟩

end Go.Proofs.YtijkcolkedeibaaDoor
