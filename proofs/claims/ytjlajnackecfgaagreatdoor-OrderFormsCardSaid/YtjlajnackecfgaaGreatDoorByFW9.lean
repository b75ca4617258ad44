/-
Bytes that live on in every later world; terms loaded from their box. No condition.
-/
import Derived.Test.YtjlajnackecfgaaGreatDoorTrmOW9
import Derived.Test.YtjlajnackecfgaaGreatDoorFlowW9
namespace Go.Proofs.YtjlajnackecfgaaGreatDoor
open Go.ChangeShapes Go.WideShapes Go.ChangeAt Go.RowKit

def bySF (L : List UInt8) : Flw := ⟨fun v w => ∃ A c, v = .slice A L.length c ∧ Rd w w.heap.size A L, fun ⟨A, c, h1, h2⟩ hb => ⟨A, c, h1, (h2.below hb).more hb.size⟩⟩
theorem trm_load {w : World} {g : Nat} {a0 a1 a2 a3 a4 a5 a6 a7 : Value} (h : Blk w g 28 #[a0, a1, a2, a3, a4, a5, a6, a7]) : (Instr.loadAt 28 (.pointer (some ⟨g, 0, none⟩))).run Tryz.prog w = .ok (.agg #[a0, a1, a2, a3, a4, a5, a6, a7]) w := by
  obtain ⟨c0, c1, c2, c3, c4, c5, c6, c7⟩ := blk8 h
  go_simp
theorem cBytesF {t : Trm} (h : t.Right) (w : World) : Calls Tryz.prog 24 #[t.v] w (ToF (bySF (layTm t)) w) := by
  refine (TBytes_yes h w).mono ?_
  rintro e w' ⟨⟨A, g, rfl, h1, h2, h3⟩, hb⟩
  exact ⟨_, rfl, ⟨A, _, rfl, h3.rd⟩, hb⟩
end Go.Proofs.YtjlajnackecfgaaGreatDoor
