import Derived.Test.YtijkcolkedeibaaDoorCoinW
namespace Go.Proofs.YtijkcolkedeibaaDoor
open Go.RowKit Go.Lib

set_option maxHeartbeats 4000000 in
set_option maxRecDepth 20000 in
theorem Read_5 (w : World) (m : Int) (hm : w.cell? ⟨3, 0, none⟩ = some (.int .i64 m)) (te : TypeId) (pe : Value) (hR : w.cell? ⟨0, 0, none⟩ = some (.iface te pe)) :
    Calls Tryd.prog 6 #[.string ⟨#[45, 48, 46, 48, 53]⟩] w fun e w' => e = .returned (.tuple #[.int .i64 (-5), .nilIface]) ∧ Below w.heap.size w w' := by
  have cT := isText_5 w m hm
  have cR := fun W (hm : W.cell? ⟨3, 0, none⟩ = some (.int .i64 m)) => Tryd.strings_Replace ⟨#[45, 48, 46, 48, 53]⟩ ⟨#[46]⟩ ⟨#[]⟩ 1 m W (show (5 : Nat) < 4294967281 by omega) hm (show 1 ≤ 1 by omega) (show 5 + Lib.countB ⟨#[45, 48, 46, 48, 53]⟩ ⟨#[46]⟩ * 0 ≤ 140737488355328 by omega)
  have e1 : (⟨(Lib.replace [45, 48, 46, 48, 53] [46] [] 1).toArray⟩ : ByteArray) = ⟨#[45, 48, 48, 53]⟩ := by kernel_rfl
  replace cR : ∀ W, W.cell? ⟨3, 0, none⟩ = some (.int .i64 m) → Calls Tryd.prog 12 #[.string ⟨#[45, 48, 46, 48, 53]⟩, .string ⟨#[46]⟩, .string ⟨#[]⟩, .int .i64 1] W fun e w' => e = .returned (.string ⟨#[45, 48, 48, 53]⟩) ∧ Below W.heap.size W w' := fun W hm => by
    have h := cR W hm
    dsimp only at h
    rw [e1] at h
    exact h
  have cP := fun W => Tryd.strconv_ParseInt_10_at64_ok ⟨#[45, 48, 48, 53]⟩ (show (4 : Nat) ≤ 9223372036854775806 by omega) (-5) (by kernel_rfl) W
  have cI : ∀ W, Calls Tryd.prog 13 #[.nilIface, .iface te pe] W fun e w' => e = .returned (.bool false) ∧ w' = W := fun W => by
    go_enter Tryd.func13, Tryd.ntmps13
    have hE : ∀ W, (binOp .eql 26 .nilIface (.iface te pe)).run Tryd.prog W = .ok (.bool false) W := fun W => by first | rfl | (go_simp; done) | (simp [binOp]; done)
    go_wp2
    go_returns
    exact ⟨rfl, rfl⟩
  go_enter Tryd.func6, Tryd.ntmps6
  go_wp2_with fail
  refine cT.mono ?_
  rintro e w1 ⟨rfl, hb1⟩
  clear cT
  go_wp2_with fail
  have hm1 := (hb1.cell (p := ⟨3, 0, none⟩) (block_lt_of_cell hm)).trans hm
  refine (cR w1 hm1).mono ?_
  rintro e w2 ⟨rfl, hb2⟩
  clear cR
  go_wp2_with fail
  refine (cP w2).mono ?_
  rintro e w3 ⟨rfl, hw3⟩
  clear cP
  have hb3 : Below w2.heap.size w2 w3 := by
    rcases hw3 with rfl | ⟨t, rfl⟩
    · exact Below.refl _ _
    · exact bytesWorld_below _ _ _
  have hb : Below w.heap.size w w3 := (hb1.trans (hb2.mono hb1.size)).trans (hb3.mono (Nat.le_trans hb1.size hb2.size))
  have hR3 := (hb.cell (p := ⟨0, 0, none⟩) (block_lt_of_cell hR)).trans hR
  go_wp2_with fail
  refine (cI _).mono ?_
  rintro e w4 ⟨rfl, rfl⟩
  go_wp2_with fail
  go_returns
  exact ⟨rfl, hb⟩
end Go.Proofs.YtijkcolkedeibaaDoor
