import Derived.Test.YtijkcolkedeibaaDoorShelf
import Derived.Test.YtijkcolkedeibaaDoorCoinU
namespace Go.Proofs.YtijkcolkedeibaaDoor
open Go.RowKit Go.Lib

/-- The rune is no digit. -/
def noDigit (r : Nat) : Bool := decide (r < 48) || decide (57 < r)

theorem noDigit_pred (w : World) : PredAt Tryd.prog 36 #[] encR noDigit w := fun W r _ => by
  unfold FnGives
  by_cases h1 : r < 48 <;> by_cases h2 : 57 < r
  all_goals
    have z1 : (r : Int) < 48 ↔ r < 48 := by omega
    have z2 : (57 : Int) < (r : Int) ↔ 57 < r := by omega
    go_enter Tryd.func36, Tryd.ntmps36
    go_wp2
    all_goals first | (exfalso; omega) | (go_ret; exact ⟨by simp [noDigit, h1, h2], 0, rfl⟩)

/-- What coin.digits tells of a text. -/
def digitsOf (s : ByteArray) : Bool := !s.toList.isEmpty && !decide (0 ≤ Lib.idxFunc noDigit true s)

set_option maxHeartbeats 4000000 in
set_option maxRecDepth 20000 in
theorem digits_any (w : World) (s : ByteArray) : Calls Tryd.prog 18 #[.string s] w fun e w' => e = .returned (.bool (digitsOf s)) ∧ Below w.heap.size w w' := by
  have cC := fun W => Tryd.strings_ContainsFunc 36 #[] (enters_of Tryd.func36 (by kernel_rfl) rfl) noDigit s W (noDigit_pred W)
  obtain ⟨I, hI⟩ : ∃ I, Lib.idxFunc noDigit true s = I := ⟨_, rfl⟩
  unfold digitsOf
  rw [hI] at cC ⊢
  go_enter Tryd.func18, Tryd.ntmps18
  by_cases hs : s.toList = []
  · rw [hs]
    go_wp2
    go_ret
    exact ⟨by simp, Below.refl _ w⟩
  · go_wp2_with (go_at_call 37; refine (cC _).mono ?_; rintro e w' ⟨rfl, hb⟩)
    go_ret
    exact ⟨rfl, hb⟩
end Go.Proofs.YtijkcolkedeibaaDoor
