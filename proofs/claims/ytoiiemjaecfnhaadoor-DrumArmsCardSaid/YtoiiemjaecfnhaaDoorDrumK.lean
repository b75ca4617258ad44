/-
  drum.Write's errors: no such sector, too many bytes, no power. Conditions: the head is known.
-/
import Derived.Test.YtoiiemjaecfnhaaDoorDrumJ
namespace Go.Proofs.YtoiiemjaecfnhaaDoor
open Go.RowKit

section
variable {F V L : Option Addr} {nf cf nv cv nl cl : Nat} {left : Int} {w : World} {d : Nat}
theorem Write_index (i : Int) (A : Option Addr) (n c : Nat) (h : Blk w d 79 (dhead F nf cf V nv cv L nl cl left)) (hi : ¬ (0 ≤ i ∧ i < (nf : Int))) :
    Calls Tryd.prog 17 #[.pointer (some ⟨d, 0, none⟩), .int .i64 i, .slice A n c] w fun e w' => e = .returned (.iface 40 (.int .i64 7)) ∧ w' = w := by
  go_enter Tryd.func17, Tryd.ntmps17
  go_wp2_with fail
  refine (has_any i h).mono ?_
  rintro e w1 ⟨rfl, rfl⟩
  rw [decide_eq_false hi]
  go_wp2_with fail
  go_ret
  exact ⟨rfl, rfl⟩
theorem Write_long (i : Int) (A : Option Addr) (n c : Nat) (h : Blk w d 79 (dhead F nf cf V nv cv L nl cl left)) (hi : 0 ≤ i ∧ i < (nf : Int)) (hn : 256 < n) :
    Calls Tryd.prog 17 #[.pointer (some ⟨d, 0, none⟩), .int .i64 i, .slice A n c] w fun e w' => e = .returned (.iface 40 (.int .i64 4)) ∧ w' = w := by
  have n1 : 256 < (n : Int) := by omega
  go_enter Tryd.func17, Tryd.ntmps17
  go_wp2_with fail
  refine (has_any i h).mono ?_
  rintro e w1 ⟨rfl, rfl⟩
  rw [decide_eq_true hi]
  go_wp2_with fail
  go_ret
  exact ⟨rfl, rfl⟩
theorem Write_off (i : Int) (A : Option Addr) (n c : Nat) (h : Blk w d 79 (dhead F nf cf V nv cv L nl cl 0)) (hi : 0 ≤ i ∧ i < (nf : Int)) (hn : n ≤ 256) :
    Calls Tryd.prog 17 #[.pointer (some ⟨d, 0, none⟩), .int .i64 i, .slice A n c] w fun e w' => e = .returned (.iface 40 (.int .i64 8)) ∧ w' = w := by
  have n1 : ¬ 256 < (n : Int) := by omega
  go_enter Tryd.func17, Tryd.ntmps17
  go_wp2_with fail
  refine (has_any i h).mono ?_
  rintro e w1 ⟨rfl, rfl⟩
  rw [decide_eq_true hi]
  go_wp2_with fail
  refine (spend_no h).mono ?_
  rintro e w1 ⟨rfl, rfl⟩
  go_wp2_with fail
  go_ret
  exact ⟨rfl, rfl⟩
end
end Go.Proofs.YtoiiemjaecfnhaaDoor
