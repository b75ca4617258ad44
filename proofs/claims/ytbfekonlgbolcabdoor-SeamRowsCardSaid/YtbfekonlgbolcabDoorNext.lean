/-
  seam.Next: what the frame that bytes begin with has, or the error. Conditions: the seed fits 32 bits, the bytes are there.
-/
import Derived.Test.YtbfekonlgbolcabDoorSeamD
import Derived.Test.YtbfekonlgbolcabDoorApp
namespace Go.Proofs.YtbfekonlgbolcabDoor
open Go.RowKit

/-- The number that bytes begin with. -/
def headOf (l : List UInt8) : Nat := valK l 4
/-- The error's number; 0: none. -/
def nxtErr (s : Nat) (l : List UInt8) : Nat :=
  if isBlank l then 3
  else if l.length < 8 ∨ l.length - 8 < headOf l then 2
  else if 100000 < headOf l then 4
  else if Crc.chk s (l.take (4 + headOf l)) ≠ headOf (l.drop (4 + headOf l)) then 5
  else 0
def nxtBody (l : List UInt8) : List UInt8 := (l.drop 4).take (headOf l)

/-- What Next hands back where it tells an error. -/
def NextNo (err : Nat) (w : World) (e : Ending) (w' : World) : Prop :=
  e = .returned (.tuple #[.slice Option.none 0 0, .int .i64 0, .iface 39 (.int .i64 err)]) ∧ Below w.heap.size w w'
def NextYes (m : Nat) (body : List UInt8) (w : World) (e : Ending) (w' : World) : Prop :=
  ∃ A c, e = .returned (.tuple #[.slice A m c, .int .i64 ((m : Int) + 8), .nilIface]) ∧ m ≤ c ∧ c ≤ maxLen ∧ Rd w' w'.heap.size A body ∧ body.length = m ∧ Below w.heap.size w w'

theorem Size0_any (w : World) : Calls Tryd.prog 31 #[.int .i64 0] w fun e w' => e = .returned (.int .i64 8) ∧ w = w' := Size_any 0 w (by decide)

section
variable (s : Nat) (A : Option Addr) (n c B : Nat) (l : List UInt8) (w : World)

set_option maxHeartbeats 1000000 in
theorem Next_blank (hR : Rd w B A l) (hn : l.length = n) (hm : n ≤ maxLen) (h : isBlank l = true) :
    Calls Tryd.prog 30 #[.int .u32 s, .slice A n c] w (NextNo 3 w) := by
  have HB := Lib.hid (blank_any A n c B l w hR hn hm)
  rw [h] at HB
  clear h hR hn
  go_enter Tryd.func30, Tryd.ntmps30
  go_wp2_with fail
  refine HB.out.mono ?_
  rintro e w1 ⟨rfl, rfl⟩
  go_wp2_with fail
  go_ret3
  exact ⟨rfl, Below.refl _ _⟩

set_option maxHeartbeats 1000000 in
theorem Next_short (hR : Rd w B A l) (hn : l.length = n) (hm : n ≤ maxLen) (h : isBlank l = false) (h8 : n < 8) :
    Calls Tryd.prog 30 #[.int .u32 s, .slice A n c] w (NextNo 2 w) := by
  have HB := Lib.hid (blank_any A n c B l w hR hn hm)
  rw [h] at HB
  clear h hR hn
  go_enter Tryd.func30, Tryd.ntmps30
  go_wp2_with fail
  refine HB.out.mono ?_
  rintro e w1 ⟨rfl, rfl⟩
  go_wp2_with fail
  refine (Size0_any _).mono ?_
  rintro e w1 ⟨rfl, rfl⟩
  go_wp2_with fail
  go_ret3
  exact ⟨rfl, Below.refl _ _⟩

set_option maxHeartbeats 1000000 in
theorem Next_part (hR : Rd w B A l) (hn : l.length = n) (hm : n ≤ maxLen) (h : isBlank l = false) (h8 : 8 ≤ n) (hp : n - 8 < headOf l) :
    Calls Tryd.prog 30 #[.int .u32 s, .slice A n c] w (NextNo 2 w) := by
  have HB := Lib.hid (blank_any A n c B l w hR hn hm)
  rw [h] at HB
  have HG := Lib.hid (get_any A n c B l w hR hn hm (by omega))
  have hv := valK_lt l 4
  unfold headOf at hp
  generalize valK l 4 = v at hp HG hv
  clear h hR hn
  unfold maxLen at hm
  go_enter Tryd.func30, Tryd.ntmps30
  go_wp2_with fail
  refine HB.out.mono ?_
  rintro e w1 ⟨rfl, rfl⟩
  go_wp2_with fail
  refine (Size0_any _).mono ?_
  rintro e w1 ⟨rfl, rfl⟩
  go_wp2_with fail
  refine HG.out.mono ?_
  rintro e w1 ⟨rfl, rfl⟩
  go_wp2_with fail
  refine (Size0_any _).mono ?_
  rintro e w1 ⟨rfl, rfl⟩
  go_wp2_with fail
  go_ret3
  exact ⟨rfl, Below.refl _ _⟩

set_option maxHeartbeats 1000000 in
theorem Next_long (hR : Rd w B A l) (hn : l.length = n) (hm : n ≤ maxLen) (h : isBlank l = false) (h8 : 8 ≤ n) (hp : headOf l ≤ n - 8) (hg : 100000 < headOf l) :
    Calls Tryd.prog 30 #[.int .u32 s, .slice A n c] w (NextNo 4 w) := by
  have HB := Lib.hid (blank_any A n c B l w hR hn hm)
  rw [h] at HB
  have HG := Lib.hid (get_any A n c B l w hR hn hm (by omega))
  have hv := valK_lt l 4
  unfold headOf at hp hg
  generalize valK l 4 = v at hp hg HG hv
  clear h hR hn
  unfold maxLen at hm
  go_enter Tryd.func30, Tryd.ntmps30
  go_wp2_with fail
  refine HB.out.mono ?_
  rintro e w1 ⟨rfl, rfl⟩
  go_wp2_with fail
  refine (Size0_any _).mono ?_
  rintro e w1 ⟨rfl, rfl⟩
  go_wp2_with fail
  refine HG.out.mono ?_
  rintro e w1 ⟨rfl, rfl⟩
  go_wp2_with fail
  refine (Size0_any _).mono ?_
  rintro e w1 ⟨rfl, rfl⟩
  go_wp2_with fail
  refine HG.out.mono ?_
  rintro e w1 ⟨rfl, rfl⟩
  go_wp2_with fail
  go_ret3
  exact ⟨rfl, Below.refl _ _⟩
end
end Go.Proofs.YtbfekonlgbolcabDoor
