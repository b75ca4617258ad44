/-
seam.blank: are all bytes noughts? Condition: the bytes are there.
seam.Next: what the frame that bytes begin with has, or the error. Conditions: the seed fits 32 bits, the bytes are there.
-/
import Derived.Test.YtbaenpgjggojaaaSeamCZ9
import Derived.Test.YtbaenpgjggojaaaAppZ9
namespace Go.Proofs.Ytbaenpgjggojaaa
open Go.RowKit

/-- Are all bytes noughts? -/
def isBlank (l : List UInt8) : Bool := l.all (fun u => decide (u.toNat = 0))
def IdxPost (l : List UInt8) (w : World) (e : Ending) (w' : World) : Prop := ∃ r : Int, e = .returned (.int .i64 r) ∧ decide (0 ≤ r) = !isBlank l ∧ w = w'

theorem isBlank_hit {l : List UInt8} {k : Nat} (hk : k < l.length) (h : (l[k]).toNat ≠ 0) : isBlank l = false := by
  unfold isBlank
  rw [List.all_eq_false]
  exact ⟨l[k], List.getElem_mem hk, by simpa using h⟩
theorem isBlank_all {l : List UInt8} (h : ∀ j (hj : j < l.length), (l[j]).toNat = 0) : isBlank l = true := by
  unfold isBlank
  rw [List.all_eq_true]
  intro u hu
  obtain ⟨j, hj, rfl⟩ := List.getElem_of_mem hu
  simpa using h j hj
def Noughts (l : List UInt8) (k : Nat) : Prop := ∀ j (hj : j < l.length), j < k → (l[j]).toNat = 0

set_option maxHeartbeats 400000 in
theorem blankIdx_any (A : Option Addr) (n c B : Nat) (l : List UInt8) (w : World) (hR : Rd w B A l) (hn : l.length = n) (hm : n ≤ maxLen) :
    Calls Try.prog 81 #[.slice A n c, .func (.func 80) #[] #[]] w (IdxPost l w) := by
  unfold maxLen at hm
  subst hn
  go_enter Try.func81, Try.ntmps81
  go_wp2
  go_loop [8] (fun i => ∃ k : Nat, k ≤ l.length ∧ i = .int .i64 k ∧ Noughts l k) (fun i => l.length - (intOf i).toNat)
  case atStart => exact ⟨0, Nat.zero_le _, rfl, fun _ _ h => absurd h (by omega)⟩
  case round =>
    obtain ⟨k, hk, rfl, hno⟩ := hrel
    by_cases hlt : k < l.length
    · obtain ⟨b, o, rfl, _, hc⟩ := hR.at_ hlt
      by_cases hz : (l[k]).toNat = 0
      · have hno' : Noughts l (k + 1) := fun j hj hjk => by
          rcases Nat.lt_or_ge j k with h | h
          · exact hno j hj h
          · obtain rfl : j = k := by omega
            exact hz
        rw [hz] at hc
        go_wp2_with (go_in)
        go_round
        case rel => exact ⟨k + 1, by omega, by go_num, hno'⟩
        case measure => simp [intOf]; omega
      · have HH := Lib.hid (isBlank_hit hlt hz)
        have hnz : ((l[k]).toNat : Int) ≠ 0 := by omega
        go_wp2_with (go_in)
        go_ret
        exact ⟨_, rfl, by rw [HH.out]; exact decide_eq_true (by omega), rfl⟩
    · have HH := Lib.hid (isBlank_all (l := l) (fun j hj => hno j hj (by omega)))
      go_wp2
      go_ret
      exact ⟨_, rfl, by rw [HH.out]; rfl, rfl⟩

theorem blankAny_any (A : Option Addr) (n c B : Nat) (l : List UInt8) (w : World) (hR : Rd w B A l) (hn : l.length = n) (hm : n ≤ maxLen) :
    Calls Try.prog 79 #[.slice A n c, .func (.func 80) #[] #[]] w fun e w' => e = .returned (.bool (!isBlank l)) ∧ w = w' := by
  have HN := Lib.hid hn
  clear hn
  go_enter Try.func79, Try.ntmps79
  go_wp2_with fail
  refine (blankIdx_any _ _ _ _ _ _ hR HN.out hm).mono ?_
  rintro e w1 ⟨r, rfl, hr, rfl⟩
  have HR := Lib.hid hr
  clear hr
  go_wp2_with fail
  go_ret
  exact ⟨by rw [← HR.out]; rfl, rfl⟩

theorem blank_any (A : Option Addr) (n c B : Nat) (l : List UInt8) (w : World) (hR : Rd w B A l) (hn : l.length = n) (hm : n ≤ maxLen) :
    Calls Try.prog 76 #[.slice A n c] w fun e w' => e = .returned (.bool (isBlank l)) ∧ w = w' := by
  have HN := Lib.hid hn
  clear hn
  have HC := Lib.hid (blankAny_any A n c B l w hR HN.out hm)
  cases hbl : isBlank l
  all_goals
    rw [hbl] at HC
    clear hbl
    go_enter Try.func76, Try.ntmps76
    go_wp2_with fail
    refine HC.out.mono ?_
    rintro e w1 ⟨rfl, rfl⟩
    go_wp2_with fail
    go_ret
    exact ⟨rfl, rfl⟩

/-- Where a slice begins with a word, and it is no blank, the word is there. -/
theorem isBlank_nil : isBlank [] = true := rfl
end Go.Proofs.Ytbaenpgjggojaaa
namespace Go.Proofs.Ytbaenpgjggojaaa
open Go.RowKit

/-- The number that bytes begin with. -/
def headOf (l : List UInt8) : Nat := valK l 4
/-- The error's number; 0: none. -/
def nxtErr (s : Nat) (l : List UInt8) : Nat :=
  if isBlank l then 3
  else if l.length < 8 ∨ l.length - 8 < headOf l then 2
  else if 100000 < headOf l then 4
  else if Crc.chk s (l.take (4 + headOf l)) ≠ headOf (l.drop (4 + headOf l)) then 5
  else 0
def nxtBody (l : List UInt8) : List UInt8 := (l.drop 4).take (headOf l)

/-- What Next hands back where it tells an error. -/
def NextNo (err : Nat) (w : World) (e : Ending) (w' : World) : Prop :=
  e = .returned (.tuple #[.slice Option.none 0 0, .int .i64 0, .iface 54 (.int .i64 err)]) ∧ Below w.heap.size w w'
def NextYes (m : Nat) (body : List UInt8) (w : World) (e : Ending) (w' : World) : Prop :=
  ∃ A c, e = .returned (.tuple #[.slice A m c, .int .i64 ((m : Int) + 8), .nilIface]) ∧ m ≤ c ∧ c ≤ maxLen ∧ Rd w' w'.heap.size A body ∧ body.length = m ∧ Below w.heap.size w w'

theorem Size0_any (w : World) : Calls Try.prog 62 #[.int .i64 0] w fun e w' => e = .returned (.int .i64 8) ∧ w = w' := Size_any 0 w (by decide)

section
variable (s : Nat) (A : Option Addr) (n c B : Nat) (l : List UInt8) (w : World)

set_option maxHeartbeats 1000000 in
theorem Next_blank (hR : Rd w B A l) (hn : l.length = n) (hm : n ≤ maxLen) (h : isBlank l = true) :
    Calls Try.prog 72 #[.int .u32 s, .slice A n c] w (NextNo 3 w) := by
  have HB := Lib.hid (blank_any A n c B l w hR hn hm)
  rw [h] at HB
  clear h hR hn
  go_enter Try.func72, Try.ntmps72
  go_wp2_with fail
  refine HB.out.mono ?_
  rintro e w1 ⟨rfl, rfl⟩
  go_wp2_with fail
  go_ret3
  exact ⟨rfl, Below.refl _ _⟩

set_option maxHeartbeats 1000000 in
theorem Next_short (hR : Rd w B A l) (hn : l.length = n) (hm : n ≤ maxLen) (h : isBlank l = false) (h8 : n < 8) :
    Calls Try.prog 72 #[.int .u32 s, .slice A n c] w (NextNo 2 w) := by
  have HB := Lib.hid (blank_any A n c B l w hR hn hm)
  rw [h] at HB
  clear h hR hn
  go_enter Try.func72, Try.ntmps72
  go_wp2_with fail
  refine HB.out.mono ?_
  rintro e w1 ⟨rfl, rfl⟩
  go_wp2_with fail
  refine (Size0_any _).mono ?_
  rintro e w1 ⟨rfl, rfl⟩
  go_wp2_with fail
  go_ret3
  exact ⟨rfl, Below.refl _ _⟩

set_option maxHeartbeats 1000000 in
theorem Next_part (hR : Rd w B A l) (hn : l.length = n) (hm : n ≤ maxLen) (h : isBlank l = false) (h8 : 8 ≤ n) (hp : n - 8 < headOf l) :
    Calls Try.prog 72 #[.int .u32 s, .slice A n c] w (NextNo 2 w) := by
  have HB := Lib.hid (blank_any A n c B l w hR hn hm)
  rw [h] at HB
  have HG := Lib.hid (get_any A n c B l w hR hn hm (by omega))
  have hv := valK_lt l 4
  unfold headOf at hp
  generalize valK l 4 = v at hp HG hv
  clear h hR hn
  unfold maxLen at hm
  go_enter Try.func72, Try.ntmps72
  go_wp2_with fail
  refine HB.out.mono ?_
  rintro e w1 ⟨rfl, rfl⟩
  go_wp2_with fail
  refine (Size0_any _).mono ?_
  rintro e w1 ⟨rfl, rfl⟩
  go_wp2_with fail
  refine HG.out.mono ?_
  rintro e w1 ⟨rfl, rfl⟩
  go_wp2_with fail
  refine (Size0_any _).mono ?_
  rintro e w1 ⟨rfl, rfl⟩
  go_wp2_with fail
  go_ret3
  exact ⟨rfl, Below.refl _ _⟩

set_option maxHeartbeats 1000000 in
theorem Next_long (hR : Rd w B A l) (hn : l.length = n) (hm : n ≤ maxLen) (h : isBlank l = false) (h8 : 8 ≤ n) (hp : headOf l ≤ n - 8) (hg : 100000 < headOf l) :
    Calls Try.prog 72 #[.int .u32 s, .slice A n c] w (NextNo 4 w) := by
  have HB := Lib.hid (blank_any A n c B l w hR hn hm)
  rw [h] at HB
  have HG := Lib.hid (get_any A n c B l w hR hn hm (by omega))
  have hv := valK_lt l 4
  unfold headOf at hp hg
  generalize valK l 4 = v at hp hg HG hv
  clear h hR hn
  unfold maxLen at hm
  go_enter Try.func72, Try.ntmps72
  go_wp2_with fail
  refine HB.out.mono ?_
  rintro e w1 ⟨rfl, rfl⟩
  go_wp2_with fail
  refine (Size0_any _).mono ?_
  rintro e w1 ⟨rfl, rfl⟩
  go_wp2_with fail
  refine HG.out.mono ?_
  rintro e w1 ⟨rfl, rfl⟩
  go_wp2_with fail
  refine (Size0_any _).mono ?_
  rintro e w1 ⟨rfl, rfl⟩
  go_wp2_with fail
  refine HG.out.mono ?_
  rintro e w1 ⟨rfl, rfl⟩
  go_wp2_with fail
  go_ret3
  exact ⟨rfl, Below.refl _ _⟩
end
end Go.Proofs.Ytbaenpgjggojaaa
