/-
  seam.blank: are all bytes noughts? Condition: the bytes are there.
-/
import Derived.Test.YtbfekonlgbolcabDoorSeamC
namespace Go.Proofs.YtbfekonlgbolcabDoor
open Go.RowKit

/-- Are all bytes noughts? -/
def isBlank (l : List UInt8) : Bool := l.all (fun u => decide (u.toNat = 0))
def IdxPost (l : List UInt8) (w : World) (e : Ending) (w' : World) : Prop := ∃ r : Int, e = .returned (.int .i64 r) ∧ decide (0 ≤ r) = !isBlank l ∧ w = w'

theorem isBlank_hit {l : List UInt8} {k : Nat} (hk : k < l.length) (h : (l[k]).toNat ≠ 0) : isBlank l = false := by
  unfold isBlank
  rw [List.all_eq_false]
  exact ⟨l[k], List.getElem_mem hk, by simpa using h⟩
theorem isBlank_all {l : List UInt8} (h : ∀ j (hj : j < l.length), (l[j]).toNat = 0) : isBlank l = true := by
  unfold isBlank
  rw [List.all_eq_true]
  intro u hu
  obtain ⟨j, hj, rfl⟩ := List.getElem_of_mem hu
  simpa using h j hj
def Noughts (l : List UInt8) (k : Nat) : Prop := ∀ j (hj : j < l.length), j < k → (l[j]).toNat = 0

set_option maxHeartbeats 400000 in
theorem blankIdx_any (A : Option Addr) (n c B : Nat) (l : List UInt8) (w : World) (hR : Rd w B A l) (hn : l.length = n) (hm : n ≤ maxLen) :
    Calls Tryd.prog 57 #[.slice A n c, .func (.func 53) #[] #[]] w (IdxPost l w) := by
  unfold maxLen at hm
  subst hn
  go_enter Tryd.func57, Tryd.ntmps57
  go_wp2
  go_loop [8] (fun i => ∃ k : Nat, k ≤ l.length ∧ i = .int .i64 k ∧ Noughts l k) (fun i => l.length - (intOf i).toNat)
  case atStart => exact ⟨0, Nat.zero_le _, rfl, fun _ _ h => absurd h (by omega)⟩
  case round =>
    obtain ⟨k, hk, rfl, hno⟩ := hrel
    by_cases hlt : k < l.length
    · obtain ⟨b, o, rfl, _, hc⟩ := hR.at_ hlt
      by_cases hz : (l[k]).toNat = 0
      · have hno' : Noughts l (k + 1) := fun j hj hjk => by
          rcases Nat.lt_or_ge j k with h | h
          · exact hno j hj h
          · obtain rfl : j = k := by omega
            exact hz
        rw [hz] at hc
        go_wp2_with (go_in)
        go_round
        case rel => exact ⟨k + 1, by omega, by go_num, hno'⟩
        case measure => simp [intOf]; omega
      · have HH := Lib.hid (isBlank_hit hlt hz)
        have hnz : ((l[k]).toNat : Int) ≠ 0 := by omega
        go_wp2_with (go_in)
        go_ret
        exact ⟨_, rfl, by rw [HH.out]; exact decide_eq_true (by omega), rfl⟩
    · have HH := Lib.hid (isBlank_all (l := l) (fun j hj => hno j hj (by omega)))
      go_wp2
      go_ret
      exact ⟨_, rfl, by rw [HH.out]; rfl, rfl⟩

theorem blankAny_any (A : Option Addr) (n c B : Nat) (l : List UInt8) (w : World) (hR : Rd w B A l) (hn : l.length = n) (hm : n ≤ maxLen) :
    Calls Tryd.prog 52 #[.slice A n c, .func (.func 53) #[] #[]] w fun e w' => e = .returned (.bool (!isBlank l)) ∧ w = w' := by
  have HN := Lib.hid hn
  clear hn
  go_enter Tryd.func52, Tryd.ntmps52
  go_wp2_with fail
  refine (blankIdx_any _ _ _ _ _ _ hR HN.out hm).mono ?_
  rintro e w1 ⟨r, rfl, hr, rfl⟩
  have HR := Lib.hid hr
  clear hr
  go_wp2_with fail
  go_ret
  exact ⟨by rw [← HR.out]; rfl, rfl⟩

theorem blank_any (A : Option Addr) (n c B : Nat) (l : List UInt8) (w : World) (hR : Rd w B A l) (hn : l.length = n) (hm : n ≤ maxLen) :
    Calls Tryd.prog 42 #[.slice A n c] w fun e w' => e = .returned (.bool (isBlank l)) ∧ w = w' := by
  have HN := Lib.hid hn
  clear hn
  have HC := Lib.hid (blankAny_any A n c B l w hR HN.out hm)
  cases hbl : isBlank l
  all_goals
    rw [hbl] at HC
    clear hbl
    go_enter Tryd.func42, Tryd.ntmps42
    go_wp2_with fail
    refine HC.out.mono ?_
    rintro e w1 ⟨rfl, rfl⟩
    go_wp2_with fail
    go_ret
    exact ⟨rfl, rfl⟩

/-- Where a slice begins with a word, and it is no blank, the word is there. -/
theorem isBlank_nil : isBlank [] = true := rfl
end Go.Proofs.YtbfekonlgbolcabDoor
