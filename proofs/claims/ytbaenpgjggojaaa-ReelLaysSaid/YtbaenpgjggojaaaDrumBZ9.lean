/-
A drum's head in memory, and what only looks at it: has, spend, Dirty, lastKept. Conditions: the head's block is known whole.
drum.lastKept: the last of n places that is kept, or -1. Conditions: the Bools are there.
-/
import Derived.Test.YtbaenpgjggojaaaMemZ9
import Derived.BigQuiet
namespace Go.Proofs.Ytbaenpgjggojaaa
open Go.RowKit

/-- A drum's head: its sectors, its writes, the places of the last ones, how many more go well. -/
def dhead (F : Option Addr) (nf cf : Nat) (V : Option Addr) (nv cv : Nat) (L : Option Addr) (nl cl : Nat) (left : Int) : Array Value :=
  #[.slice F nf cf, .slice V nv cv, .slice L nl cl, .int .i64 left]

section
variable {F V L : Option Addr} {nf cf nv cv nl cl : Nat} {left : Int} {w : World} {d : Nat}
theorem dhead_cells (h : Blk w d 86 (dhead F nf cf V nv cv L nl cl left)) :
    w.cell? ⟨d, 0, none⟩ = some (.slice F nf cf) ∧ w.cell? ⟨d, 1, none⟩ = some (.slice V nv cv) ∧ w.cell? ⟨d, 2, none⟩ = some (.slice L nl cl) ∧ w.cell? ⟨d, 3, none⟩ = some (.int .i64 left) ∧
      w.frozen? ⟨d, 1, none⟩ = false ∧ w.frozen? ⟨d, 2, none⟩ = false ∧ w.frozen? ⟨d, 3, none⟩ = false :=
  ⟨h.cell 0, h.cell 1, h.cell 2, h.cell 3, h.frozen 1, h.frozen 2, h.frozen 3⟩

/-- Is there a sector i? -/
theorem has_any (i : Int) (h : Blk w d 86 (dhead F nf cf V nv cv L nl cl left)) :
    Calls Try.prog 46 #[.pointer (some ⟨d, 0, none⟩), .int .i64 i] w fun e w' => e = .returned (.bool (decide (0 ≤ i ∧ i < (nf : Int)))) ∧ w' = w := by
  obtain ⟨h0, -, -, -, -, -, -⟩ := dhead_cells h
  clear h
  go_enter Try.func46, Try.ntmps46
  by_cases h1 : 0 ≤ i
  · by_cases h2 : i < (nf : Int)
    · go_wp2
      go_ret
      simp [h1, h2]
    · go_wp2
      go_ret
      simp [h2]
  · go_wp2
    go_ret
    simp
    omega

/-- One Write or Flush more: none is left. -/
theorem spend_no (h : Blk w d 86 (dhead F nf cf V nv cv L nl cl 0)) :
    Calls Try.prog 56 #[.pointer (some ⟨d, 0, none⟩)] w fun e w' => e = .returned (.iface 54 (.int .i64 8)) ∧ w' = w := by
  obtain ⟨-, -, -, h3, -, -, -⟩ := dhead_cells h
  clear h
  go_enter Try.func56, Try.ntmps56
  go_wp2
  go_ret
  simp
/-- .. all go. -/
theorem spend_all (h : Blk w d 86 (dhead F nf cf V nv cv L nl cl left)) (hl : left < 0) :
    Calls Try.prog 56 #[.pointer (some ⟨d, 0, none⟩)] w fun e w' => e = .returned .nilIface ∧ w' = w := by
  obtain ⟨-, -, -, h3, -, -, -⟩ := dhead_cells h
  clear h
  have n0 : ¬ left = 0 := by omega
  have n1 : ¬ 0 < left := by omega
  go_enter Try.func56, Try.ntmps56
  go_wp2
  go_ret
  simp
/-- .. one more goes. -/
theorem spend_one (h : Blk w d 86 (dhead F nf cf V nv cv L nl cl left)) (hl : 0 < left) (hm : left < 9223372036854775808) :
    Calls Try.prog 56 #[.pointer (some ⟨d, 0, none⟩)] w fun e w' => e = .returned .nilIface ∧ w' = w.setCell ⟨d, 3, none⟩ (.int .i64 (left - 1)) := by
  obtain ⟨-, -, -, h3, -, -, h6⟩ := dhead_cells h
  clear h
  have n0 : ¬ left = 0 := by omega
  have i1 : IntKind.i64.wrap (left - 1) = left - 1 := by rw [IntKind.wrap_i64]; omega
  go_enter Try.func56, Try.ntmps56
  go_wp2
  go_ret
  simp
theorem dhead_spent (h : Blk w d 86 (dhead F nf cf V nv cv L nl cl left)) (x : Int) : Blk (w.setCell ⟨d, 3, none⟩ (.int .i64 x)) d 86 (dhead F nf cf V nv cv L nl cl x) := h.set_ 3 _

end
end Go.Proofs.Ytbaenpgjggojaaa
namespace Go.Proofs.Ytbaenpgjggojaaa
open Go.RowKit

/-- A slice that reads as these Bools. -/
def Rb (w : World) (B : Nat) (A : Option Addr) (l : List Bool) : Prop :=
  0 < l.length → ∃ b o, A = some ⟨b, o, none⟩ ∧ b < B ∧ ∀ (j : Nat) u, l[j]? = some u → w.cell? ⟨b, o + j, none⟩ = some (.bool u)
section
variable {w w' : World} {B B' : Nat} {A : Option Addr} {l : List Bool}
theorem Rb.at_ {k : Nat} (h : Rb w B A l) (hk : k < l.length) : ∃ b o, A = some ⟨b, o, none⟩ ∧ b < B ∧ w.cell? ⟨b, o + k, none⟩ = some (.bool (l[k]'hk)) := by
  obtain ⟨b, o, e, hb, hc⟩ := h (by omega)
  exact ⟨b, o, e, hb, hc k _ (List.getElem?_eq_getElem hk)⟩
theorem Rb.keep (h : Rb w B A l) (hk : ∀ p : Addr, p.block < B → w'.cell? p = w.cell? p) : Rb w' B A l := fun hn => by
  obtain ⟨b, o, e, hb, hc⟩ := h hn
  exact ⟨b, o, e, hb, fun j u hu => (hk _ hb).trans (hc j u hu)⟩
theorem Rb.more (h : Rb w B A l) (hB : B ≤ B') : Rb w B' A l := fun hn => by
  obtain ⟨b, o, e, hb, hc⟩ := h hn
  exact ⟨b, o, e, by omega, hc⟩
theorem Rb.below (h : Rb w B A l) (hb : Below B w w') : Rb w' B A l := h.keep fun _ hp => hb.cell hp
end

/-- The last of the first k places that is kept, and 1; 0: none is. -/
def lastOf (l : List Bool) : Nat → Nat
  | 0 => 0
  | k + 1 => if l.getD k false then k + 1 else lastOf l k
theorem lastOf_le (l : List Bool) (k : Nat) : lastOf l k ≤ k := by
  induction k with
  | zero => exact Nat.le_refl _
  | succ k ih =>
    unfold lastOf
    split
    · exact Nat.le_refl _
    · omega

set_option maxHeartbeats 800000 in
theorem lastKept_any (A : Option Addr) (n c B m : Nat) (l : List Bool) (w : World) (hR : Rb w B A l) (hn : l.length = n) (hm : n ≤ maxLen) (hm2 : m ≤ maxLen) :
    Calls Try.prog 54 #[.slice A n c, .int .i64 m] w fun e w' => e = .returned (.int .i64 ((lastOf l (min m n) : Nat) - 1 : Int)) ∧ w' = w := by
  unfold maxLen at hm hm2
  subst hn
  obtain ⟨k0, hk0⟩ : ∃ k0, min m l.length = k0 := ⟨_, rfl⟩
  rw [hk0]
  have hk1 : k0 ≤ l.length := by omega
  go_enter Try.func54, Try.ntmps54
  go_wp2
  all_goals
    have HK := Lib.hid (show k0 = min m l.length from hk0.symm)
    clear hk0
    go_loopw [5] (fun i wr => ∃ k : Nat, k ≤ k0 ∧ i = .int .i64 ((k : Int) - 1) ∧ lastOf l k = lastOf l k0 ∧ wr = w) (fun i _ => (intOf i + 1).toNat)
    case atStart => exact ⟨k0, Nat.le_refl _, by have := HK.out; congr 1; omega, rfl, rfl⟩
    case round =>
      obtain ⟨k, hk, rfl, hal, rfl⟩ := hrel
      have HL := Lib.hid hal
      rcases k with _ | k
      · clear hal
        have HL0 : Hid ((0 : Nat) = lastOf l k0) := Lib.hid HL.out
        go_wp2
        go_ret
        refine ⟨by rw [← HL0.out]; rfl, rfl⟩
      · have hkl : k < l.length := by omega
        obtain ⟨b, o, rfl, _, hc⟩ := hR.at_ hkl
        have i1 : (0 : Int) ≤ (k : Int) := by omega
        have i2 : (k : Int) < ((l.length : Nat) : Int) := by omega
        have i3 : ((k + 1 : Nat) : Int) - 1 = (k : Int) := by omega
        have i4 : IntKind.i64.wrap ((k : Int) - 1) = (k : Int) - 1 := by rw [IntKind.wrap_i64]; omega
        rw [i3]
        have hg : l.getD k false = l[k] := by rw [List.getD_eq_getElem?_getD, List.getElem?_eq_getElem hkl]; rfl
        clear hal i3
        cases hv : l[k]
        · have HS : Hid (lastOf l k = lastOf l k0) := Lib.hid (by rw [← HL.out, lastOf, hg, hv]; rfl)
          rw [hv] at hc
          clear hg hv HL
          go_wp2
          go_roundw
          case rel => exact ⟨k, by omega, by go_num, HS.out, trivial⟩
          case measure => simp [intOf]
        · have HS : Hid (k + 1 = lastOf l k0) := Lib.hid (by rw [← HL.out, lastOf, hg, hv]; rfl)
          rw [hv] at hc
          clear hg hv HL
          go_wp2
          go_ret
          exact ⟨by rw [← HS.out, show ((k + 1 : Nat) : Int) - 1 = (k : Int) by omega]; rfl, rfl⟩
end Go.Proofs.Ytbaenpgjggojaaa
