/-
The references' Same: are two lists of bytes alike? Condition: the bytes are there.
-/
import Derived.Test.YtjlajnackecfgaaGreatDoorAppW9
import Derived.Deep.QuietTactic
import Derived.BigQuiet
namespace Go.Proofs.YtjlajnackecfgaaGreatDoor
open Go.RowKit

def AlikeTo (l m : List UInt8) (k : Nat) : Prop := l.take k = m.take k
def QuietPost (v : Value) (w : World) (e : Ending) (w' : World) : Prop := e = .returned v ∧ ∃ q, w' = w.drewN q

set_option maxHeartbeats 1000000 in
theorem Same_any (A A' : Option Addr) (n c B n' c' B' : Nat) (l m : List UInt8) (w : World) (hR : Rd w B A l) (hn : l.length = n) (hm : n ≤ maxLen) (hR' : Rd w B' A' m) (hn' : m.length = n') (hm' : n' ≤ maxLen) :
    Calls Tryz.prog 14 #[.slice A n c, .slice A' n' c'] w (QuietPost (.bool (decide (l = m))) w) := by
  unfold maxLen at hm hm'
  subst hn hn'
  by_cases hl : l.length = m.length
  · have hne : (((l.length : Nat) : Int) != ((m.length : Nat) : Int)) = false := by rw [hl]; simp
    have HL := Lib.hid hl
    clear hl
    go_enter Tryz.func14, Tryz.ntmps14
    go_wp2
    go_loopw [13] (fun i wr => ∃ k : Nat, k ≤ l.length ∧ i = .int .i64 k ∧ AlikeTo l m k ∧ ∃ q, wr = w.drewN q) (fun i _ => l.length - (intOf i).toNat)
    case atStart => exact ⟨0, Nat.zero_le _, rfl, rfl, 0, rfl⟩
    case round =>
      obtain ⟨k, hk, rfl, hal, q, rfl⟩ := hrel
      by_cases hlt : k < l.length
      · have hlt' : k < m.length := by rw [← HL.out]; exact hlt
        obtain ⟨b, o, rfl, _, hc⟩ := hR.at_ hlt
        obtain ⟨b', o', rfl, _, hc'⟩ := hR'.at_ hlt'
        have i1 : (0 : Int) ≤ (k : Int) := by omega
        have i2 : (k : Int) < ((l.length : Nat) : Int) := by omega
        have i3 : (k : Int) < ((m.length : Nat) : Int) := by omega
        by_cases he : l[k] = m[k]
        · have hb : (((l[k]).toNat : Int) != ((m[k]).toNat : Int)) = false := by rw [he]; simp
          have hal' : AlikeTo l m (k + 1) := by
            unfold AlikeTo at hal ⊢
            rw [List.take_succ_eq_append_getElem hlt, List.take_succ_eq_append_getElem hlt', hal, he]
          have HE := Lib.hid he
          clear he hal
          go_wp2_with fail
          go_quiet (fail)
          go_wp2
          go_roundw
          case rel => exact ⟨k + 1, by omega, by go_num, hal', _, by first | rfl | (rw [World.drewN_drewN])⟩
          case measure => simp [intOf]; omega
        · have hb : (((l[k]).toNat : Int) != ((m[k]).toNat : Int)) = true := by
            have : (l[k]).toNat ≠ (m[k]).toNat := fun h => he (UInt8.toNat_inj.1 h)
            rw [bne_iff_ne]
            omega
          have HF := Lib.hid (show decide (l = m) = false from by
            refine decide_eq_false fun h => he ?_
            subst h
            rfl)
          go_wp2_with fail
          go_quiet (fail)
          go_wp2
          go_ret
          exact ⟨by rw [HF.out]; rfl, _, by first | rfl | (rw [World.drewN_drewN])⟩
      · have HF := Lib.hid (show decide (l = m) = true from by
          refine decide_eq_true ?_
          unfold AlikeTo at hal
          obtain rfl : k = l.length := by omega
          rw [List.take_of_length_le (Nat.le_refl _), List.take_of_length_le (by rw [HL.out]; exact Nat.le_refl _)] at hal
          exact hal)
        go_wp2
        go_ret
        exact ⟨by rw [HF.out]; rfl, q, rfl⟩
  · have hne : (((l.length : Nat) : Int) != ((m.length : Nat) : Int)) = true := by rw [bne_iff_ne]; omega
    have HF := Lib.hid (show decide (l = m) = false from decide_eq_false fun h => hl (by rw [h]))
    go_enter Tryz.func14, Tryz.ntmps14
    go_wp2
    go_ret
    exact ⟨by rw [HF.out]; rfl, 0, rfl⟩
theorem blk_rd {w : World} {g B : Nat} {l : List UInt8} (h : Blk w g 5 (l.map enc8).toArray) (hB : g < B) : Rd w B (some ⟨g, 0, none⟩) l :=
  h.rd hB fun j u hu => by rw [Nat.zero_add]; simp [hu, enc8]
theorem below_all {w w' : World} {v : Value} {e : Ending} (h : QuietPost v w e w') : e = .returned v ∧ Below w.heap.size w w' := by
  obtain ⟨he, q, rfl⟩ := h
  exact ⟨he, below_drewN (Below.refl _ _) q⟩
end Go.Proofs.YtjlajnackecfgaaGreatDoor
