/-
  seam.Check: the check of a seed and bytes. Conditions: the seed fits 32 bits, the bytes are there.
-/
import Derived.Test.YtbfekonlgbolcabDoorSeamA
namespace Go.Proofs.YtbfekonlgbolcabDoor
open Go.RowKit

theorem putK_word (cs : Array Value) (off n : Nat) (h : off + 4 ≤ cs.size) (j : Nat) (u : UInt8) (hu : (Crc.wrd n)[j]? = some u) : (putK cs off n 4)[off + j]? = some (.int .u8 (u.toNat : Int)) := by
  have hj : j < 4 := by
    rcases Nat.lt_or_ge j 4 with h4 | h4
    · exact h4
    · rw [List.getElem?_eq_none (by rw [Crc.wrd_length]; omega)] at hu; cases hu
  simp only [putK, Array.getElem?_setIfInBounds, Array.size_setIfInBounds]
  rcases (show j = 0 ∨ j = 1 ∨ j = 2 ∨ j = 3 by omega) with rfl | rfl | rfl | rfl <;>
    (simp only [Crc.wrd, List.getElem?_cons_zero, List.getElem?_cons_succ, Option.some.injEq] at hu; subst hu; simp; omega)
theorem putK_other (cs : Array Value) (off n i : Nat) (h : i < off ∨ off + 4 ≤ i) : (putK cs off n 4)[i]? = cs[i]? := by
  simp only [putK, Array.getElem?_setIfInBounds]
  rw [if_neg (by omega), if_neg (by omega), if_neg (by omega), if_neg (by omega)]
theorem chk_walk {s : Nat} {l : List UInt8} {d : Nat} (hd : d < 4294967296) (h : Crc.chk s l = 4294967295 ^^^ d) : bits .xor .u32 IntKind.u32.max (d : Int) = ((Crc.chk s l : Nat) : Int) := by
  rw [h, show IntKind.u32.max = 4294967295 from rfl, u32_xor _ _ (by omega) (by omega) (by omega) (by omega)]
  rfl

set_option maxHeartbeats 400000 in
theorem Check_any (s : Nat) (A : Option Addr) (n c B : Nat) (l : List UInt8) (w : World) (hs : s < 4294967296) (hR : Rd w B A l) (hB : B ≤ w.heap.size) (hn : l.length = n) (hm : n ≤ maxLen) :
    Calls Tryd.prog 40 #[.int .u32 s, .slice A n c] w fun e w' => e = .returned (.int .u32 (Crc.chk s l : Nat)) ∧ Below w.heap.size w w' := by
  have hd1 : Crc.dvd 4294967295 (Crc.wrd s) < 4294967296 := Crc.dvd_lt _ (by decide)
  have hd2 : Crc.dvd (Crc.dvd 4294967295 (Crc.wrd s)) l < 4294967296 := Crc.dvd_lt _ hd1
  have EC := Lib.hid (chk_walk (s := s) (l := l) hd2 rfl)
  have HN := Lib.hid hn
  have hsg : IntKind.u32.signed = false := rfl
  clear hn
  go_enter Tryd.func40, Tryd.ntmps40
  go_wp2_with fail
  refine (put_any _ _ _ _ _ _ _ hs (by decide) (by decide) (Blk.new w _ _) (by decide)).mono ?_
  rintro e w1 ⟨rfl, hb, hg⟩
  have hbw : Below w.heap.size w w1 := ((Below.refl _ w).alloc (Nat.le_refl _) _).grown hg (by simp) (fun k hk => by injection hk with hk; omega)
  have hl : w.heap.size < w1.heap.size := hb.lt
  have hr1 : Rd w1 w1.heap.size (some ⟨w.heap.size, 0, none⟩) (Crc.wrd s) := hb.rd hl (fun j u hu => putK_word _ 0 s (by decide) j u hu)
  have hr2 := (hR.more hB).below hbw
  clear hb hg hR
  go_wp2_with fail
  refine (divide_any 4294967295 _ _ _ _ _ _ (by decide) hr1 rfl (by rw [Crc.wrd_length]; decide)).mono ?_
  rintro e w2 ⟨rfl, rfl⟩
  go_wp2_with fail
  refine (divide_any _ _ _ _ _ _ _ hd1 hr2 HN.out hm).mono ?_
  rintro e w2 ⟨rfl, rfl⟩
  go_wp2
  rw [EC.out]
  go_ret
  exact ⟨rfl, hbw⟩
end Go.Proofs.YtbfekonlgbolcabDoor
