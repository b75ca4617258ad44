/-
drum.Clean: does a sector read as noughts? Conditions: the drum is known whole, the sector is there.
-/
import Derived.Test.YtbaenpgjggojaaaDrumUZ9
import Derived.ChangeKeysEq
namespace Go.Proofs.Ytbaenpgjggojaaa
open Go.RowKit

theorem run_u8eq (d : Nat) (a b : UInt8) (W : World) : (Op.equalIn (d + 1) 5 (enc8 a) (enc8 b)).run Try.prog W = .ok (decide (a = b)) W := by
  unfold enc8
  rw [run_equalIn_int W d 5 .u8 .u8 (a.toNat : Int) (b.toNat : Int) Try.underlying5]
  congr 1
  rw [Bool.eq_iff_iff]
  simp only [beq_iff_eq, decide_eq_true_eq]
  constructor
  · intro h; exact UInt8.toNat_inj.1 (by omega)
  · rintro rfl; rfl
theorem partB (l : List UInt8) (k : Nat) (hk : k < l.length) (W : World) : (part 5 (l.map enc8).toArray k).run Try.prog W = .ok (enc8 l[k]) W := by
  have hagg : (isAgg 5).run Try.prog W = .ok false W := by
    unfold isAgg
    rw [Sem.run_bind, run_underlying Try.underlying5 W]
    rfl
  unfold part
  rw [Sem.run_bind, hagg]
  have e : (l.map enc8).toArray[k]? = some (enc8 l[k]) := by rw [List.getElem?_toArray, List.getElem?_map, List.getElem?_eq_getElem hk]; rfl
  simp only [Result.andThen_ok, e]
  rfl
theorem eqItems_any (d : Nat) (l m : List UInt8) (W : World) : ∀ is : List Nat, (∀ i ∈ is, i < l.length ∧ i < m.length) →
    (Op.eqItems (d + 1) 5 1 (l.map enc8).toArray (m.map enc8).toArray is).run Try.prog W = .ok (decide (∀ i ∈ is, l.getD i 0 = m.getD i 0)) W
  | [], _ => by simp [Op.eqItems]
  | i :: is, h => by
    obtain ⟨h1, h2⟩ := h i (List.mem_cons_self ..)
    have ih := eqItems_any d l m W is fun j hj => h j (List.mem_cons_of_mem _ hj)
    have e1 : l.getD i 0 = l[i] := by rw [List.getD_eq_getElem?_getD, List.getElem?_eq_getElem h1]; rfl
    have e2 : m.getD i 0 = m[i] := by rw [List.getD_eq_getElem?_getD, List.getElem?_eq_getElem h2]; rfl
    simp only [Op.eqItems, Sem.run_bind, Nat.mul_one, partB _ _ h1, partB _ _ h2, Result.andThen_ok, run_u8eq]
    by_cases e : l[i] = m[i]
    · rw [decide_eq_true e]
      simp only [Bool.not_true, Bool.false_eq_true, if_false]
      rw [ih]
      congr 1
      apply decide_eq_decide.2
      constructor
      · intro hh j hj
        rcases List.mem_cons.1 hj with rfl | hj
        · rw [e1, e2, e]
        · exact hh j hj
      · intro hh j hj
        exact hh j (List.mem_cons_of_mem _ hj)
    · rw [decide_eq_false e]
      simp only [Bool.not_false, if_true, Sem.run_pure]
      congr 1
      symm
      apply decide_eq_false
      intro hh
      exact e (by have := hh i (List.mem_cons_self ..); rwa [e1, e2] at this)
set_option maxRecDepth 100000 in
/-- Two sectors held against each other. -/
theorem eqSec (l m : List UInt8) (hl : l.length = 256) (hm : m.length = 256) (W : World) : (Op.equalIn 10000 78 (.agg (l.map enc8).toArray) (.agg (m.map enc8).toArray)).run Try.prog W = .ok (decide (l = m)) W := by
  obtain ⟨i0, hi, hz0, hz1, hz2⟩ := info_parts infoB
  have hc : Try.prog.cellsOf 5 = 1 := by kernel_rfl
  have h := run_equalIn_array (P := Try.prog) (w := W) 9999 (l.map enc8).toArray (m.map enc8).toArray Try.underlying78 hi
  rw [hc] at h
  rw [h, eqItems_any 9998 l m W (List.range 256) fun i hi => by have := List.mem_range.1 hi; omega]
  congr 1
  apply decide_eq_decide.2
  constructor
  · intro hh
    refine List.ext_getElem (by rw [hl, hm]) fun i h1 h2 => ?_
    have := hh i (List.mem_range.2 (by omega))
    rw [List.getD_eq_getElem?_getD, List.getD_eq_getElem?_getD, List.getElem?_eq_getElem h1, List.getElem?_eq_getElem h2] at this
    exact this
  · rintro rfl i _
    rfl

set_option maxRecDepth 100000 in
theorem zeroS (u : World) : (zeroValue 78).run Try.prog u = .ok (.agg (zeros.map enc8).toArray) u := by
  obtain ⟨i0, hi, hz0, hz1, hz2⟩ := info_parts infoS
  have e : (zeros.map enc8).toArray = Array.replicate 256 (.int .u8 0) := by unfold zeros; rw [List.map_replicate]; rfl
  rw [e]
  simp [zeroValue, typeInfo, hi, hz0, go_sem]

section
variable {w : World} {base d f g : Nat} {V : Option Addr} {cv : Nat} {T : Tails} {fl : List (List UInt8)} {ws : List (Nat × List UInt8)} {ls : List Nat} {left : Int}
set_option maxRecDepth 100000 in
set_option maxHeartbeats 1000000 in
theorem Clean_any (i : Nat) (h : Dru w base d f g V cv T fl ws ls left) (hi : i < fl.length) :
    Calls Try.prog 16 #[.pointer (some ⟨d, 0, none⟩), .int .i64 (i : Int)] w fun e w' => e = .returned (.bool (decide (nowOf fl ws ls i = zeros))) ∧ w' = w := by
  go_enter Try.func16, Try.ntmps16
  go_wp2_with fail
  refine (has_any (i : Int) h.head).mono ?_
  rintro e w1 ⟨rfl, rfl⟩
  rw [decide_eq_true (show (0 : Int) ≤ (i : Int) ∧ (i : Int) < (fl.length : Int) by omega)]
  go_wp2_with fail
  refine (seen_any i h hi).mono ?_
  rintro e w1 ⟨⟨b, o, rfl, hr⟩, rfl⟩
  have hXl := h.now_len i hi
  clear h
  obtain ⟨X, hX⟩ : ∃ X, X = nowOf fl ws ls i := ⟨_, rfl⟩
  rw [← hX] at hr hXl
  have HX := Lib.hid hX
  clear hX
  have HRG : Hid (w1.rangeAt b o (X.map enc8)) := Lib.hid fun j v hv => by
    obtain ⟨ad, e, hc⟩ := list_rd hr (by rw [List.length_map, hXl]; decide)
    injection e with e
    subst e
    have h := hc j v hv
    simpa [go_sem] using h
  have hzl : zeros.length = 256 := by unfold zeros; rw [List.length_replicate]
  have heq := fun W => eqSec X zeros hXl hzl W
  have hz := zeroS
  have hgd : Try.prog.eqGuardType Try.prog.depth 78 = false := by kernel_rfl
  obtain ⟨AX, hAX⟩ : ∃ A, A = (X.map enc8).toArray := ⟨_, rfl⟩
  obtain ⟨AZ, hAZ⟩ : ∃ A, A = (zeros.map enc8).toArray := ⟨_, rfl⟩
  rw [← hAX, ← hAZ] at heq
  rw [← hAZ] at hz
  have HAX := Lib.hid hAX
  clear hAX hAZ hzl
  obtain ⟨ds, hds, hdr⟩ := isRowS
  have HDS := Lib.hid hds
  have HDR := Lib.hid hdr
  have HXL := Lib.hid hXl
  clear hr hds hdr hXl
  go_wp2_with fail
  refine wp_load_mid (op := ⟨some 17, _, _, _, _, _⟩) 78 (.tmp 16) rfl b o rfl (X.map enc8) ds HRG.out HDS.out HDR.out (by rw [infoSec, List.length_map, HXL.out]) ?_
  rw [← HAX.out]
  go_wp2
  go_ret
  exact ⟨by rw [HX.out]; rfl, rfl⟩
end
end Go.Proofs.Ytbaenpgjggojaaa
