/-
  The document's reader, at any text. No condition.
-/
import Derived.Test.YtijkcolkedeibaaDoorCRdQ
import Derived.LoopTactic
import Derived.Deep.QuietTactic
import Derived.BigQuiet
namespace Go.Proofs.YtijkcolkedeibaaDoor
open Go.RowKit Go.Lib

def fitS (S : ByteArray) : Bool := if ngS S then decide (valS S ≤ 9223372036854775808) else decide (valS S ≤ 9223372036854775807)
def refE (S : ByteArray) : Int := if fmS S = false then 15 else if fitS S = false then 12 else if (ngS S && valS S == 0) = true then 15 else 0
def refN (S : ByteArray) : Int := if refE S = 0 then (if ngS S then -(valS S : Int) else (valS S : Int)) else 0
theorem idx_at (T : ByteArray) (i : Nat) (d : UInt8) (h : T[i]? = some d) (z : Int) (hz : z = (i : Int)) (W : World) : (Instr.index 9 (.string T) (.int .i64 z)).run Tryd.prog W = .ok (.int .u8 (d.toNat : Int)) W := by
  subst hz
  have hi : i < T.size := by
    rcases Nat.lt_or_ge i T.size with h1 | h1
    · exact h1
    · rw [getElem?_neg T i (by omega)] at h; cases h
  simp [Instr.index, run_underlying Tryd.underlying9, go_sem, h]
theorem byte_at (T : ByteArray) (i : Nat) : T[i]? = T.data.toList[i]? := by
  by_cases h : i < T.size
  · rw [getElem?_pos T i h, List.getElem?_eq_getElem (by rw [← Lib.size_eq]; exact h)]
    rfl
  · rw [getElem?_neg T i h, List.getElem?_eq_none (by rw [← Lib.size_eq]; omega)]
def RRP (S : ByteArray) (w : World) (e : Ending) (w' : World) : Prop := e = .returned (.tuple #[.int .i64 (refN S), .int .i64 (refE S)]) ∧ Below w.heap.size w w'
theorem refs_no {S : ByteArray} (h : fmS S = false) : refN S = 0 ∧ refE S = 15 := by
  have e : refE S = 15 := by unfold refE; rw [if_pos h]
  exact ⟨by unfold refN; rw [e]; rfl, e⟩
/-- How the text begins. -/
structure Beg (S T : ByteArray) (ng : Bool) : Prop where
  g : ngS S = ng
  l : T.data.toList = rsS S
  z : T.size = (rsS S).length
theorem beg_empty (S : ByteArray) (h : S.size = 0) : Beg S S false := by
  have hl : S.data.toList = [] := List.eq_nil_of_length_eq_zero (by rw [← Lib.size_eq]; exact h)
  have hr : rsS S = [] := by unfold rsS; rw [hl]; rfl
  exact ⟨by unfold ngS; rw [hl]; rfl, by rw [hl, hr], by rw [hr, h]; rfl⟩
theorem beg_other (S : ByteArray) (d : UInt8) (h : S[0]? = some d) (hd : d ≠ 45) : Beg S S false := by
  rw [byte_at] at h
  have hn : ngS S = false := by
    unfold ngS Lib.hasPrefix
    cases hl : S.data.toList with
    | nil => rw [hl] at h; cases h
    | cons a r =>
      rw [hl] at h
      obtain rfl : a = d := by simpa using h
      simp [List.isPrefixOf]
      exact fun e => hd e.symm
  have hs := split_S S
  rw [hn] at hs
  have hs2 : S.data.toList = rsS S := by simpa using hs
  exact ⟨hn, hs2, by rw [Lib.size_eq, hs2]⟩
theorem beg_minus (S : ByteArray) (h : S[0]? = some 45) : Beg S (S.extract 1 S.size) true := by
  rw [byte_at] at h
  have hn : ngS S = true := by
    unfold ngS Lib.hasPrefix
    cases hl : S.data.toList with
    | nil => rw [hl] at h; cases h
    | cons a r =>
      rw [hl] at h
      obtain rfl : a = 45 := by simpa using h
      simp [List.isPrefixOf]
  have hs := split_S S
  rw [hn] at hs
  simp only [if_true] at hs
  have hl : (S.extract 1 S.size).data.toList = rsS S := by
    have : (S.extract 1 S.size).data.toList = (S.data.toList.drop 1).take (S.size - 1) := by simp [ByteArray.data_extract]
    rw [this, Lib.size_eq, List.take_of_length_le (by rw [List.length_drop]; omega), hs]
    rfl
  exact ⟨hn, hl, by rw [Lib.size_eq, hl]⟩
set_option maxHeartbeats 4000000 in
set_option maxRecDepth 100000 in
theorem RRead_shortE (S : ByteArray) (hS : S.size ≤ 40) (h0 : S.size = 0) (hl : (rsS S).length < 4) (w : World) : Calls Tryd.prog 7 #[.string S] w (RRP S w) := by
  have hB := beg_empty S h0
  obtain ⟨T, hTT⟩ : ∃ T, S = T := ⟨_, rfl⟩
  have hB : Beg S T false := by rw [← hTT]; exact hB
  have hf : fmS S = false := by
    unfold fmS refOk; rw [decide_eq_false (by omega)]; rfl
  obtain ⟨e1, e2⟩ := refs_no hf
  unfold RRP
  rw [e1, e2]
  have ht : T.size < 4 := by rw [hB.z]; exact hl
  have HTT := Lib.hid hTT
  clear hf e1 e2 hB hl hTT
  have hq0 : decide (0 < (S.size : Int)) = false := by rw [decide_eq_false_iff_not]; omega
  have hq1 : ¬ 0 < S.size := by omega
  go_enter Tryd.func7, Tryd.ntmps7
  go_upto_region 5 with (fail)
  obtain rfl := HTT.out
  go_wp2_with fail
  go_ret2
  exact ⟨rfl, Below.refl _ _⟩
set_option maxHeartbeats 4000000 in
set_option maxRecDepth 100000 in
theorem RRead_shortO (S : ByteArray) (hS : S.size ≤ 40) (d : UInt8) (hd : S[0]? = some d) (hne : d ≠ 45) (hl : (rsS S).length < 4) (w : World) : Calls Tryd.prog 7 #[.string S] w (RRP S w) := by
  have hB := beg_other S d hd hne
  obtain ⟨T, hTT⟩ : ∃ T, S = T := ⟨_, rfl⟩
  have hB : Beg S T false := by rw [← hTT]; exact hB
  have hf : fmS S = false := by
    unfold fmS refOk; rw [decide_eq_false (by omega)]; rfl
  obtain ⟨e1, e2⟩ := refs_no hf
  unfold RRP
  rw [e1, e2]
  have ht : T.size < 4 := by rw [hB.z]; exact hl
  have HTT := Lib.hid hTT
  clear hf e1 e2 hB hl hTT
  have hsz : 0 < S.size := by
    rcases Nat.lt_or_ge 0 S.size with h1 | h1
    · exact h1
    · rw [getElem?_neg S 0 (by omega)] at hd; cases hd
  have hi0 := fun W => idx_at S 0 _ hd 0 rfl W
  have hj : ((d.toNat : Int) == 45) = false := by
    rw [beq_eq_false_iff_ne]
    intro e
    exact hne (UInt8.toNat_inj.1 (by simpa using (by omega : d.toNat = 45)))
  clear hne
  have HSZ := Lib.hid hsz
  clear hd
  go_enter Tryd.func7, Tryd.ntmps7
  go_upto_region 5 with (fail)
  obtain rfl := HTT.out
  go_wp2_with fail
  go_ret2
  exact ⟨rfl, Below.refl _ _⟩
set_option maxHeartbeats 4000000 in
set_option maxRecDepth 100000 in
theorem RRead_dotO (S : ByteArray) (hS : S.size ≤ 40) (d : UInt8) (hd : S[0]? = some d) (hne : d ≠ 45) (hl : 4 ≤ (rsS S).length) (c : UInt8) (hc0 : (rsS S)[(rsS S).length - 3]? = some c) (hcn : c ≠ 46) (w : World) : Calls Tryd.prog 7 #[.string S] w (RRP S w) := by
  have hB := beg_other S d hd hne
  obtain ⟨T, hTT⟩ : ∃ T, S = T := ⟨_, rfl⟩
  have hB : Beg S T false := by rw [← hTT]; exact hB
  have hf : fmS S = false := by
    unfold fmS refOk
    rw [List.getD_eq_getElem?_getD, hc0]
    simp [hcn]
  obtain ⟨e1, e2⟩ := refs_no hf
  unfold RRP
  rw [e1, e2]
  have hz := hB.z
  have hc : T[T.size - 3]? = some c := by rw [byte_at, hB.l, hz]; exact hc0
  have hI3 := fun W => idx_at T (T.size - 3) c hc ((T.size : Int) - 3) (by omega) W
  have ht : 4 ≤ T.size := by omega
  have hTs : T.size ≤ 40 := by have := rs_len S; omega
  have ht2 : ¬ (T.size : Int) < 4 := by omega
  have HTT := Lib.hid hTT
  have hj3 : ((c.toNat : Int) != 46) = true := by
    rw [bne_iff_ne]
    intro e
    exact hcn (UInt8.toNat_inj.1 (by simpa using (by omega : c.toNat = 46)))
  clear hf e1 e2 hB hl hTT hz hc hc0 hcn
  have hsz : 0 < S.size := by
    rcases Nat.lt_or_ge 0 S.size with h1 | h1
    · exact h1
    · rw [getElem?_neg S 0 (by omega)] at hd; cases hd
  have hi0 := fun W => idx_at S 0 _ hd 0 rfl W
  have hj : ((d.toNat : Int) == 45) = false := by
    rw [beq_eq_false_iff_ne]
    intro e
    exact hne (UInt8.toNat_inj.1 (by simpa using (by omega : d.toNat = 45)))
  clear hne
  have HSZ := Lib.hid hsz
  clear hd
  go_enter Tryd.func7, Tryd.ntmps7
  go_upto_region 5 with (fail)
  obtain rfl := HTT.out
  go_wp2_with fail
  go_ret2
  exact ⟨rfl, Below.refl _ _⟩
set_option maxHeartbeats 4000000 in
set_option maxRecDepth 100000 in
theorem RRead_zeroO (S : ByteArray) (hS : S.size ≤ 40) (d : UInt8) (hd : S[0]? = some d) (hne : d ≠ 45) (hl : 4 < (rsS S).length) (c : UInt8) (hc0 : (rsS S)[(rsS S).length - 3]? = some c) (hcn : c = 46) (d0 : UInt8) (hq0 : (rsS S)[0]? = some d0) (h48 : d0 = 48) (w : World) : Calls Tryd.prog 7 #[.string S] w (RRP S w) := by
  have hB := beg_other S d hd hne
  obtain ⟨T, hTT⟩ : ∃ T, S = T := ⟨_, rfl⟩
  have hB : Beg S T false := by rw [← hTT]; exact hB
  have hf : fmS S = false := by
    unfold fmS refOk
    rw [List.getD_eq_getElem?_getD, List.getD_eq_getElem?_getD, hc0, hq0, h48, decide_eq_true hl]
    simp
  obtain ⟨e1, e2⟩ := refs_no hf
  unfold RRP
  rw [e1, e2]
  have hz := hB.z
  have hc : T[T.size - 3]? = some c := by rw [byte_at, hB.l, hz]; exact hc0
  have hI3 := fun W => idx_at T (T.size - 3) c hc ((T.size : Int) - 3) (by omega) W
  have ht : 4 ≤ T.size := by omega
  have hTs : T.size ≤ 40 := by have := rs_len S; omega
  have ht2 : ¬ (T.size : Int) < 4 := by omega
  have HTT := Lib.hid hTT
  have hd0 : T[0]? = some d0 := by rw [byte_at, hB.l]; exact hq0
  have hI0 := fun W => idx_at T 0 d0 hd0 0 rfl W
  have hj3 : ((c.toNat : Int) != 46) = false := by rw [hcn]; rfl
  have hj0 : ((d0.toNat : Int) == 48) = true := by rw [h48]; rfl
  obtain rfl : d = d0 := by
    have h9 := hd0
    rw [← hTT, hd] at h9
    injection h9 with h9
  have ht4 : 4 < T.size := by omega
  clear hf e1 e2 hB hl hTT hz hc hc0 hcn hd0 hq0 h48
  have hsz : 0 < S.size := by
    rcases Nat.lt_or_ge 0 S.size with h1 | h1
    · exact h1
    · rw [getElem?_neg S 0 (by omega)] at hd; cases hd
  have hi0 := fun W => idx_at S 0 _ hd 0 rfl W
  have hj : ((d.toNat : Int) == 45) = false := by
    rw [beq_eq_false_iff_ne]
    intro e
    exact hne (UInt8.toNat_inj.1 (by simpa using (by omega : d.toNat = 45)))
  clear hne
  have HSZ := Lib.hid hsz
  clear hd
  go_enter Tryd.func7, Tryd.ntmps7
  go_upto_region 5 with (fail)
  obtain rfl := HTT.out
  go_wp2_with fail
  go_ret2
  exact ⟨rfl, Below.refl _ _⟩
set_option maxHeartbeats 4000000 in
set_option maxRecDepth 100000 in
theorem RRead_shortM (S : ByteArray) (hS : S.size ≤ 40) (hd : S[0]? = some 45) (hl : (rsS S).length < 4) (w : World) : Calls Tryd.prog 7 #[.string S] w (RRP S w) := by
  have hB := beg_minus S hd
  obtain ⟨T, hTT⟩ : ∃ T, (S.extract 1 S.size) = T := ⟨_, rfl⟩
  rw [hTT] at hB
  have hf : fmS S = false := by
    unfold fmS refOk; rw [decide_eq_false (by omega)]; rfl
  obtain ⟨e1, e2⟩ := refs_no hf
  unfold RRP
  rw [e1, e2]
  have ht : T.size < 4 := by rw [hB.z]; exact hl
  have HTT := Lib.hid hTT
  clear hf e1 e2 hB hl hTT
  have hsz : 0 < S.size := by
    rcases Nat.lt_or_ge 0 S.size with h1 | h1
    · exact h1
    · rw [getElem?_neg S 0 (by omega)] at hd; cases hd
  have hi0 := fun W => idx_at S 0 _ hd 0 rfl W
  have hsz1 : 1 ≤ S.size := hsz
  have HSZ := Lib.hid hsz
  clear hd
  go_enter Tryd.func7, Tryd.ntmps7
  go_upto_region 5 with (fail)
  rw [HTT.out]
  go_wp2_with fail
  go_ret2
  exact ⟨rfl, Below.refl _ _⟩
set_option maxHeartbeats 4000000 in
set_option maxRecDepth 100000 in
theorem RRead_dotM (S : ByteArray) (hS : S.size ≤ 40) (hd : S[0]? = some 45) (hl : 4 ≤ (rsS S).length) (c : UInt8) (hc0 : (rsS S)[(rsS S).length - 3]? = some c) (hcn : c ≠ 46) (w : World) : Calls Tryd.prog 7 #[.string S] w (RRP S w) := by
  have hB := beg_minus S hd
  obtain ⟨T, hTT⟩ : ∃ T, (S.extract 1 S.size) = T := ⟨_, rfl⟩
  rw [hTT] at hB
  have hf : fmS S = false := by
    unfold fmS refOk
    rw [List.getD_eq_getElem?_getD, hc0]
    simp [hcn]
  obtain ⟨e1, e2⟩ := refs_no hf
  unfold RRP
  rw [e1, e2]
  have hz := hB.z
  have hc : T[T.size - 3]? = some c := by rw [byte_at, hB.l, hz]; exact hc0
  have hI3 := fun W => idx_at T (T.size - 3) c hc ((T.size : Int) - 3) (by omega) W
  have ht : 4 ≤ T.size := by omega
  have hTs : T.size ≤ 40 := by have := rs_len S; omega
  have ht2 : ¬ (T.size : Int) < 4 := by omega
  have HTT := Lib.hid hTT
  have hj3 : ((c.toNat : Int) != 46) = true := by
    rw [bne_iff_ne]
    intro e
    exact hcn (UInt8.toNat_inj.1 (by simpa using (by omega : c.toNat = 46)))
  clear hf e1 e2 hB hl hTT hz hc hc0 hcn
  have hsz : 0 < S.size := by
    rcases Nat.lt_or_ge 0 S.size with h1 | h1
    · exact h1
    · rw [getElem?_neg S 0 (by omega)] at hd; cases hd
  have hi0 := fun W => idx_at S 0 _ hd 0 rfl W
  have hsz1 : 1 ≤ S.size := hsz
  have HSZ := Lib.hid hsz
  clear hd
  go_enter Tryd.func7, Tryd.ntmps7
  go_upto_region 5 with (fail)
  rw [HTT.out]
  go_wp2_with fail
  go_ret2
  exact ⟨rfl, Below.refl _ _⟩
set_option maxHeartbeats 4000000 in
set_option maxRecDepth 100000 in
theorem RRead_zeroM (S : ByteArray) (hS : S.size ≤ 40) (hd : S[0]? = some 45) (hl : 4 < (rsS S).length) (c : UInt8) (hc0 : (rsS S)[(rsS S).length - 3]? = some c) (hcn : c = 46) (d0 : UInt8) (hq0 : (rsS S)[0]? = some d0) (h48 : d0 = 48) (w : World) : Calls Tryd.prog 7 #[.string S] w (RRP S w) := by
  have hB := beg_minus S hd
  obtain ⟨T, hTT⟩ : ∃ T, (S.extract 1 S.size) = T := ⟨_, rfl⟩
  rw [hTT] at hB
  have hf : fmS S = false := by
    unfold fmS refOk
    rw [List.getD_eq_getElem?_getD, List.getD_eq_getElem?_getD, hc0, hq0, h48, decide_eq_true hl]
    simp
  obtain ⟨e1, e2⟩ := refs_no hf
  unfold RRP
  rw [e1, e2]
  have hz := hB.z
  have hc : T[T.size - 3]? = some c := by rw [byte_at, hB.l, hz]; exact hc0
  have hI3 := fun W => idx_at T (T.size - 3) c hc ((T.size : Int) - 3) (by omega) W
  have ht : 4 ≤ T.size := by omega
  have hTs : T.size ≤ 40 := by have := rs_len S; omega
  have ht2 : ¬ (T.size : Int) < 4 := by omega
  have HTT := Lib.hid hTT
  have hd0 : T[0]? = some d0 := by rw [byte_at, hB.l]; exact hq0
  have hI0 := fun W => idx_at T 0 d0 hd0 0 rfl W
  have hj3 : ((c.toNat : Int) != 46) = false := by rw [hcn]; rfl
  have hj0 : ((d0.toNat : Int) == 48) = true := by rw [h48]; rfl
  have ht4 : 4 < T.size := by omega
  clear hf e1 e2 hB hl hTT hz hc hc0 hcn hd0 hq0 h48
  have hsz : 0 < S.size := by
    rcases Nat.lt_or_ge 0 S.size with h1 | h1
    · exact h1
    · rw [getElem?_neg S 0 (by omega)] at hd; cases hd
  have hi0 := fun W => idx_at S 0 _ hd 0 rfl W
  have hsz1 : 1 ≤ S.size := hsz
  have HSZ := Lib.hid hsz
  clear hd
  go_enter Tryd.func7, Tryd.ntmps7
  go_upto_region 5 with (fail)
  rw [HTT.out]
  go_wp2_with fail
  go_ret2
  exact ⟨rfl, Below.refl _ _⟩
end Go.Proofs.YtijkcolkedeibaaDoor
