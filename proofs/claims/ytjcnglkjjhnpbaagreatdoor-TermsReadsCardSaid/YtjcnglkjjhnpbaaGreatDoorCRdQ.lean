/-
  coin.isText and coin.Read at any text. Conditions: the laid variables' cells.
-/
import Derived.Test.YtjcnglkjjhnpbaaGreatDoorCRdP
import Derived.Test.YtjcnglkjjhnpbaaGreatDoorIsR
namespace Go.Proofs.YtjcnglkjjhnpbaaGreatDoor
open Go.RowKit Go.Lib

def ngS (S : ByteArray) : Bool := Lib.hasPrefix S.data.toList [45]
def rsS (S : ByteArray) : List UInt8 := Lib.trimPrefix S.data.toList [45]
def fmS (S : ByteArray) : Bool := refOk (rsS S) && digB (dr (rsS S))
def okS (S : ByteArray) : Bool := fmS S && !(ngS S && rsS S == [48, 46, 48, 48])
def valS (S : ByteArray) : Nat := valA 0 (dr (rsS S))
theorem split_S (S : ByteArray) : S.data.toList = (if ngS S then [45] else []) ++ rsS S := by
  unfold ngS rsS Lib.trimPrefix
  cases h : Lib.hasPrefix S.data.toList [45]
  · simp
  · simp only [if_true]
    unfold Lib.hasPrefix at h
    obtain ⟨t, ht⟩ := List.isPrefixOf_iff_prefix.1 h
    rw [← ht]
    simp
theorem rs_len (S : ByteArray) : (rsS S).length ≤ S.size := by
  rw [Lib.size_eq, split_S S, List.length_append]
  omega
theorem isText_all (S : ByteArray) (hS : S.size ≤ 120) (w : World) (m : Int) (hm : w.cell? ⟨5, 0, none⟩ = some (.int .i64 m)) :
    Calls Tryz.prog 99 #[.string S] w fun e w' => e = .returned (.bool (okS S)) ∧ Below w.heap.size w w' := by
  have hl := rs_len S
  have hT : (⟨(rsS S).toArray⟩ : ByteArray).data.toList = rsS S := rfl
  have hc := Tryz.strings_Cut ⟨(rsS S).toArray⟩ ⟨#[46]⟩ m w (by
    have : (⟨(rsS S).toArray⟩ : ByteArray).size = (rsS S).length := by simp [ByteArray.size]
    omega) hm
  rw [hT, show (⟨#[46]⟩ : ByteArray).data.toList = [46] from rfl] at hc
  obtain ⟨⟨h1, r1, p1⟩, hcut⟩ : ∃ c, Lib.cut (rsS S) [46] = c := ⟨_, rfl⟩
  rw [hcut] at hc
  have hi := isT_iff (T := ⟨(rsS S).toArray⟩) (HB := ⟨h1.toArray⟩) (RB := ⟨r1.toArray⟩) (neg := ngS S) (pt := p1) (X := rsS S) (by rw [Lib.toList_data]) (by rw [hcut]; simp [Lib.toList_data])
  have h := isText_gen S ⟨(rsS S).toArray⟩ ⟨h1.toArray⟩ ⟨r1.toArray⟩ (ngS S) p1 w (fun W => Tryz.strings_CutPrefix S ⟨#[45]⟩ W) hc
  rw [hi] at h
  exact h
theorem nodot_sg (S : ByteArray) (h : fmS S = true) : ∀ b ∈ (if ngS S then [45] else []) ++ (rsS S).take ((rsS S).length - 3), b ≠ (46 : UInt8) := fun b hb => by
  unfold fmS at h
  rw [Bool.and_eq_true] at h
  rcases List.mem_append.1 hb with hb | hb
  · split at hb
    · rw [List.mem_singleton.1 hb]; decide
    · cases hb
  · exact no_dot (digB_iff.1 h.2) b (List.mem_append_left _ hb)
set_option maxHeartbeats 4000000 in
set_option maxRecDepth 20000 in
theorem CRead_no (S : ByteArray) (hS : S.size ≤ 120) (hk : okS S = false) (w : World) (m : Int) (hm : w.cell? ⟨5, 0, none⟩ = some (.int .i64 m)) :
    Calls Tryz.prog 57 #[.string S] w fun e w' => e = .returned (.tuple #[.int .i64 0, .iface 45 (.int .i64 15)]) ∧ Below w.heap.size w w' := by
  have cT := isText_all S hS w m hm
  rw [hk] at cT
  clear hk
  go_enter Tryz.func57, Tryz.ntmps57
  go_wp2_with fail
  refine cT.mono ?_
  rintro e w1 ⟨rfl, hb1⟩
  clear cT
  go_wp2_with fail
  go_returns
  exact ⟨rfl, hb1⟩
/-- What ParseInt gets. -/
theorem over_parse (S : ByteArray) (h : fmS S = true) (hv : ¬ ((ngS S = false ∧ valS S ≤ 9223372036854775807) ∨ (ngS S = true ∧ valS S ≤ 9223372036854775808))) :
    Lib.parseIntB 64 ((if ngS S then [45] else []) ++ dr (rsS S)) = .range := by
  unfold fmS at h
  rw [Bool.and_eq_true] at h
  obtain ⟨h1, h2⟩ := h
  obtain ⟨h3, -, -⟩ := split_X h1
  have hd := digB_iff.1 h2
  rw [parse_sgn (ngS S) (fun e => by
    have := congrArg List.length e
    unfold dr at this
    rw [List.length_append, List.length_take, List.length_drop] at this
    simp at this
    omega) hd]
  exact if_neg hv
set_option maxHeartbeats 4000000 in
set_option maxRecDepth 20000 in
theorem CRead_over (S : ByteArray) (hS : S.size ≤ 120) (hk : okS S = true) (hv : ¬ ((ngS S = false ∧ valS S ≤ 9223372036854775807) ∨ (ngS S = true ∧ valS S ≤ 9223372036854775808))) (w : World) (m : Int) (hm : w.cell? ⟨5, 0, none⟩ = some (.int .i64 m))
    (a : Addr) (hR : w.cell? ⟨1, 0, none⟩ = some (.iface 275 (.pointer (some a)))) :
    Calls Tryz.prog 57 #[.string S] w fun e w' => e = .returned (.tuple #[.int .i64 0, .iface 45 (.int .i64 12)]) ∧ Below w.heap.size w w' := by
  have cT := isText_all S hS w m hm
  rw [hk] at cT
  have hf : fmS S = true := by
    unfold okS at hk
    rw [Bool.and_eq_true] at hk
    exact hk.1
  have hp := over_parse S hf hv
  have hnd := nodot_sg S hf
  have hsp := split_S S
  have hsx : refOk (rsS S) = true := by
    unfold fmS at hf
    rw [Bool.and_eq_true] at hf
    exact hf.1
  obtain ⟨h3, h4, -⟩ := split_X hsx
  obtain ⟨Z, hZ⟩ : ∃ Z : ByteArray, (⟨((if ngS S then [45] else []) ++ dr (rsS S)).toArray⟩ : ByteArray) = Z := ⟨_, rfl⟩
  have hZl : Z.data.toList = (if ngS S then [45] else []) ++ dr (rsS S) := by rw [← hZ]
  have hzs : Z.size ≤ 140 := by
    have h1 := rs_len S
    rw [Lib.size_eq, hZl, List.length_append]
    unfold dr
    rw [List.length_append, List.length_take, List.length_drop]
    split <;> simp <;> omega
  have cR : ∀ W, W.cell? ⟨5, 0, none⟩ = some (.int .i64 m) → Calls Tryz.prog 101 #[.string S, .string ⟨#[46]⟩, .string ⟨#[]⟩, .int .i64 1] W fun e w' => e = .returned (.string Z) ∧ Below W.heap.size W w' := fun W hm => by
    have h := Tryz.strings_Replace S ⟨#[46]⟩ ⟨#[]⟩ 1 m W (by omega) hm (show 1 ≤ 1 by omega) (by
      rw [show (⟨#[]⟩ : ByteArray).size = 0 from rfl, Nat.mul_zero]
      omega)
    have hr : Lib.replace S.data.toList [46] [] 1 = (if ngS S then [45] else []) ++ dr (rsS S) := by
      rw [hsp, h4, ← List.append_assoc, ← h4, replace_dot _ _ hnd, List.append_assoc]
      rfl
    rw [show (⟨#[46]⟩ : ByteArray).data.toList = [46] from rfl, show (⟨#[]⟩ : ByteArray).data.toList = [] from rfl, hr, hZ] at h
    exact h
  have cP := fun W hv => Tryz.strconv_ParseInt_10_at64_range Z (by omega) (by rw [hZl]; exact hp) (.iface 275 (.pointer (some a))) W hv (.inr ⟨_, _, rfl⟩)
  have cI := fun N x y W h => Is_range N x y a W h
  clear hk hp hf hnd hsp hsx h3 h4 hZ hZl hzs hv hS
  go_enter Tryz.func57, Tryz.ntmps57
  go_wp2_with fail
  refine cT.mono ?_
  rintro e w1 ⟨rfl, hb1⟩
  clear cT
  go_wp2_with fail
  have hm1 := (hb1.cell (p := ⟨5, 0, none⟩) (block_lt_of_cell hm)).trans hm
  refine (cR w1 hm1).mono ?_
  rintro e w2 ⟨rfl, hb2⟩
  clear cR hm1
  have HB2 := Lib.hid (hb1.trans (hb2.mono hb1.size))
  clear hb1 hb2
  go_wp2_with fail
  have hR2 := (HB2.out.cell (p := ⟨1, 0, none⟩) (block_lt_of_cell hR)).trans hR
  refine (cP w2 hR2).mono ?_
  rintro e w3 ⟨N, rfl, -, hN, hb3⟩
  clear cP hR2
  have HB3 := Lib.hid (HB2.out.trans (hb3.mono HB2.out.size))
  have hR3 := (HB3.out.cell (p := ⟨1, 0, none⟩) (block_lt_of_cell hR)).trans hR
  have HN := Lib.hid hN
  clear hb3 hN
  obtain ⟨q, hq⟩ : ∃ q, Lib.intSat 64 Z.data.toList = q := ⟨_, rfl⟩
  rw [hq]
  clear hq
  go_wp2_with fail
  refine (cI N _ _ w3 HN.out).mono ?_
  rintro e w4 ⟨rfl, n, rfl⟩
  go_wp2_with fail
  go_returns
  exact ⟨rfl, below_drewN HB3.out n⟩
end Go.Proofs.YtjcnglkjjhnpbaaGreatDoor
