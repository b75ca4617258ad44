/-
slices.SortFunc over legs: what it leaves. Conditions: the rows are there.
-/
import Derived.Test.YtdnnkdldolhbpaaGreatDoorChBX9
import Derived.Test.YtdnnkdldolhbpaaGreatDoorShelf
namespace Go.Proofs.YtdnnkdldolhbpaaGreatDoor
open Go.ChangeShapes Go.WideShapes Go.ChangeAt Go.RowKit Go.Shelf Go.Sort Go.Lib

section
variable {α : Type} [Inhabited α] {T : Lies α}
theorem flatK_flat (hk : 0 < T.k) (l : List α) : (flatK T.cells T.k l.toArray).toList = flatS T l := by
  apply List.ext_getElem?
  intro j
  rcases Nat.lt_or_ge j (l.length * T.k) with hj | hj
  · have hq : j / T.k < l.length := Nat.div_lt_of_lt_mul (by rw [Nat.mul_comm]; exact hj)
    have hr : j % T.k < T.k := Nat.mod_lt _ hk
    have h1 := flatS_at (T := T) l (j / T.k) _ (List.getElem?_eq_getElem hq) (j % T.k) _ (List.getElem?_eq_getElem (by rw [T.len]; exact hr))
    rw [show j / T.k * T.k + j % T.k = j by rw [Nat.mul_comm]; exact Nat.div_add_mod j T.k] at h1
    rw [h1, Array.getElem?_toList, Array.getElem?_eq_getElem (by simpa using hj)]
    congr 1
    have h2 := get_flatK T.cells T.k l.toArray j (by simpa using hj)
    rw [getElem!_pos _ j (by simpa using hj)] at h2
    rw [h2, getElem!_pos l.toArray (j / T.k) (by simpa using hq), getElem!_pos _ (j % T.k) (by rw [List.getElem_toArray, T.len]; exact hr)]
    simp
  · rw [List.getElem?_eq_none (by simpa using hj), List.getElem?_eq_none (by rw [flatS_len]; exact hj)]
theorem own_holds {e : TypeId} {w : World} {base g n cap : Nat} {l : List α} (hk : 0 < T.k) (h : OwnS T e w base (.slice (some ⟨g, 0, none⟩) n cap) n l) : HoldsK T.cells T.k w g 0 l.toArray ∧ base ≤ g ∧ g < w.heap.size := by
  have hl := h.length hk
  unfold OwnS at h
  rcases h.2 with ⟨h1, _⟩ | ⟨g', cap', cur, h1, h2, hg, _, _, _, ht⟩
  · cases h1
  · injection h1 with e1 e2 e3
    injection e1 with e1
    injection e1 with e1
    subst e1
    refine ⟨?_, h2, (Array.getElem?_eq_some_iff.1 hg).1⟩
    intro j hj
    have hj2 : j < l.length * T.k := by simpa using hj
    refine ⟨?_, by simp [World.frozen?, hg]⟩
    rw [Nat.zero_add, cell_of_row w g j cur e (0, 0) hg]
    have h3 : (cur.toList.take (n * T.k))[j]? = (flatS T l)[j]? := by rw [ht]
    rw [List.getElem?_take_of_lt (by rw [← hl]; exact hj2), Array.getElem?_toList, ← flatK_flat hk, Array.getElem?_toList] at h3
    rw [h3, Array.getElem?_eq_getElem hj, getElem!_pos _ j hj]
    rfl
theorem own_sorted {e : TypeId} {w : World} {base g n cap m : Nat} {os : Array Obj} {l l' : List α} (hk : 0 < T.k) (h : OwnS T e w base (.slice (some ⟨g, 0, none⟩) n cap) n l) (hl' : l'.length = l.length) :
    OwnS T e (sortWorldK T.cells T.k w g 0 m l'.toArray os) base (.slice (some ⟨g, 0, none⟩) n cap) n l' ∧ w.grownBy (sortWorldK T.cells T.k w g 0 m l'.toArray os) (some g) := by
  have hl := h.length hk
  unfold OwnS at h ⊢
  rcases h.2 with ⟨h1, _⟩ | ⟨g', cap', cur, h1, h2, hg, h4, h5, h6, ht⟩
  · cases h1
  · injection h1 with e1 e2 e3
    injection e1 with e1
    injection e1 with e1
    subst e1 e3
    have hlt : g < w.heap.size := (Array.getElem?_eq_some_iff.1 hg).1
    have hcs : l'.length * T.k ≤ cur.size := by rw [hl', hl, h6]; exact Nat.mul_le_mul_right _ h4
    have hheap : (sortWorldK T.cells T.k w g 0 m l'.toArray os).heap[g]? = some (.cells (putCells id 0 (flatK T.cells T.k l'.toArray) cur) e (0, 0)) := by
      unfold sortWorldK putRowK
      rw [heap_grow_old _ _ (by simpa [putRow, mapBlock, Sort.ahead] using hlt)]
      simp [putRow, mapBlock, Sort.ahead, Array.getElem?_modify, hg, onCells]
    refine ⟨⟨by rw [flatS_len, hl', hl], .inr ⟨g, cap, _, rfl, h2, hheap, h4, h5, by simp [putCells, h6], ?_⟩⟩, ⟨rfl, rfl, rfl, by simp [sortWorldK, putRowK, putRow, mapBlock, Sort.ahead], fun k hk' hne => ?_⟩⟩
    · rw [← flatK_flat hk]
      apply List.ext_getElem?
      intro j
      by_cases hj : j < n * T.k
      · have hj2 : j < l'.length * T.k := by rw [hl', hl]; exact hj
        have hjc : j < cur.size := by omega
        have hjf : j < (flatK T.cells T.k l'.toArray).size := by simpa using hj2
        rw [List.getElem?_take_of_lt hj, Array.getElem?_toList, Array.getElem?_toList]
        unfold putCells
        rw [Array.getElem?_mapIdx, Array.getElem?_eq_getElem hjc, Array.getElem?_eq_getElem hjf]
        simp only [Option.map_some, Nat.zero_le, Nat.zero_add, true_and, Nat.sub_zero]
        rw [if_pos hjf, getElem!_pos _ j hjf]
        rfl
      · rw [List.getElem?_take_eq_none (by omega), List.getElem?_eq_none (by rw [Array.length_toList, size_flatK, List.size_toArray, hl', hl]; omega)]
    · unfold sortWorldK putRowK
      rw [heap_grow_old _ _ (by simpa [putRow, mapBlock, Sort.ahead] using hk')]
      have : g ≠ k := fun e => hne (by rw [e])
      simp [putRow, mapBlock, Sort.ahead, Array.getElem?_modify, this]
end
/-- Accounts whose amounts are known. -/
def legL (L : List (Nat × Int)) : Lies Nat := ⟨fun a => legT.cells (rowA L a), 2, fun _ => rfl, fun _ => legT.one _⟩
theorem flat_legL (L : List (Nat × Int)) (R : List Nat) : flatS (legL L) R = flatS legT (R.map (rowA L)) := by
  unfold flatS
  rw [List.flatMap_map]
  rfl
def cmpN (a b : Nat) : Int := if a < b then -1 else if b < a then 1 else 0
set_option maxRecDepth 20000 in
theorem NaN8_any (a : Int) (w : World) : Calls Tryz.prog 84 #[.int .u8 a] w fun e w' => e = .returned (.bool false) ∧ w = w' := by
  go_enter Tryz.func84, Tryz.ntmps84
  go_wp2_with fail
  go_ret
  exact ⟨by first | rfl | simp, rfl⟩
set_option maxRecDepth 20000 in
theorem Cmp8_any (a b : Nat) (w : World) : Calls Tryz.prog 55 #[.int .u8 (a : Int), .int .u8 (b : Int)] w fun e w' => e = .returned (.int .i64 (cmpN a b)) ∧ w = w' := by
  have hN := fun x W => NaN8_any x W
  unfold cmpN
  by_cases h1 : a < b
  · rw [if_pos h1]
    have h2 : (a : Int) < (b : Int) := by omega
    go_enter Tryz.func55, Tryz.ntmps55
    go_wp2_with (go_at_call 84; refine (hN _ _).mono ?_; rintro e w' ⟨rfl, rfl⟩)
    go_ret
    exact ⟨rfl, rfl⟩
  · rw [if_neg h1]
    have h2 : ¬ (a : Int) < (b : Int) := by omega
    by_cases h3 : b < a
    · rw [if_pos h3]
      have h4 : (b : Int) < (a : Int) := by omega
      go_enter Tryz.func55, Tryz.ntmps55
      go_wp2_with (go_at_call 84; refine (hN _ _).mono ?_; rintro e w' ⟨rfl, rfl⟩)
      go_ret
      exact ⟨rfl, rfl⟩
    · rw [if_neg h3]
      have h4 : ¬ (b : Int) < (a : Int) := by omega
      go_enter Tryz.func55, Tryz.ntmps55
      go_wp2_with (go_at_call 84; refine (hN _ _).mono ?_; rintro e w' ⟨rfl, rfl⟩)
      go_ret
      exact ⟨rfl, rfl⟩
set_option maxRecDepth 20000 in
theorem Make1_any (a b : Nat) (x y : Int) (W : World) : Calls Tryz.prog 54 #[.agg #[.int .u8 (a : Int), .int .i64 x], .agg #[.int .u8 (b : Int), .int .i64 y]] W fun e w' => e = .returned (.int .i64 (cmpN a b)) ∧ ∃ q os', w' = grow (W.drewN q) os' := by
  have hC := fun W => Cmp8_any a b W
  generalize cmpN a b = r at hC ⊢
  go_enter Tryz.func54, Tryz.ntmps54
  go_wp2_with (go_at_call 55; refine (hC _).mono ?_; rintro e w' ⟨rfl, rfl⟩)
  go_ret
  exact ⟨rfl, 0, _, by rw [alloc_eq_grow, alloc_eq_grow, grow_grow]; rfl⟩
theorem swoN : SWO (ltOf cmpN) := by
  have h : ∀ a b, ltOf cmpN a b = decide (a < b) := fun a b => by
    unfold ltOf cmpN
    by_cases h1 : a < b
    · simp [h1]
    · by_cases h2 : b < a <;> simp [h1, h2]
  refine ⟨fun x => by rw [h]; simp, fun x y z h1 h2 => ?_, fun x y z h1 h2 => ?_⟩
  · rw [h] at *; simp at *; omega
  · rw [h] at *; simp at *; omega
theorem ltN (a b : Nat) : ltOf cmpN a b = decide (a < b) := by
  unfold ltOf cmpN
  by_cases h1 : a < b
  · simp [h1]
  · by_cases h2 : b < a <;> simp [h1, h2]
theorem isAggLeg (w : World) : (isAgg 53).run Tryz.prog w = .ok true w := by kernel_rfl
theorem sizeLeg (w : World) : (Go.sizeOf 53).run Tryz.prog w = .ok 2 w := by kernel_rfl
/-- Behind the sort: the same row, its accounts rising. -/
def SortPost (L : List (Nat × Int)) (R : List Nat) (w : World) (base g n cap : Nat) (e : Ending) (w' : World) : Prop :=
  e = .returned (.tuple #[]) ∧ OwnS legT 53 w' base (.slice (some ⟨g, 0, none⟩) n cap) n ((R.mergeSort (fun x y => decide (x ≤ y))).map (rowA L)) ∧ w.grownBy w' (some g)
theorem Sort_any (L : List (Nat × Int)) (R : List Nat) (w : World) (base g n cap : Nat) (h : OwnS legT 53 w base (.slice (some ⟨g, 0, none⟩) n cap) n (R.map (rowA L))) (hsz : n < 1000000) :
    Calls Tryz.prog 53 #[.slice (some ⟨g, 0, none⟩) n cap, .func (.func 54) #[] #[]] w (SortPost L R w base g n cap) := by
  have hk : 0 < (legL L).k := by show 0 < 2; omega
  have h0 : OwnS (legL L) 53 w base (.slice (some ⟨g, 0, none⟩) n cap) n R := by
    unfold OwnS at h ⊢
    rw [flat_legL]
    exact h
  obtain ⟨hH, hb, hlt⟩ := own_holds hk h0
  have hl := h0.length hk
  have eg : ∀ args w, (callFunc 54 args).run Tryz.prog w = .ok (.enter 54 args) w := enters_of Tryz.func54 (by kernel_rfl) rfl
  have hcon := AnyQ.slices_SortFunc_total Tryz.sortLeg 2 isAggLeg sizeLeg (legL L).cells (fun _ => rfl) (legL L).one cmpN swoN 54 #[] g 0 cap R.toArray w eg
    (fun m os dk _ x y => Make1_any x y (sumA L x) (sumA L y) _) hH hlt (by simp; omega) (fun x y h1 h2 => by rw [ltN] at h1 h2; simp at h1 h2; omega)
  change Calls Tryz.prog 53 _ _ _ at hcon
  rw [show R.toArray.size = n by simpa using hl] at hcon
  refine hcon.mono ?_
  rintro e w' ⟨rfl, m, os, rfl⟩
  have hle : (fun x y => !(ltOf cmpN) y x) = (fun x y : Nat => decide (x ≤ y)) := by
    funext x y
    rw [ltN]
    by_cases h : x ≤ y
    · rw [decide_eq_true h, decide_eq_false (by omega)]; rfl
    · rw [decide_eq_false h, decide_eq_true (by omega)]; rfl
  rw [hle]
  obtain ⟨g1, g2⟩ := own_sorted (m := m) (os := os) (l' := R.mergeSort (fun x y => decide (x ≤ y))) hk h0 (by simp)
  refine ⟨rfl, ?_, g2⟩
  unfold OwnS at g1 ⊢
  rw [flat_legL] at g1
  exact g1
end Go.Proofs.YtdnnkdldolhbpaaGreatDoor
