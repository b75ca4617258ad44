/-
slices.SortFunc over legs: what it leaves. Conditions: the rows are there.
chart.Make: an entry of legs. Conditions: the rows are there.
-/
import Derived.Test.YtpbfipeinblfgaaGreatDoorChBQ9
import Derived.Test.YtpbfipeinblfgaaGreatDoorShelfB
import Derived.Test.YtpbfipeinblfgaaGreatDoorChDaQ9
import Derived.Maps.Ext
namespace Go.Proofs.YtpbfipeinblfgaaGreatDoor
open Go.ChangeShapes Go.WideShapes Go.ChangeAt Go.RowKit Go.Shelf Go.Sort Go.Lib

section
variable {α : Type} [Inhabited α] {T : Lies α}
theorem flatK_flat (hk : 0 < T.k) (l : List α) : (flatK T.cells T.k l.toArray).toList = flatS T l := by
  apply List.ext_getElem?
  intro j
  rcases Nat.lt_or_ge j (l.length * T.k) with hj | hj
  · have hq : j / T.k < l.length := Nat.div_lt_of_lt_mul (by rw [Nat.mul_comm]; exact hj)
    have hr : j % T.k < T.k := Nat.mod_lt _ hk
    have h1 := flatS_at (T := T) l (j / T.k) _ (List.getElem?_eq_getElem hq) (j % T.k) _ (List.getElem?_eq_getElem (by rw [T.len]; exact hr))
    rw [show j / T.k * T.k + j % T.k = j by rw [Nat.mul_comm]; exact Nat.div_add_mod j T.k] at h1
    rw [h1, Array.getElem?_toList, Array.getElem?_eq_getElem (by simpa using hj)]
    congr 1
    have h2 := get_flatK T.cells T.k l.toArray j (by simpa using hj)
    rw [getElem!_pos _ j (by simpa using hj)] at h2
    rw [h2, getElem!_pos l.toArray (j / T.k) (by simpa using hq), getElem!_pos _ (j % T.k) (by rw [List.getElem_toArray, T.len]; exact hr)]
    simp
  · rw [List.getElem?_eq_none (by simpa using hj), List.getElem?_eq_none (by rw [flatS_len]; exact hj)]
theorem own_holds {e : TypeId} {w : World} {base g n cap : Nat} {l : List α} (hk : 0 < T.k) (h : OwnS T e w base (.slice (some ⟨g, 0, none⟩) n cap) n l) : HoldsK T.cells T.k w g 0 l.toArray ∧ base ≤ g ∧ g < w.heap.size := by
  have hl := h.length hk
  unfold OwnS at h
  rcases h.2 with ⟨h1, _⟩ | ⟨g', cap', cur, h1, h2, hg, _, _, _, ht⟩
  · cases h1
  · injection h1 with e1 e2 e3
    injection e1 with e1
    injection e1 with e1
    subst e1
    refine ⟨?_, h2, (Array.getElem?_eq_some_iff.1 hg).1⟩
    intro j hj
    have hj2 : j < l.length * T.k := by simpa using hj
    refine ⟨?_, by simp [World.frozen?, hg]⟩
    rw [Nat.zero_add, cell_of_row w g j cur e (0, 0) hg]
    have h3 : (cur.toList.take (n * T.k))[j]? = (flatS T l)[j]? := by rw [ht]
    rw [List.getElem?_take_of_lt (by rw [← hl]; exact hj2), Array.getElem?_toList, ← flatK_flat hk, Array.getElem?_toList] at h3
    rw [h3, Array.getElem?_eq_getElem hj, getElem!_pos _ j hj]
    rfl
theorem own_sorted {e : TypeId} {w : World} {base g n cap m : Nat} {os : Array Obj} {l l' : List α} (hk : 0 < T.k) (h : OwnS T e w base (.slice (some ⟨g, 0, none⟩) n cap) n l) (hl' : l'.length = l.length) :
    OwnS T e (sortWorldK T.cells T.k w g 0 m l'.toArray os) base (.slice (some ⟨g, 0, none⟩) n cap) n l' ∧ w.grownBy (sortWorldK T.cells T.k w g 0 m l'.toArray os) (some g) := by
  have hl := h.length hk
  unfold OwnS at h ⊢
  rcases h.2 with ⟨h1, _⟩ | ⟨g', cap', cur, h1, h2, hg, h4, h5, h6, ht⟩
  · cases h1
  · injection h1 with e1 e2 e3
    injection e1 with e1
    injection e1 with e1
    subst e1 e3
    have hlt : g < w.heap.size := (Array.getElem?_eq_some_iff.1 hg).1
    have hcs : l'.length * T.k ≤ cur.size := by rw [hl', hl, h6]; exact Nat.mul_le_mul_right _ h4
    have hheap : (sortWorldK T.cells T.k w g 0 m l'.toArray os).heap[g]? = some (.cells (putCells id 0 (flatK T.cells T.k l'.toArray) cur) e (0, 0)) := by
      unfold sortWorldK putRowK
      rw [heap_grow_old _ _ (by simpa [putRow, mapBlock, Sort.ahead] using hlt)]
      simp [putRow, mapBlock, Sort.ahead, Array.getElem?_modify, hg, onCells]
    refine ⟨⟨by rw [flatS_len, hl', hl], .inr ⟨g, cap, _, rfl, h2, hheap, h4, h5, by simp [putCells, h6], ?_⟩⟩, ⟨rfl, rfl, rfl, by simp [sortWorldK, putRowK, putRow, mapBlock, Sort.ahead], fun k hk' hne => ?_⟩⟩
    · rw [← flatK_flat hk]
      apply List.ext_getElem?
      intro j
      by_cases hj : j < n * T.k
      · have hj2 : j < l'.length * T.k := by rw [hl', hl]; exact hj
        have hjc : j < cur.size := by omega
        have hjf : j < (flatK T.cells T.k l'.toArray).size := by simpa using hj2
        rw [List.getElem?_take_of_lt hj, Array.getElem?_toList, Array.getElem?_toList]
        unfold putCells
        rw [Array.getElem?_mapIdx, Array.getElem?_eq_getElem hjc, Array.getElem?_eq_getElem hjf]
        simp only [Option.map_some, Nat.zero_le, Nat.zero_add, true_and, Nat.sub_zero]
        rw [if_pos hjf, getElem!_pos _ j hjf]
        rfl
      · rw [List.getElem?_take_eq_none (by omega), List.getElem?_eq_none (by rw [Array.length_toList, size_flatK, List.size_toArray, hl', hl]; omega)]
    · unfold sortWorldK putRowK
      rw [heap_grow_old _ _ (by simpa [putRow, mapBlock, Sort.ahead] using hk')]
      have : g ≠ k := fun e => hne (by rw [e])
      simp [putRow, mapBlock, Sort.ahead, Array.getElem?_modify, this]
end
/-- Accounts whose amounts are known. -/
def legL (L : List (Nat × Int)) : Lies Nat := ⟨fun a => legT.cells (rowA L a), 2, fun _ => rfl, fun _ => legT.one _⟩
theorem flat_legL (L : List (Nat × Int)) (R : List Nat) : flatS (legL L) R = flatS legT (R.map (rowA L)) := by
  unfold flatS
  rw [List.flatMap_map]
  rfl
def cmpN (a b : Nat) : Int := if a < b then -1 else if b < a then 1 else 0
set_option maxRecDepth 20000 in
theorem NaN8_any (a : Int) (w : World) : Calls Tryz.prog 191 #[.int .u8 a] w fun e w' => e = .returned (.bool false) ∧ w = w' := by
  go_enter Tryz.func191, Tryz.ntmps191
  go_wp2_with fail
  go_ret
  exact ⟨by first | rfl | simp, rfl⟩
set_option maxRecDepth 20000 in
theorem Cmp8_any (a b : Nat) (w : World) : Calls Tryz.prog 153 #[.int .u8 (a : Int), .int .u8 (b : Int)] w fun e w' => e = .returned (.int .i64 (cmpN a b)) ∧ w = w' := by
  have hN := fun x W => NaN8_any x W
  unfold cmpN
  by_cases h1 : a < b
  · rw [if_pos h1]
    have h2 : (a : Int) < (b : Int) := by omega
    go_enter Tryz.func153, Tryz.ntmps153
    go_wp2_with (go_at_call 191; refine (hN _ _).mono ?_; rintro e w' ⟨rfl, rfl⟩)
    go_ret
    exact ⟨rfl, rfl⟩
  · rw [if_neg h1]
    have h2 : ¬ (a : Int) < (b : Int) := by omega
    by_cases h3 : b < a
    · rw [if_pos h3]
      have h4 : (b : Int) < (a : Int) := by omega
      go_enter Tryz.func153, Tryz.ntmps153
      go_wp2_with (go_at_call 191; refine (hN _ _).mono ?_; rintro e w' ⟨rfl, rfl⟩)
      go_ret
      exact ⟨rfl, rfl⟩
    · rw [if_neg h3]
      have h4 : ¬ (b : Int) < (a : Int) := by omega
      go_enter Tryz.func153, Tryz.ntmps153
      go_wp2_with (go_at_call 191; refine (hN _ _).mono ?_; rintro e w' ⟨rfl, rfl⟩)
      go_ret
      exact ⟨rfl, rfl⟩
set_option maxRecDepth 20000 in
theorem Make1_any (a b : Nat) (x y : Int) (W : World) : Calls Tryz.prog 152 #[.agg #[.int .u8 (a : Int), .int .i64 x], .agg #[.int .u8 (b : Int), .int .i64 y]] W fun e w' => e = .returned (.int .i64 (cmpN a b)) ∧ ∃ q os', w' = grow (W.drewN q) os' := by
  have hC := fun W => Cmp8_any a b W
  generalize cmpN a b = r at hC ⊢
  go_enter Tryz.func152, Tryz.ntmps152
  go_wp2_with (go_at_call 153; refine (hC _).mono ?_; rintro e w' ⟨rfl, rfl⟩)
  go_ret
  exact ⟨rfl, 0, _, by rw [alloc_eq_grow, alloc_eq_grow, grow_grow]; rfl⟩
theorem swoN : SWO (ltOf cmpN) := by
  have h : ∀ a b, ltOf cmpN a b = decide (a < b) := fun a b => by
    unfold ltOf cmpN
    by_cases h1 : a < b
    · simp [h1]
    · by_cases h2 : b < a <;> simp [h1, h2]
  refine ⟨fun x => by rw [h]; simp, fun x y z h1 h2 => ?_, fun x y z h1 h2 => ?_⟩
  · rw [h] at *; simp at *; omega
  · rw [h] at *; simp at *; omega
theorem ltN (a b : Nat) : ltOf cmpN a b = decide (a < b) := by
  unfold ltOf cmpN
  by_cases h1 : a < b
  · simp [h1]
  · by_cases h2 : b < a <;> simp [h1, h2]
theorem isAggLeg (w : World) : (isAgg 99).run Tryz.prog w = .ok true w := by kernel_rfl
theorem sizeLeg (w : World) : (Go.sizeOf 99).run Tryz.prog w = .ok 2 w := by kernel_rfl
/-- Behind the sort: the same row, its accounts rising. -/
def SortPost (L : List (Nat × Int)) (R : List Nat) (w : World) (base g n cap : Nat) (e : Ending) (w' : World) : Prop :=
  e = .returned (.tuple #[]) ∧ OwnS legT 99 w' base (.slice (some ⟨g, 0, none⟩) n cap) n ((R.mergeSort (fun x y => decide (x ≤ y))).map (rowA L)) ∧ w.grownBy w' (some g)
theorem Sort_any (L : List (Nat × Int)) (R : List Nat) (w : World) (base g n cap : Nat) (h : OwnS legT 99 w base (.slice (some ⟨g, 0, none⟩) n cap) n (R.map (rowA L))) (hsz : n < 1000000) :
    Calls Tryz.prog 151 #[.slice (some ⟨g, 0, none⟩) n cap, .func (.func 152) #[] #[]] w (SortPost L R w base g n cap) := by
  have hk : 0 < (legL L).k := by show 0 < 2; omega
  have h0 : OwnS (legL L) 99 w base (.slice (some ⟨g, 0, none⟩) n cap) n R := by
    unfold OwnS at h ⊢
    rw [flat_legL]
    exact h
  obtain ⟨hH, hb, hlt⟩ := own_holds hk h0
  have hl := h0.length hk
  have eg : ∀ args w, (callFunc 152 args).run Tryz.prog w = .ok (.enter 152 args) w := enters_of Tryz.func152 (by kernel_rfl) rfl
  have hcon := AnyQ.slices_SortFunc_total Tryz.sortLeg 2 isAggLeg sizeLeg (legL L).cells (fun _ => rfl) (legL L).one cmpN swoN 152 #[] g 0 cap R.toArray w eg
    (fun m os dk _ x y => Make1_any x y (sumA L x) (sumA L y) _) hH hlt (by simp; omega) (fun x y h1 h2 => by rw [ltN] at h1 h2; simp at h1 h2; omega)
  change Calls Tryz.prog 151 _ _ _ at hcon
  rw [show R.toArray.size = n by simpa using hl] at hcon
  refine hcon.mono ?_
  rintro e w' ⟨rfl, m, os, rfl⟩
  have hle : (fun x y => !(ltOf cmpN) y x) = (fun x y : Nat => decide (x ≤ y)) := by
    funext x y
    rw [ltN]
    by_cases h : x ≤ y
    · rw [decide_eq_true h, decide_eq_false (by omega)]; rfl
    · rw [decide_eq_false h, decide_eq_true (by omega)]; rfl
  rw [hle]
  obtain ⟨g1, g2⟩ := own_sorted (m := m) (os := os) (l' := R.mergeSort (fun x y => decide (x ≤ y))) hk h0 (by simp)
  refine ⟨rfl, ?_, g2⟩
  unfold OwnS at g1 ⊢
  rw [flat_legL] at g1
  exact g1
end Go.Proofs.YtpbfipeinblfgaaGreatDoor
namespace Go.Proofs.YtpbfipeinblfgaaGreatDoor
open Go.ChangeShapes Go.WideShapes Go.ChangeAt Go.RowKit Go.Maps

def MakePost (y : Ky) (L : List (Nat × Int)) (w : World) (e : Ending) (w' : World) : Prop :=
  ∃ (A : Option Addr) (c : Nat), e = .returned (entV y (.slice A (mkL L).length c)) ∧ OwnS legT 99 w' w.heap.size (.slice A (mkL L).length c) (mkL L).length (mkL L) ∧ Below w.heap.size w w'
set_option maxRecDepth 100000 in
theorem fin_make {w W : World} {T : Array Value} {y : Ky} {L : List (Nat × Int)} {A : Option Addr} {c g : Nat} (hB : Below w.heap.size w W) (hQ : Blk W g 61 (entC y (.slice A (mkL L).length c)))
    (hO : OwnS legT 99 W w.heap.size (.slice A (mkL L).length c) (mkL L).length (mkL L)) (h2 : T[4]? = some (.pointer (some ⟨g, 0, none⟩))) :
    bodyPost Tryz.prog Tryz.f104 (MakePost y L w) Exit.ret { tmps := T, defers := [] } W := by
  have c0 := hQ.cell 0
  have c1 := hQ.cell 1
  have c2 := hQ.cell 2
  have c3 := hQ.cell 3
  have c4 := hQ.cell 4
  unfold entC at c0 c1 c2 c3 c4
  simp at c0 c1 c2 c3 c4
  refine bodyPost_ret (v := entV y (.slice A (mkL L).length c)) ?_ rfl ⟨A, c, rfl, hO, hB⟩
  unfold entV entC
  simp [results, Tryz.results104, go_sem, h2, c0, c1, c2, c3, c4, Result.andThen]
set_option maxRecDepth 100000 in
set_option maxHeartbeats 4000000 in
theorem Make_no (y : Ky) (A : Option Addr) (n c B : Nat) (L : List (Nat × Int)) (w : World) (hR : Rs legT w B A L) (hn : L.length = n) (hm : n ≤ 1000) (hB : B ≤ w.heap.size) (hI : ∀ u ∈ L, LegIn u) (hok : ¬ okL L) :
    Calls Tryz.prog 104 #[y.v, .slice A n c] w (MakePost y L w) := by
  have hmk := mkL_no hok
  have hA := fun W (h : Below w.heap.size w W) => Added_any A n c B L W (hR.below (h.mono hB)) hn (by omega) (Nat.le_trans hB h.size) hI
  have HQ0 := Lib.hid ((Blk.new w 58 #[.int .u32 (y.a : Int), .int .i32 y.d, .int .u8 (y.k : Int), .int .u32 (y.s : Int)]).alloc (.cells #[.int .u32 0, .int .i32 0, .int .u8 0, .int .u32 0, .slice Option.none 0 0] 61))
  have HE0 : Hid (Blk ((w.alloc (.cells #[.int .u32 (y.a : Int), .int .i32 y.d, .int .u8 (y.k : Int), .int .u32 (y.s : Int)] 58)).alloc (.cells #[.int .u32 0, .int .i32 0, .int .u8 0, .int .u32 0, .slice Option.none 0 0] 61)) (w.heap.size + 1) 61 #[.int .u32 0, .int .i32 0, .int .u8 0, .int .u32 0, .slice Option.none 0 0]) := Lib.hid (by
    have h := Blk.new (w.alloc (.cells #[.int .u32 (y.a : Int), .int .i32 y.d, .int .u8 (y.k : Int), .int .u32 (y.s : Int)] 58)) 61 #[.int .u32 0, .int .i32 0, .int .u8 0, .int .u32 0, .slice Option.none 0 0]
    rw [show (w.alloc (.cells #[.int .u32 (y.a : Int), .int .i32 y.d, .int .u8 (y.k : Int), .int .u32 (y.s : Int)] 58)).heap.size = w.heap.size + 1 by simp] at h
    exact h)
  have HB0 := Lib.hid ((b_alloc w (.cells #[.int .u32 (y.a : Int), .int .i32 y.d, .int .u8 (y.k : Int), .int .u32 (y.s : Int)] 58)).alloc (by simp) (.cells #[.int .u32 0, .int .i32 0, .int .u8 0, .int .u32 0, .slice Option.none 0 0] 61))
  unfold Ky.v
  clear hR hI
  go_enter Tryz.func104, Tryz.ntmps104
  go_wp2_with fail
  refine (hA _ HB0.out).mono ?_
  rintro e w1 ⟨_, h2, hb1⟩
  obtain rfl := h2 hok
  have HQ1 := Lib.hid (HQ0.out.below hb1 HQ0.out.lt)
  have HE1 := Lib.hid (HE0.out.below hb1 HE0.out.lt)
  have HB1 := Lib.hid (HB0.out.trans (hb1.mono HB0.out.size))
  clear hb1 h2 hA hok
  have c0 := HQ1.out.cell 0
  have c1 := HQ1.out.cell 1
  have c2 := HQ1.out.cell 2
  have c3 := HQ1.out.cell 3
  have e0 := HE1.out.cell 0
  have e1 := HE1.out.cell 1
  have e2 := HE1.out.cell 2
  have e3 := HE1.out.cell 3
  have e4 := HE1.out.cell 4
  have f0 := HE1.out.frozen 0
  have f1 := HE1.out.frozen 1
  have f2 := HE1.out.frozen 2
  have f3 := HE1.out.frozen 3
  have f4 := HE1.out.frozen 4
  simp at c0 c1 c2 c3 e0 e1 e2 e3 e4 f0 f1 f2 f3 f4
  unfold eno
  go_wp2_with fail
  refine fin_make (A := Option.none) (c := 0) (g := w.heap.size + 1) ?_ ?_ ?_ rfl
  · exact below_set5c HB1.out (by omega) _ _ _ _ _
  · rw [hmk]
    exact set5c HE1.out _ _ _ _ _
  · rw [hmk]
    exact OwnS.nil_ _ _ _
/-- The ranging: these accounts have come, the others are still to come. -/
def Met (L : List (Nat × Int)) (R : List Nat) (left : Lit → Bool) : Prop := R.Nodup ∧ (∀ a : Nat, a ∈ R ↔ (hasA L a = true ∧ left (.int .u8 (a : Int)) = false))
theorem Met.start {D : DataW Unit} {L : List (Nat × Int)} (h : Is13 D L) : Met L [] (Maps.has D) := ⟨List.nodup_nil, fun a => by rw [h.2.1]; cases hasA L a <;> simp⟩
theorem Met.step {L : List (Nat × Int)} {R : List Nat} {left : Lit → Bool} {a : Nat} (h : Met L R left) (hl : left (.int .u8 (a : Int)) = true) (hh : hasA L a = true) : Met L (R ++ [a]) (fun z => left z && !z.sameKey (.int .u8 (a : Int))) := by
  obtain ⟨h1, h2⟩ := h
  have hna : a ∉ R := fun h => by
    have := ((h2 a).1 h).2
    rw [hl] at this
    cases this
  refine ⟨List.nodup_append.2 ⟨h1, by simp, fun x hx z hz => ?_⟩, fun b => ?_⟩
  · rw [List.mem_singleton.1 hz]
    exact fun e => hna (e ▸ hx)
  · rw [List.mem_append, List.mem_singleton, h2]
    by_cases e : b = a
    · subst e
      simp [hh, Lit.sameKey]
    · have : (Lit.int .u8 (b : Int)).sameKey (.int .u8 (a : Int)) = false := Maps.sameKey_ne (key_ne (fun h => e h.symm))
      simp [e, this]
theorem Met.end_ {L : List (Nat × Int)} {R : List Nat} {left : Lit → Bool} (h : Met L R left) (hl : ∀ kl, left kl = false) (hI : ∀ u ∈ L, LegIn u) : R.mergeSort (fun x y => decide (x ≤ y)) = keysA L :=
  sorted_keys h.1 (fun a => by rw [h.2, hl]; simp) (fun g hg => (hI g hg).1) _ (fun _ _ => rfl)
theorem Met.few {L : List (Nat × Int)} {R : List Nat} {left : Lit → Bool} (h : Met L R left) : R.length ≤ L.length := keys_few h.1 (fun a ha => ((h.2 a).1 ha).1)
set_option maxRecDepth 100000 in
set_option maxHeartbeats 4000000 in
theorem Make_ok (y : Ky) (A : Option Addr) (n c B : Nat) (L : List (Nat × Int)) (w : World) (hR : Rs legT w B A L) (hn : L.length = n) (hm : n ≤ 1000) (hB : B ≤ w.heap.size) (hI : ∀ u ∈ L, LegIn u) (hok : okL L) :
    Calls Tryz.prog 104 #[y.v, .slice A n c] w (MakePost y L w) := by
  have hmk := mkL_ok hok
  have HIN := Lib.hid hI
  subst hn
  have hA := fun W (h : Below w.heap.size w W) => Added_any A _ c B L W (hR.below (h.mono hB)) rfl (by omega) (Nat.le_trans hB h.size) hI
  have HQ0 := Lib.hid ((Blk.new w 58 #[.int .u32 (y.a : Int), .int .i32 y.d, .int .u8 (y.k : Int), .int .u32 (y.s : Int)]).alloc (.cells #[.int .u32 0, .int .i32 0, .int .u8 0, .int .u32 0, .slice Option.none 0 0] 61))
  have HE0 : Hid (Blk ((w.alloc (.cells #[.int .u32 (y.a : Int), .int .i32 y.d, .int .u8 (y.k : Int), .int .u32 (y.s : Int)] 58)).alloc (.cells #[.int .u32 0, .int .i32 0, .int .u8 0, .int .u32 0, .slice Option.none 0 0] 61)) (w.heap.size + 1) 61 #[.int .u32 0, .int .i32 0, .int .u8 0, .int .u32 0, .slice Option.none 0 0]) := Lib.hid (by
    have h := Blk.new (w.alloc (.cells #[.int .u32 (y.a : Int), .int .i32 y.d, .int .u8 (y.k : Int), .int .u32 (y.s : Int)] 58)) 61 #[.int .u32 0, .int .i32 0, .int .u8 0, .int .u32 0, .slice Option.none 0 0]
    rw [show (w.alloc (.cells #[.int .u32 (y.a : Int), .int .i32 y.d, .int .u8 (y.k : Int), .int .u32 (y.s : Int)] 58)).heap.size = w.heap.size + 1 by simp] at h
    exact h)
  have HB0 := Lib.hid ((b_alloc w (.cells #[.int .u32 (y.a : Int), .int .i32 y.d, .int .u8 (y.k : Int), .int .u32 (y.s : Int)] 58)).alloc (by simp) (.cells #[.int .u32 0, .int .i32 0, .int .u8 0, .int .u32 0, .slice Option.none 0 0] 61))
  unfold Ky.v
  clear hR hI
  go_enter Tryz.func104, Tryz.ntmps104
  go_wp2_with fail
  refine (hA _ HB0.out).mono ?_
  rintro e w1 ⟨h1, _, hb1⟩
  obtain ⟨D, rfl, hown, his⟩ := h1 hok
  rw [show ((w.alloc (.cells #[.int .u32 (y.a : Int), .int .i32 y.d, .int .u8 (y.k : Int), .int .u32 (y.s : Int)] 58)).alloc (.cells #[.int .u32 0, .int .i32 0, .int .u8 0, .int .u32 0, .slice Option.none 0 0] 61)).heap.size = w.heap.size + 2 by simp] at hown
  have HQ1 := Lib.hid (HQ0.out.below hb1 HQ0.out.lt)
  have HE1 := Lib.hid (HE0.out.below hb1 HE0.out.lt)
  have HB1 := Lib.hid (HB0.out.trans (hb1.mono HB0.out.size))
  have hz1 : w.heap.size + 2 ≤ w1.heap.size := by have := hb1.size; simpa using this
  have HIS := Lib.hid his
  have hmb := hown.lt
  clear hb1 h1 hA hok his
  have c0 := HQ1.out.cell 0
  have c1 := HQ1.out.cell 1
  have c2 := HQ1.out.cell 2
  have c3 := HQ1.out.cell 3
  simp at c0 c1 c2 c3
  have HMO := Lib.hid (hown.alloc (.cells #[.int .u32 (y.a : Int), .int .i32 y.d, .int .u8 (y.k : Int), .int .u32 (y.s : Int), .slice Option.none 0 0] 61))
  have HE2 := Lib.hid (HE1.out.alloc (.cells #[.int .u32 (y.a : Int), .int .i32 y.d, .int .u8 (y.k : Int), .int .u32 (y.s : Int), .slice Option.none 0 0] 61))
  have HN2 := Lib.hid (Blk.new w1 61 #[.int .u32 (y.a : Int), .int .i32 y.d, .int .u8 (y.k : Int), .int .u32 (y.s : Int), .slice Option.none 0 0])
  have HB2 := Lib.hid (HB1.out.alloc HB1.out.size (.cells #[.int .u32 (y.a : Int), .int .i32 y.d, .int .u8 (y.k : Int), .int .u32 (y.s : Int), .slice Option.none 0 0] 61))
  obtain ⟨W, hW⟩ : ∃ W, w1.alloc (.cells #[.int .u32 (y.a : Int), .int .i32 y.d, .int .u8 (y.k : Int), .int .u32 (y.s : Int), .slice Option.none 0 0] 61) = W := ⟨_, rfl⟩
  have hWs : W.heap.size = w1.heap.size + 1 := by rw [← hW]; simp
  rw [hW] at HMO HE2 HN2 HB2
  have HWW := Lib.hid hW
  have HWs := Lib.hid hWs
  clear hown hW hWs
  go_wp2_with (at_range; rw [HWW.out]; refine wpList_range_own _ rfl _ 216 rfl 5 22 lawK Tryz.underlying216 _ (w.heap.size + 2) L.length _ rfl HMO.out ?_; intro w3 hrg3 hg3 hs3)
  go_frame
  have HE3 := Lib.hid (HE2.out.grown hg3 (by simp))
  have HN3 := Lib.hid (HN2.out.grown hg3 (by simp))
  have HB3 := Lib.hid (HB2.out.grown hg3 HB2.out.size (fun j hj => by cases hj))
  have HR3 := Lib.hid hrg3
  clear hrg3 hg3 hs3 HMO c0 c1 c2 c3
  go_loopw [8, 9] (fun _ _ wr => ∃ (R : List Nat) (left : Lit → Bool) (cnt : Nat) (v : Value), Hid (Met L R left) ∧ Hid (wr.ranges Tryz.prog 5 (plainElem Tryz.prog 22) (w.heap.size + 2) W.heap.size L.length D left cnt) ∧ Hid (Blk wr w1.heap.size 61 #[.int .u32 (y.a : Int), .int .i32 y.d, .int .u8 (y.k : Int), .int .u32 (y.s : Int), v]) ∧ Hid (Blk wr (w.heap.size + 1) 61 #[.int .u32 0, .int .i32 0, .int .u8 0, .int .u32 0, .slice Option.none 0 0]) ∧ Hid (OwnS legT 99 wr w.heap.size v R.length (R.map (rowA L))) ∧ Hid (Below w.heap.size w wr))
    (fun _ _ wr => wr.rangeLeft (w.heap.size + 2) W.heap.size)
  case atStart => exact ⟨[], _, _, .slice Option.none 0 0, Lib.hid (Met.start HIS.out), HR3, HN3, HE3, Lib.hid (OwnS.nil_ _ _ _), HB3⟩
  case round =>
    obtain ⟨R, left, cnt, v, HM, HR, HN, HE, HO, HBL⟩ := hrel
    have hfew := HM.out.few
    go_wp2_with (at_next; refine wpList_next_ranges_ii _ rfl _ rfl 5 22 .u8 .i64 lawK Tryz.underlying5 Tryz.underlying22 (w.heap.size + 2) W.heap.size L.length _ _ _ rfl HR.out ?_ ?_)
    · intro _ hl0
      have HS := Lib.hid (HM.out.end_ hl0 HIN.out)
      have hNe := HO.out.ne_blk HN.out entNe
      have hEe := HO.out.ne_blk HE.out entNe
      have HNE := Lib.hid hNe
      have HEE := Lib.hid hEe
      have n4 := HN.out.cell 4
      simp at n4
      clear hl0 hNe hEe
      rcases HO.out.2 with ⟨hv, hr0⟩ | ⟨g, cap, cur, hv, hbg, _, hncap, _, _, _⟩
      · obtain rfl : R = [] := List.eq_nil_of_length_eq_zero hr0
        subst hv
        clear hr0
        have hSn := fun W => AnyF.slices_SortFunc_none Tryz.sortLeg Option.none 0 (.func (.func 152) #[] #[]) W
        replace hSn : ∀ W, Calls Tryz.prog 151 #[.slice Option.none 0 0, .func (.func 152) #[] #[]] W fun e w' => e = .returned (.tuple #[]) ∧ w' = W := hSn
        go_wp2_with fail
        refine (hSn _).mono ?_
        rintro e w5 ⟨rfl, rfl⟩
        clear hSn n4
        have d0 := HN.out.cell 0
        have d1 := HN.out.cell 1
        have d2 := HN.out.cell 2
        have d3 := HN.out.cell 3
        have d4 := HN.out.cell 4
        simp at d0 d1 d2 d3 d4
        have e0 := HE.out.cell 0
        have e1 := HE.out.cell 1
        have e2 := HE.out.cell 2
        have e3 := HE.out.cell 3
        have e4 := HE.out.cell 4
        have ef0 := HE.out.frozen 0
        have ef1 := HE.out.frozen 1
        have ef2 := HE.out.frozen 2
        have ef3 := HE.out.frozen 3
        have ef4 := HE.out.frozen 4
        simp at e0 e1 e2 e3 e4 ef0 ef1 ef2 ef3 ef4
        go_wp2_with fail
        have hm0 : mkL L = [] := by rw [hmk, ← HS.out]; simp
        refine fin_make (A := Option.none) (c := 0) (g := w.heap.size + 1) ?_ ?_ ?_ rfl
        · exact below_set5c HBL.out (by omega) _ _ _ _ _
        · rw [hm0]
          exact set5c HE.out _ _ _ _ _
        · rw [hm0]
          exact OwnS.nil_ _ _ _
      · subst hv
        have hSo := Sort_any L R wr w.heap.size g R.length cap HO.out (by omega)
        clear hncap
        go_wp2_with fail
        refine hSo.mono ?_
        rintro e w5 ⟨rfl, ho5, hg5⟩
        rw [HS.out] at ho5
        have hgn : w1.heap.size ≠ g := fun e => HNE.out (by rw [← e]; rfl)
        have hge : w.heap.size + 1 ≠ g := fun e => HEE.out (by rw [← e]; rfl)
        have HN := Lib.hid (HN.out.grown hg5 (fun e => hgn (Option.some.inj e)))
        have HE := Lib.hid (HE.out.grown hg5 (fun e => hge (Option.some.inj e)))
        have HO5 := Lib.hid ho5
        have HB5 := Lib.hid (HBL.out.grown hg5 HBL.out.size (fun j hj => by cases hj; exact hbg))
        have HKL := Lib.hid (show ((keysA L).map (rowA L)).length = R.length by rw [← HS.out]; simp)
        clear hSo ho5 hg5 n4 hgn
        have d0 := HN.out.cell 0
        have d1 := HN.out.cell 1
        have d2 := HN.out.cell 2
        have d3 := HN.out.cell 3
        have d4 := HN.out.cell 4
        simp at d0 d1 d2 d3 d4
        have e0 := HE.out.cell 0
        have e1 := HE.out.cell 1
        have e2 := HE.out.cell 2
        have e3 := HE.out.cell 3
        have e4 := HE.out.cell 4
        have ef0 := HE.out.frozen 0
        have ef1 := HE.out.frozen 1
        have ef2 := HE.out.frozen 2
        have ef3 := HE.out.frozen 3
        have ef4 := HE.out.frozen 4
        simp at e0 e1 e2 e3 e4 ef0 ef1 ef2 ef3 ef4
        go_wp2_with fail
        refine fin_make (A := some ⟨g, 0, none⟩) (c := cap) (g := w.heap.size + 1) ?_ ?_ ?_ rfl
        · exact below_set5c HB5.out (by omega) _ _ _ _ _
        · rw [hmk, HKL.out]
          exact set5c HE.out _ _ _ _ _
        · rw [hmk, HKL.out]
          exact OwnS.set5 HO5.out HEE.out _ _ _ _ _
    · intro x cc w4 cnt4 hwx hwc hlx hat hrg4 hlt4 hg4 hs4 hen
      obtain ⟨a, rfl, ha⟩ := wf_u8 hwx
      have hh : hasA L a = true := by rw [← HIS.out.2.1 a]; exact has_true_of_atKey hat
      have hcc : cc = sumA L a := by
        have h1 := (hat (.lit (.int .i64 0))).symm.trans (HIS.out.2.2 a)
        injection h1 with h1
        injection h1 with _ h1
      have HM4 := Lib.hid (HM.out.step hlx hh)
      have hir := HO.out.ne_iter HR.out
      have HR4 := Lib.hid (hrg4.alloc (.cells #[.int .u8 (a : Int), .int .i64 cc] 99))
      have HN4 := Lib.hid ((HN.out.grown hg4 (fun e => by have h1 := HR.out.lt; have h2 := HWs.out; injection e with e; omega)).alloc (.cells #[.int .u8 (a : Int), .int .i64 cc] 99))
      have HE4 := Lib.hid ((HE.out.grown hg4 (fun e => by have h2 := HWs.out; injection e with e; omega)).alloc (.cells #[.int .u8 (a : Int), .int .i64 cc] 99))
      have HO4' := HO.out.grown hg4 (.inl (fun e => hir e.symm))
      have HO4 := Lib.hid (HO4'.alloc (.cells #[.int .u8 (a : Int), .int .i64 cc] 99))
      have hb4 := HBL.out.grown hg4 HBL.out.size (fun j hj => by cases hj; have h2 := HWs.out; omega)
      have HB4 := Lib.hid (hb4.alloc hb4.size (.cells #[.int .u8 (a : Int), .int .i64 cc] 99))
      have HL := Lib.hid (Rs.block (T := legT) (u := (a, cc)) (Blk.new w4 99 #[.int .u8 (a : Int), .int .i64 cc]))
      have HRW := Lib.hid (show R.map (rowA L) ++ [(a, cc)] = (R ++ [a]).map (rowA L) by rw [hcc]; simp [rowA])
      have hsz4 := hb4.size
      have HLT := Lib.hid hlt4
      have HMS := Lib.hid HR.out.left_eq
      have n4 := (HN.out.grown hg4 (fun e => by have h1 := HR.out.lt; have h2 := HWs.out; injection e with e; omega)).cell 4
      simp at n4
      clear hrg4 hg4 hs4 hat hlx hwx hwc hh hcc hir HO4' hb4 hlt4
      go_wp2_with (with_reducible refine wpList_appendS (o := ⟨some 34, _, _, _, _, _⟩) rfl rowLeg (.tmp 29) (.tmp 33) rfl w.heap.size _ R.length (R.map (rowA L)) ?h1 HO4.out _ (some ⟨w4.heap.size, 0, none⟩) 1 1 [(a, cc)] ?h2 HL.out rfl ?h3 ?h4 ?h5 ?_)
      try (case h1 => rfl)
      try (case h2 => rfl)
      try (case h3 => unfold maxLen; omega)
      try (case h4 => omega)
      try (case h5 => first | omega | (simp; omega))
      intro v5 w5 ho5 hg5 _ _
      rw [HRW.out] at ho5
      obtain ⟨_, A5, c5, rfl, _, _, _⟩ := ho5.form (by decide)
      have hN5 := HN4.out.grown hg5 (fun e => HO4.out.ne_blk HN4.out entNe e.symm)
      have hE5 := HE4.out.grown hg5 (fun e => HO4.out.ne_blk HE4.out entNe e.symm)
      have hR5 := HR4.out.kept hg5 (fun e => HO4.out.ne_map HR4.out.owns e.symm) (fun e => HO4.out.ne_iter HR4.out e.symm)
      have hb5 := HB4.out.grown hg5 HB4.out.size (fun j hj => (HO4.out.lt j hj).1)
      have hne5 := ho5.ne_blk hN5 entNe
      have HO5 := Lib.hid (ho5.grown (grown_set w5 w1.heap.size 4 (.slice A5 (R.length + 1) c5)) (.inl (fun e => hne5 e.symm)))
      have HN5 := Lib.hid (hN5.set_ 4 (.slice A5 (R.length + 1) c5))
      have HE5 := Lib.hid (hE5.grown (grown_set w5 w1.heap.size 4 (.slice A5 (R.length + 1) c5)) (fun e => by injection e with e; omega))
      have HR5 := Lib.hid (hR5.kept (grown_set w5 w1.heap.size 4 (.slice A5 (R.length + 1) c5)) (fun e => by injection e with e; omega) (fun e => by have h2 := HWs.out; injection e with e; omega))
      have HB5 := Lib.hid (hb5.setCell (by show w.heap.size ≤ w1.heap.size; omega) (.slice A5 (R.length + 1) c5) (p := ⟨w1.heap.size, 4, none⟩))
      have p4 := hN5.cell 4
      have q4 := hN5.frozen 4
      simp at p4 q4
      clear ho5 hg5 hN5 hE5 hR5 hb5 hne5 n4 HO4 HR4 HN4 HE4 HB4 HL
      go_wp2_with fail
      go_roundw
      case rel => exact ⟨R ++ [a], _, cnt4, _, HM4, HR5, HN5, HE5, Lib.hid (by rw [List.length_append]; exact HO5.out), HB5⟩
      case measure => rw [HR5.out.left_eq, HMS.out]; exact HLT.out
end Go.Proofs.YtpbfipeinblfgaaGreatDoor
