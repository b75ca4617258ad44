/-
Events in their order: of the same events there is one such list. Condition: their numbers differ.
The document's Right. Conditions: the rows are there.
Keys in their order; the document's. No condition.
Events compared: by day, then by number. No condition.
story.Sort: a copy of the events, in their order. Condition: fewer than twenty events.
A story's told: of events that may be, none before the loan's first day, all of them, in order. Condition: fewer than twenty events.
A story's told: of events that may be, none before the loan's first day, all of them, in order. Condition: fewer than twenty events.
The law's events: of deeds, each with a number of its own, as they stand or turned about. Conditions: a first day that may be.
-/
import Derived.Test.YtpbfipeinblfgaaGreatDoorSyCQ9
import Derived.Deep.CutBlock
import Derived.Test.YtpbfipeinblfgaaGreatDoorChHR9
import Derived.Test.YtpbfipeinblfgaaGreatDoorChDQ9
import Derived.StillTailTactics
import Derived.Test.YtpbfipeinblfgaaGreatDoorSyWQ9
import Derived.Lib.QuietBelow
import Derived.Sort.LotA
import Derived.Test.YtpbfipeinblfgaaGreatDoorYldAQ9
import Derived.Test.YtpbfipeinblfgaaGreatDoorDateAQ9
import Derived.BigQuiet
namespace Go.Proofs.YtpbfipeinblfgaaGreatDoor
def leE (a b : Ev) : Prop := a.d < b.d ∨ (a.d = b.d ∧ a.s ≤ b.s)
theorem sorted_one {α : Type} {R : α → α → Prop} : ∀ {l m : List α}, l.Perm m → l.Pairwise R → m.Pairwise R → (∀ a ∈ l, ∀ b ∈ l, R a b → R b a → a = b) → l = m
  | [], m, h, _, _, _ => (List.nil_perm.1 h).symm
  | a :: l, [], h, _, _, _ => by simpa using h.length_eq
  | a :: l, b :: m, h, h1, h2, ha => by
    obtain ⟨a1, a2⟩ := List.pairwise_cons.1 h1
    obtain ⟨b1, b2⟩ := List.pairwise_cons.1 h2
    have e : a = b := by
      have hb : b ∈ a :: l := h.symm.subset (List.mem_cons_self ..)
      have hm : a ∈ b :: m := h.subset (List.mem_cons_self ..)
      rcases List.mem_cons.1 hb with e | hb'
      · exact e.symm
      · rcases List.mem_cons.1 hm with e | hm'
        · exact e
        · exact ha a (List.mem_cons_self ..) b hb (a1 b hb') (b1 a hm')
    subst e
    rw [sorted_one ((List.perm_cons a).1 h) a2 b2 (fun x hx y hy => ha x (List.mem_cons_of_mem _ hx) y (List.mem_cons_of_mem _ hy))]
theorem nodup_same {l : List Ev} (hn : (l.map (·.s)).Nodup) {a b : Ev} (ha : a ∈ l) (hb : b ∈ l) (h : a.s = b.s) : a = b := by
  induction l with
  | nil => cases ha
  | cons x l ih =>
    obtain ⟨n1, n2⟩ := List.nodup_cons.1 (by simpa using hn : (x.s :: l.map (·.s)).Nodup)
    rcases List.mem_cons.1 ha with e1 | h1
    · rcases List.mem_cons.1 hb with e2 | h2
      · rw [e1, e2]
      · exact absurd (List.mem_map.2 ⟨b, h2, by rw [← h, e1]⟩) n1
    · rcases List.mem_cons.1 hb with e2 | h2
      · exact absurd (List.mem_map.2 ⟨a, h1, by rw [h, e2]⟩) n1
      · exact ih n2 h1 h2
theorem events_one {l m : List Ev} (h : l.Perm m) (h1 : l.Pairwise leE) (h2 : m.Pairwise leE) (hn : (l.map (·.s)).Nodup) : l = m :=
  sorted_one h h1 h2 fun a ha b hb g1 g2 => nodup_same hn ha hb (by
    unfold leE at g1 g2
    omega)
end Go.Proofs.YtpbfipeinblfgaaGreatDoor
namespace Go.Proofs.YtpbfipeinblfgaaGreatDoor
open Go.ChangeShapes Go.WideShapes Go.ChangeAt Go.RowKit

end Go.Proofs.YtpbfipeinblfgaaGreatDoor
namespace Go.Proofs.YtpbfipeinblfgaaGreatDoor
open Go.ChangeShapes Go.WideShapes Go.ChangeAt Go.RowKit

def cmpI (a b : Int) : Int := if a < b then -1 else if b < a then 1 else 0
theorem flip_same {f : FuncId} {args : Array Value} {w : World} {v : Value} (h : Calls Tryz.prog f args w fun e w' => e = .returned v ∧ w = w') : Calls Tryz.prog f args w fun e w' => e = .returned v ∧ w' = w :=
  h.mono fun _ _ h => ⟨h.1, h.2.symm⟩
set_option maxRecDepth 20000 in
theorem NaN32_any (a : Int) (w : World) : Calls Tryz.prog 149 #[.int .u32 a] w fun e w' => e = .returned (.bool false) ∧ w = w' := by
  go_enter Tryz.func149, Tryz.ntmps149
  go_wp2_with fail
  go_ret
  exact ⟨by first | rfl | simp, rfl⟩
set_option maxRecDepth 20000 in
theorem Cmp32_any (a b : Int) (w : World) : Calls Tryz.prog 102 #[.int .u32 a, .int .u32 b] w fun e w' => e = .returned (.int .i64 (cmpI a b)) ∧ w = w' := by
  have hN := fun x W => NaN32_any x W
  unfold cmpI
  by_cases h1 : a < b
  · rw [if_pos h1]
    go_enter Tryz.func102, Tryz.ntmps102
    go_wp2_with (go_at_call 149; refine (hN _ _).mono ?_; rintro e w' ⟨rfl, rfl⟩)
    go_ret
    exact ⟨rfl, rfl⟩
  · rw [if_neg h1]
    by_cases h3 : b < a
    · rw [if_pos h3]
      go_enter Tryz.func102, Tryz.ntmps102
      go_wp2_with (go_at_call 149; refine (hN _ _).mono ?_; rintro e w' ⟨rfl, rfl⟩)
      go_ret
      exact ⟨rfl, rfl⟩
    · rw [if_neg h3]
      go_enter Tryz.func102, Tryz.ntmps102
      go_wp2_with (go_at_call 149; refine (hN _ _).mono ?_; rintro e w' ⟨rfl, rfl⟩)
      go_ret
      exact ⟨rfl, rfl⟩
set_option maxRecDepth 20000 in
theorem NaNDay_any (a : Int) (w : World) : Calls Tryz.prog 148 #[.int .i32 a] w fun e w' => e = .returned (.bool false) ∧ w = w' := by
  go_enter Tryz.func148, Tryz.ntmps148
  go_wp2_with fail
  go_ret
  exact ⟨by first | rfl | simp, rfl⟩
set_option maxRecDepth 20000 in
theorem CmpDay_any (a b : Int) (w : World) : Calls Tryz.prog 101 #[.int .i32 a, .int .i32 b] w fun e w' => e = .returned (.int .i64 (cmpI a b)) ∧ w = w' := by
  have hN := fun x W => NaNDay_any x W
  unfold cmpI
  by_cases h1 : a < b
  · rw [if_pos h1]
    go_enter Tryz.func101, Tryz.ntmps101
    go_wp2_with (go_at_call 148; refine (hN _ _).mono ?_; rintro e w' ⟨rfl, rfl⟩)
    go_ret
    exact ⟨rfl, rfl⟩
  · rw [if_neg h1]
    by_cases h3 : b < a
    · rw [if_pos h3]
      go_enter Tryz.func101, Tryz.ntmps101
      go_wp2_with (go_at_call 148; refine (hN _ _).mono ?_; rintro e w' ⟨rfl, rfl⟩)
      go_ret
      exact ⟨rfl, rfl⟩
    · rw [if_neg h3]
      go_enter Tryz.func101, Tryz.ntmps101
      go_wp2_with (go_at_call 148; refine (hN _ _).mono ?_; rintro e w' ⟨rfl, rfl⟩)
      go_ret
      exact ⟨rfl, rfl⟩
theorem cmpN_I (a b : Nat) : cmpN a b = cmpI (a : Int) (b : Int) := by
  unfold cmpN cmpI
  have e1 : ((a : Int) < (b : Int)) = (a < b) := propext (by omega)
  have e2 : ((b : Int) < (a : Int)) = (b < a) := propext (by omega)
  simp only [e1, e2]
/-- The first that isn't nothing. -/
def orI (a b c d : Int) : Int := if a ≠ 0 then a else if b ≠ 0 then b else if c ≠ 0 then c else d
set_option maxRecDepth 100000 in
set_option maxHeartbeats 4000000 in
theorem Or_any (a b c d : Int) (g : Nat) (ty : TypeId) (w : World) (hg : Blk w g ty #[.int .i64 a, .int .i64 b, .int .i64 c, .int .i64 d]) :
    Calls Tryz.prog 100 #[.slice (some ⟨g, 0, none⟩) 4 4] w fun e w' => e = .returned (.int .i64 (orI a b c d)) ∧ w = w' := by
  have x0 := hg.cell 0
  have x1 := hg.cell 1
  have x2 := hg.cell 2
  have x3 := hg.cell 3
  simp at x0 x1 x2 x3
  unfold orI
  clear hg
  by_cases ha : a = 0
  · subst ha
    rw [if_neg (by simp)]
    by_cases hb : b = 0
    · subst hb
      rw [if_neg (by simp)]
      by_cases hc : c = 0
      · subst hc
        rw [if_neg (by simp)]
        by_cases hd : d = 0
        · subst hd
          go_enter Tryz.func100, Tryz.ntmps100
          go_wp2_with fail
          go_rounds 5
          go_wp2_with fail
          go_ret
          exact ⟨rfl, rfl⟩
        · have b4 : (d == 0) = false := by rw [beq_eq_false_iff_ne]; exact hd
          go_enter Tryz.func100, Tryz.ntmps100
          go_wp2_with fail
          go_rounds 5
          go_wp2_with fail
          go_ret
          exact ⟨rfl, rfl⟩
      · rw [if_pos hc]
        have b3 : (c == 0) = false := by rw [beq_eq_false_iff_ne]; exact hc
        go_enter Tryz.func100, Tryz.ntmps100
        go_wp2_with fail
        go_rounds 5
        go_wp2_with fail
        go_ret
        exact ⟨rfl, rfl⟩
    · rw [if_pos hb]
      have b2 : (b == 0) = false := by rw [beq_eq_false_iff_ne]; exact hb
      go_enter Tryz.func100, Tryz.ntmps100
      go_wp2_with fail
      go_rounds 5
      go_wp2_with fail
      go_ret
      exact ⟨rfl, rfl⟩
  · rw [if_pos ha]
    have b1 : (a == 0) = false := by rw [beq_eq_false_iff_ne]; exact ha
    go_enter Tryz.func100, Tryz.ntmps100
    go_wp2_with fail
    go_rounds 5
    go_wp2_with fail
    go_ret
    exact ⟨rfl, rfl⟩
def lessB (y z : Ky) : Bool := decide (y.a < z.a) || (decide (y.a = z.a) && (decide (y.d < z.d) || (decide (y.d = z.d) && (decide (y.k < z.k) || (decide (y.k = z.k) && decide (y.s < z.s))))))
theorem cmpI_cases (a b : Int) : (a < b ∧ cmpI a b = -1) ∨ (a = b ∧ cmpI a b = 0) ∨ (b < a ∧ cmpI a b = 1) := by
  unfold cmpI
  rcases Int.lt_trichotomy a b with h | h | h
  · exact .inl ⟨h, if_pos h⟩
  · exact .inr (.inl ⟨h, by rw [if_neg (by omega), if_neg (by omega)]⟩)
  · exact .inr (.inr ⟨h, by rw [if_neg (by omega), if_pos h]⟩)
theorem or_less (y z : Ky) : decide (orI (cmpI (y.a : Int) (z.a : Int)) (cmpI y.d z.d) (cmpI (y.k : Int) (z.k : Int)) (cmpI (y.s : Int) (z.s : Int)) < 0) = lessB y z := by
  unfold lessB orI
  rcases cmpI_cases (y.a : Int) (z.a : Int) with ⟨h, e⟩ | ⟨h, e⟩ | ⟨h, e⟩
  · rw [e]; simp; omega
  · rw [e]
    have h' : y.a = z.a := by omega
    rcases cmpI_cases y.d z.d with ⟨g, e⟩ | ⟨g, e⟩ | ⟨g, e⟩
    · rw [e]; simp [h', g]
    · rw [e]
      rcases cmpI_cases (y.k : Int) (z.k : Int) with ⟨f, e⟩ | ⟨f, e⟩ | ⟨f, e⟩
      · rw [e]
        have f' : y.k < z.k := by omega
        simp [h', g, f']
      · rw [e]
        have f' : y.k = z.k := by omega
        rcases cmpI_cases (y.s : Int) (z.s : Int) with ⟨u, e⟩ | ⟨u, e⟩ | ⟨u, e⟩
        · rw [e]
          have u' : y.s < z.s := by omega
          simp [h', g, f', u']
        · rw [e]
          have u' : ¬ y.s < z.s := by omega
          simp [h', g, f', u']
        · rw [e]
          have u' : ¬ y.s < z.s := by omega
          simp [h', g, f', u']
      · rw [e]
        have f1 : ¬ y.k < z.k := by omega
        have f2 : ¬ y.k = z.k := by omega
        simp [h', g, f1, f2]
    · rw [e]
      have g1 : ¬ y.d < z.d := by omega
      have g2 : ¬ y.d = z.d := by omega
      simp [h', g1, g2]
  · rw [e]
    have h1 : ¬ y.a < z.a := by omega
    have h2 : ¬ y.a = z.a := by omega
    simp [h1, h2]
end Go.Proofs.YtpbfipeinblfgaaGreatDoor
namespace Go.Proofs.YtpbfipeinblfgaaGreatDoor
open Go.ChangeShapes Go.WideShapes Go.ChangeAt Go.RowKit Go.Shelf Go.Sort Go.Lib

def or2 (a b : Int) : Int := if a ≠ 0 then a else b
set_option maxRecDepth 100000 in
set_option maxHeartbeats 4000000 in
theorem Or2_any (a b : Int) (g : Nat) (ty : TypeId) (w : World) (hg : Blk w g ty #[.int .i64 a, .int .i64 b]) :
    Calls Tryz.prog 100 #[.slice (some ⟨g, 0, none⟩) 2 2] w fun e w' => e = .returned (.int .i64 (or2 a b)) ∧ w = w' := by
  have x0 := hg.cell 0
  have x1 := hg.cell 1
  simp at x0 x1
  unfold or2
  clear hg
  by_cases ha : a = 0
  · subst ha
    rw [if_neg (by simp)]
    by_cases hb : b = 0
    · subst hb
      go_enter Tryz.func100, Tryz.ntmps100
      go_wp2_with fail
      go_rounds 3
      go_wp2_with fail
      go_ret
      exact ⟨rfl, rfl⟩
    · have b2 : (b == 0) = false := by rw [beq_eq_false_iff_ne]; exact hb
      go_enter Tryz.func100, Tryz.ntmps100
      go_wp2_with fail
      go_rounds 3
      go_wp2_with fail
      go_ret
      exact ⟨rfl, rfl⟩
  · rw [if_pos ha]
    have b1 : (a == 0) = false := by rw [beq_eq_false_iff_ne]; exact ha
    go_enter Tryz.func100, Tryz.ntmps100
    go_wp2_with fail
    go_rounds 3
    go_wp2_with fail
    go_ret
    exact ⟨rfl, rfl⟩
theorem grow3 (w : World) (a b c : Obj) : (((w.alloc a).alloc b).drew.alloc c) = grow (w.drewN 1) #[a, b, c] := by
  rw [alloc_eq_grow, alloc_eq_grow, alloc_eq_grow, grow_grow, show (grow w (#[a] ++ #[b])).drew = grow (w.drewN 1) (#[a] ++ #[b]) from rfl, grow_grow]
  rfl
theorem grow_below {w W : World} {q : Nat} {os : Array Obj} (h : W = grow (w.drewN q) os) : Below w.heap.size w W := by
  subst h
  refine ⟨rfl, rfl, rfl, by simp [grow, World.drewN], fun i hi => ?_⟩
  simp [grow, World.drewN, Array.getElem?_append_left hi]
def GrowPost (v : Value) (w : World) (e : Ending) (w' : World) : Prop := e = .returned v ∧ ∃ q os', w' = grow (w.drewN q) os'
def cmpE (a b : Ev) : Int := or2 (cmpI a.d b.d) (cmpI (a.s : Int) (b.s : Int))
def Ev.v (a : Ev) : Value := .agg #[.int .u32 (a.s : Int), .int .i32 a.d, .int .u8 (a.k : Int), .int .i64 a.a]
set_option maxRecDepth 100000 in
set_option maxHeartbeats 4000000 in
theorem Sort1_any (x y : Ev) (w : World) : Calls Tryz.prog 99 #[x.v, y.v] w (GrowPost (.int .i64 (cmpE x y)) w) := by
  obtain ⟨s1, d1, k1, a1⟩ := x
  obtain ⟨s2, d2, k2, a2⟩ := y
  change Calls _ _ _ _ (GrowPost (.int .i64 (or2 (cmpI d1 d2) (cmpI (s1 : Int) (s2 : Int)))) w)
  unfold Ev.v
  dsimp only
  have HQ0 := Lib.hid ((Blk.new w 47 #[.int .u32 (s1 : Int), .int .i32 d1, .int .u8 (k1 : Int), .int .i64 a1]).alloc (.cells #[.int .u32 (s2 : Int), .int .i32 d2, .int .u8 (k2 : Int), .int .i64 a2] 47))
  have HP0 : Hid (Blk ((w.alloc (.cells #[.int .u32 (s1 : Int), .int .i32 d1, .int .u8 (k1 : Int), .int .i64 a1] 47)).alloc (.cells #[.int .u32 (s2 : Int), .int .i32 d2, .int .u8 (k2 : Int), .int .i64 a2] 47)) (w.heap.size + 1) 47 #[.int .u32 (s2 : Int), .int .i32 d2, .int .u8 (k2 : Int), .int .i64 a2]) := Lib.hid (by
    have h := Blk.new (w.alloc (.cells #[.int .u32 (s1 : Int), .int .i32 d1, .int .u8 (k1 : Int), .int .i64 a1] 47)) 47 #[.int .u32 (s2 : Int), .int .i32 d2, .int .u8 (k2 : Int), .int .i64 a2]
    rw [show (w.alloc (.cells #[.int .u32 (s1 : Int), .int .i32 d1, .int .u8 (k1 : Int), .int .i64 a1] 47)).heap.size = w.heap.size + 1 by simp] at h
    exact h)
  go_enter Tryz.func99, Tryz.ntmps99
  go_wp2_with fail
  obtain ⟨W2, hW2⟩ : ∃ W, ((w.alloc (.cells #[.int .u32 (s1 : Int), .int .i32 d1, .int .u8 (k1 : Int), .int .i64 a1] 47)).alloc (.cells #[.int .u32 (s2 : Int), .int .i32 d2, .int .u8 (k2 : Int), .int .i64 a2] 47)).drew = W := ⟨_, rfl⟩
  have HW2 := Lib.hid hW2
  have HQ2 : Hid (Blk W2 w.heap.size 47 #[.int .u32 (s1 : Int), .int .i32 d1, .int .u8 (k1 : Int), .int .i64 a1]) := Lib.hid (by rw [← hW2]; exact HQ0.out)
  have HP2 : Hid (Blk W2 (w.heap.size + 1) 47 #[.int .u32 (s2 : Int), .int .i32 d2, .int .u8 (k2 : Int), .int .i64 a2]) := Lib.hid (by rw [← hW2]; exact HP0.out)
  have x0 := HQ2.out.cell 0
  have x1 := HQ2.out.cell 1
  have z0 := HP2.out.cell 0
  have z1 := HP2.out.cell 1
  simp at x0 x1 z0 z1
  have c1 := Lib.hid (flip_same (CmpDay_any d1 d2 W2))
  have c2 := Lib.hid (flip_same (Cmp32_any (s1 : Int) (s2 : Int) W2))
  obtain ⟨r1, hr1⟩ : ∃ r, cmpI d1 d2 = r := ⟨_, rfl⟩
  rw [hr1] at c1
  have R1 := Lib.hid hr1
  clear hr1
  obtain ⟨r2, hr2⟩ : ∃ r, cmpI (s1 : Int) (s2 : Int) = r := ⟨_, rfl⟩
  rw [hr2] at c2
  have R2 := Lib.hid hr2
  clear hr2
  refine wp_region_still_tail 10 (by kernel_rfl) (by kernel_rfl) ?_
  simp only [List.take_succ_cons, List.take_zero, List.drop_succ_cons, List.drop_zero]
  change wpStill _ _ ((w.alloc (.cells #[.int .u32 (s1 : Int), .int .i32 d1, .int .u8 (k1 : Int), .int .i64 a1] 47)).alloc (.cells #[.int .u32 (s2 : Int), .int .i32 d2, .int .u8 (k2 : Int), .int .i64 a2] 47)).drew _ _ _
  rw [hW2]
  change wpStill _ _ W2 (fun a' => wpList _ _ _ _ a' ((w.alloc (.cells #[.int .u32 (s1 : Int), .int .i32 d1, .int .u8 (k1 : Int), .int .i64 a1] 47)).alloc (.cells #[.int .u32 (s2 : Int), .int .i32 d2, .int .u8 (k2 : Int), .int .i64 a2] 47)).drew) _ _
  rw [hW2]
  clear hW2
  iterate 4 still_step
  still_call c1.out
  iterate 4 still_step
  still_call c2.out
  refine wpStill_nil ?_
  clear x0 x1 z0 z1 c1 c2
  have hO := flip_same (Or2_any r1 r2 W2.heap.size 3 (W2.alloc (.cells #[.int .i64 r1, .int .i64 r2] 3)) (Blk.new W2 _ _))
  go_wp2_with fail
  refine hO.mono ?_
  rintro e w9 ⟨rfl, rfl⟩
  go_wp2_with fail
  go_ret
  exact ⟨by rw [R1.out, R2.out]; rfl, 1, #[.cells #[.int .u32 (s1 : Int), .int .i32 d1, .int .u8 (k1 : Int), .int .i64 a1] 47, .cells #[.int .u32 (s2 : Int), .int .i32 d2, .int .u8 (k2 : Int), .int .i64 a2] 47, .cells #[.int .i64 r1, .int .i64 r2] 3], by rw [← HW2.out]; exact grow3 _ _ _ _⟩
end Go.Proofs.YtpbfipeinblfgaaGreatDoor
namespace Go.Proofs.YtpbfipeinblfgaaGreatDoor
open Go.ChangeShapes Go.WideShapes Go.ChangeAt Go.RowKit Go.Shelf Go.Sort Go.Lib

instance : Inhabited Ev := ⟨⟨0, 0, 0, 0⟩⟩
theorem ltE (a b : Ev) : ltOf cmpE a b = decide (a.d < b.d ∨ (a.d = b.d ∧ a.s < b.s)) := by
  unfold ltOf cmpE or2
  rcases cmpI_cases a.d b.d with ⟨h, e⟩ | ⟨h, e⟩ | ⟨h, e⟩
  · rw [e]; simp [h]
  · rw [e]
    have h1 : ¬ a.d < b.d := by omega
    rcases cmpI_cases (a.s : Int) (b.s : Int) with ⟨g, e⟩ | ⟨g, e⟩ | ⟨g, e⟩
    · rw [e]
      have g1 : a.s < b.s := by omega
      simp [h, g1]
    · rw [e]
      have g1 : ¬ a.s < b.s := by omega
      simp [h, g1]
    · rw [e]
      have g1 : ¬ a.s < b.s := by omega
      simp [h, g1]
  · rw [e]
    have h1 : ¬ a.d < b.d := by omega
    have h2 : ¬ a.d = b.d := by omega
    simp [h1, h2]
theorem swoE : SWO (ltOf cmpE) := by
  refine ⟨fun x => by rw [ltE]; simp, fun x y z h1 h2 => ?_, fun x y z h1 h2 => ?_⟩
  · rw [ltE] at *
    simp only [decide_eq_true_eq] at *
    omega
  · rw [ltE] at *
    simp only [decide_eq_false_iff_not] at *
    omega
theorem isAggEv (w : World) : (isAgg 47).run Tryz.prog w = .ok true w := by kernel_rfl
theorem sizeEv (w : World) : (Go.sizeOf 47).run Tryz.prog w = .ok 4 w := by kernel_rfl
/-- Behind the sort: the same row, in order. -/
def SortVPost (l : List Ev) (w : World) (base g n cap : Nat) (e : Ending) (w' : World) : Prop :=
  e = .returned (.tuple #[]) ∧ (∃ l' : List Ev, l'.Perm l ∧ l'.Pairwise leE ∧ OwnS evT 47 w' base (.slice (some ⟨g, 0, none⟩) n cap) n l') ∧ w.grownBy w' (some g)
theorem sorted_list {d d' : Array Ev} {n : Nat} (hn : d.size = n) (h1 : PermIn 0 n d d') (h2 : SortedIn (ltOf cmpE) 0 n d') : d'.toList.Perm d.toList ∧ d'.toList.Pairwise leE := by
  obtain ⟨hs, -, hp⟩ := h1
  have hs' : d'.size = n := hs.trans hn
  refine ⟨?_, ?_⟩
  · have e1 : d'.extract 0 n = d' := by rw [← hs']; exact Array.extract_size
    have e2 : d.extract 0 n = d := by rw [← hn]; exact Array.extract_size
    rw [e1, e2] at hp
    exact hp
  · rw [List.pairwise_iff_getElem]
    intro i j hi hj hij
    have hj' : j < d'.size := by simpa using hj
    have hi' : i < d'.size := by simpa using hi
    have h := h2 i j (Nat.zero_le _) hij (by omega)
    rw [getElem!_pos d' j hj', getElem!_pos d' i hi', ltE] at h
    simp only [decide_eq_false_iff_not] at h
    unfold leE
    simp only [Array.getElem_toList]
    omega
theorem Ins_any (l : List Ev) (w : World) (base g n cap : Nat) (h : OwnS evT 47 w base (.slice (some ⟨g, 0, none⟩) n cap) n l) (hsz : n < 1000000) :
    Calls Tryz.prog 187 #[.slice (some ⟨g, 0, none⟩) n cap, .int .i64 0, .int .i64 (n : Int), .func (.func 99) #[] #[]] w (SortVPost l w base g n cap) := by
  have hk : 0 < evT.k := by show 0 < 4; omega
  obtain ⟨hH, hb, hlt⟩ := own_holds hk h
  have hl := h.length hk
  have hs : l.toArray.size = n := by simpa using hl
  have eg : ∀ args w, (callFunc 99 args).run Tryz.prog w = .ok (.enter 99 args) w := enters_of Tryz.func99 (by kernel_rfl) rfl
  have hcon := AnyQ.insertionSortCmpFunc Tryz.insEv 4 isAggEv sizeEv evT.cells (fun _ => rfl) evT.one cmpE 99 #[] g 0 cap 0 n l.toArray w eg
    (fun m os dk _ x y => Sort1_any x y _) hH hlt (Nat.zero_le _) (by omega) (by omega)
  change Calls Tryz.prog 187 _ _ _ at hcon
  rw [hs] at hcon
  refine hcon.mono ?_
  rintro e w' ⟨rfl, m, os, rfl⟩
  obtain ⟨p1, p2⟩ := insertionSort_holds (lt := ltOf cmpE) swoE l.toArray 0 n (Nat.zero_le _) (by omega)
  obtain ⟨q1, q2⟩ := sorted_list hs p1 p2
  obtain ⟨d', hd⟩ : ∃ d', insertionSort (ltOf cmpE) l.toArray 0 n = d' := ⟨_, rfl⟩
  rw [hd] at q1 q2 ⊢
  obtain ⟨g1, g2⟩ := own_sorted (m := m) (os := os) (l' := d'.toList) hk h q1.length_eq
  rw [Array.toArray_toList] at g1 g2
  exact ⟨rfl, ⟨d'.toList, q1, q2, g1⟩, g2⟩
set_option maxRecDepth 20000 in
theorem Stable_any (l : List Ev) (w : World) (base g n cap : Nat) (h : OwnS evT 47 w base (.slice (some ⟨g, 0, none⟩) n cap) n l) (hsz : n < 20) :
    Calls Tryz.prog 147 #[.slice (some ⟨g, 0, none⟩) n cap, .int .i64 (n : Int), .func (.func 99) #[] #[]] w (SortVPost l w base g n cap) := by
  have hi := Ins_any l w base g n cap h (by omega)
  have h1 : ¬ (20 : Int) ≤ (n : Int) := by omega
  have h2 : ¬ (20 : Int) < (n : Int) := by omega
  clear h
  go_enter Tryz.func147, Tryz.ntmps147
  go_wp2_with fail
  refine wp_loop_rounds 1 ?_
  rw [rounds_succ]
  go_wp2_with fail
  refine hi.mono ?_
  rintro e w2 ⟨rfl, hp, hg⟩
  have HP := Lib.hid hp
  have HG := Lib.hid hg
  clear hp hg hi
  go_wp2_with fail
  refine wp_loop_rounds 1 ?_
  rw [rounds_succ]
  go_wp2_with fail
  go_end0
  exact ⟨rfl, HP.out, HG.out⟩
set_option maxRecDepth 20000 in
theorem SortF_any (l : List Ev) (w : World) (base g n cap : Nat) (h : OwnS evT 47 w base (.slice (some ⟨g, 0, none⟩) n cap) n l) (hsz : n < 20) :
    Calls Tryz.prog 98 #[.slice (some ⟨g, 0, none⟩) n cap, .func (.func 99) #[] #[]] w (SortVPost l w base g n cap) := by
  have hi := Stable_any l w base g n cap h hsz
  clear h
  go_enter Tryz.func98, Tryz.ntmps98
  go_wp2_with fail
  refine hi.mono ?_
  rintro e w2 ⟨rfl, hp, hg⟩
  have HP := Lib.hid hp
  have HG := Lib.hid hg
  clear hp hg hi
  go_wp2_with fail
  go_end0
  exact ⟨rfl, HP.out, HG.out⟩
/-- A row of these events, made since. -/
def OwnV (l : List Ev) (w : World) (e : Ending) (w' : World) : Prop := ∃ (g c : Nat), e = .returned (.slice (some ⟨g, 0, none⟩) l.length c) ∧ l.length ≤ c ∧ c ≤ maxLen ∧ OwnS evT 47 w' w.heap.size (.slice (some ⟨g, 0, none⟩) l.length c) l.length l ∧ Below w.heap.size w w'
set_option maxRecDepth 20000 in
set_option maxHeartbeats 4000000 in
theorem CloneV_any (l : List Ev) (b0 o0 n c B : Nat) (w : World) (hR : Rs evT w B (some ⟨b0, o0, none⟩) l) (hn : l.length = n) (h0 : 0 < n) (hm : n ≤ 100000) (hB : B ≤ w.heap.size) :
    Calls Tryz.prog 97 #[.slice (some ⟨b0, o0, none⟩) n c] w (OwnV l w) := by
  have HR := Lib.hid hR
  have HL := Lib.hid hn
  have H0 := Lib.hid h0
  clear hR hn h0
  have hE : ∀ W, (binOp .eql 42 (.slice (some ⟨b0, o0, none⟩) n c) (.slice none 0 0)).run Tryz.prog W = .ok (.bool false) W := fun W => by kernel_rfl
  have HO0 := Lib.hid (OwnS.made (T := evT) (e := 47) w (cap := 0) (cur := #[]) (b := w.heap.size) (Nat.le_refl _) (by decide) rfl)
  have HB0 := Lib.hid (b_alloc w (.cells #[] 47))
  have HR0 := Lib.hid (HR.out.below ((Below.refl _ _).alloc hB (.cells #[] 47)))
  go_enter Tryz.func97, Tryz.ntmps97
  go_wp2_with (with_reducible refine wpList_appendS (o := ⟨some 7, _, _, _, _, _⟩) rfl rowEv (.tmp 5) (.tmp 6) rfl w.heap.size _ 0 [] ?h1 HO0.out B (some ⟨b0, o0, none⟩) n c l ?h2 HR0.out HL.out ?h3 ?h4 ?h5 ?_)
  try (case h1 => rfl)
  try (case h2 => rfl)
  try (case h3 => unfold maxLen; omega)
  try (case h4 => omega)
  try (case h5 => simp)
  intro v1 w1 ho1 hg1 _ _
  try simp only [Nat.zero_add, List.nil_append] at ho1
  have hb1 : Below w.heap.size w w1 := HB0.out.grown hg1 HB0.out.size (fun g hg => (HO0.out.lt g hg).1)
  have hn0 := H0.out
  obtain ⟨g1, c1, rfl, hc1, hm1⟩ : ∃ g c, v1 = .slice (some ⟨g, 0, none⟩) n c ∧ n ≤ c ∧ c ≤ maxLen := by
    have h := ho1
    unfold OwnS at h
    rcases h.2 with ⟨-, h2⟩ | ⟨g', cap', cur, h1, h2, hg, h4, h5, h6, ht⟩
    · omega
    · exact ⟨g', cap', h1, h4, h5⟩
  have HO1 := Lib.hid ho1
  have HB1 := Lib.hid hb1
  clear ho1 hb1 hg1 HO0 HB0 HR0 HR hn0 H0
  go_wp2_with fail
  go_ret
  exact ⟨g1, c1, by rw [HL.out]; rfl, by rw [HL.out]; exact hc1, hm1, by rw [HL.out]; exact HO1.out, HB1.out⟩
/-- The events in order, in a row made since. -/
def SortedV (l : List Ev) (w : World) (e : Ending) (w' : World) : Prop := ∃ (g c : Nat) (l' : List Ev), e = .returned (.slice (some ⟨g, 0, none⟩) l.length c) ∧ l'.Perm l ∧ l'.Pairwise leE ∧ l.length ≤ c ∧ c ≤ maxLen ∧ OwnS evT 47 w' w.heap.size (.slice (some ⟨g, 0, none⟩) l.length c) l.length l' ∧ Below w.heap.size w w'
set_option maxRecDepth 20000 in
set_option maxHeartbeats 4000000 in
theorem SortV_any (l : List Ev) (b0 o0 n c B : Nat) (w : World) (hR : Rs evT w B (some ⟨b0, o0, none⟩) l) (hn : l.length = n) (h0 : 0 < n) (hm : n < 20) (hB : B ≤ w.heap.size) :
    Calls Tryz.prog 52 #[.slice (some ⟨b0, o0, none⟩) n c] w (SortedV l w) := by
  have hC := CloneV_any l b0 o0 n c B w hR hn h0 (by omega) hB
  have HS := Lib.hid (fun (W : World) (base g cap : Nat) (h : OwnS evT 47 W base (.slice (some ⟨g, 0, none⟩) n cap) n l) => SortF_any l W base g n cap h hm)
  unfold OwnV at hC
  rw [hn] at hC
  unfold SortedV
  rw [hn]
  have H0 := Lib.hid h0
  clear hR hB hn h0 hm
  go_enter Tryz.func52, Tryz.ntmps52
  go_wp2_with fail
  refine hC.mono ?_
  rintro e w1 ⟨g, c1, rfl, h1, h2, h3, h4⟩
  have H1 := Lib.hid h1
  have H2 := Lib.hid h2
  have HG := Lib.hid (h3.lt g rfl)
  have H4 := Lib.hid h4
  have hF := HS.out _ _ _ _ h3
  clear h1 h2 h3 h4 hC HS
  go_wp2_with fail
  refine hF.mono ?_
  rintro e w2 ⟨rfl, ⟨l', h5, h6, h7⟩, h8⟩
  have H5 := Lib.hid h5
  have H6 := Lib.hid h6
  have H7 := Lib.hid h7
  have H8 := Lib.hid h8
  clear h5 h6 h7 h8 hF
  go_wp2_with fail
  go_ret
  exact ⟨g, c1, l', rfl, H5.out, H6.out, H1.out, H2.out, H7.out, H4.out.grown H8.out H4.out.size (fun q hq => by injection hq with hq; subst hq; exact HG.out.1)⟩
end Go.Proofs.YtpbfipeinblfgaaGreatDoor
namespace Go.Proofs.YtpbfipeinblfgaaGreatDoor
open Go.ChangeShapes Go.WideShapes Go.ChangeAt Go.RowKit Go.Shelf Go.Sort Go.Lib

/-- An event that may be. -/
structure EvR (S : Int) (e : Ev) : Prop where
  s : e.s < 4294967296
  d : S ≤ e.d ∧ 0 ≤ e.d ∧ e.d ≤ 3652058
  k : (e.k = 4 ∨ e.k = 5 ∨ e.k = 6) ∧ 1 ≤ e.a ∧ e.a ≤ 1000000000000 ∨ e.k = 7 ∧ e.a = 0
theorem EvR.ok {S : Int} {e : Ev} (h : EvR S e) : EvOk e := by
  obtain ⟨h1, h2, h3⟩ := h
  refine ⟨h1, h2.2, by omega, by omega⟩
theorem blkE {w : World} {q : Nat} {ty : TypeId} {a0 a1 a2 a3 : Value} (h : Blk w q ty #[a0, a1, a2, a3]) : w.cell? ⟨q, 0, none⟩ = some a0 ∧ w.cell? ⟨q, 1, none⟩ = some a1 ∧ w.cell? ⟨q, 2, none⟩ = some a2 ∧ w.cell? ⟨q, 3, none⟩ = some a3 := by
  have c0 := h.cell 0
  have c1 := h.cell 1
  have c2 := h.cell 2
  have c3 := h.cell 3
  simp at c0 c1 c2 c3
  exact ⟨c0, c1, c2, c3⟩
set_option maxRecDepth 100000 in
set_option maxHeartbeats 4000000 in
theorem EvRight_4 {s : Nat} {d a : Int} (hd : 0 ≤ d ∧ d ≤ 3652058) (ha : 1 ≤ a ∧ a ≤ 1000000000000) (w : World) :
    Calls Tryz.prog 54 #[.agg #[.int .u32 (s : Int), .int .i32 d, .int .u8 4, .int .i64 a]] w (Ret (.bool true) w) := by
  have hD := fun W => DRight_any d W
  have hdB : dayB d = true := by unfold dayB; simp; omega
  rw [hdB] at hD
  have hC := fun W => Coin_yes (a := a) (by omega) ha.2 W
  have HB0 := Lib.hid (b_alloc w (.cells #[.int .u32 (s : Int), .int .i32 d, .int .u8 4, .int .i64 a] 47))
  obtain ⟨c0, c1, c2, c3⟩ := blkE (Blk.new w 47 #[.int .u32 (s : Int), .int .i32 d, .int .u8 4, .int .i64 a])
  have b1 : (a == 0) = false := by rw [beq_eq_false_iff_ne]; omega
  have b2 : (a != 0) = true := by rw [bne, b1]; rfl
  clear hdB hd ha
  go_enter Tryz.func54, Tryz.ntmps54
  go_wp2_with (first | (go_at_call 29; refine (hD _).mono ?_; rintro e w' ⟨rfl, rfl⟩) | (go_at_call 103; refine (hC _).mono ?_; rintro e w' ⟨rfl, rfl⟩))
  go_ret
  exact ⟨rfl, HB0.out⟩
set_option maxRecDepth 100000 in
set_option maxHeartbeats 4000000 in
theorem EvRight_5 {s : Nat} {d a : Int} (hd : 0 ≤ d ∧ d ≤ 3652058) (ha : 1 ≤ a ∧ a ≤ 1000000000000) (w : World) :
    Calls Tryz.prog 54 #[.agg #[.int .u32 (s : Int), .int .i32 d, .int .u8 5, .int .i64 a]] w (Ret (.bool true) w) := by
  have hD := fun W => DRight_any d W
  have hdB : dayB d = true := by unfold dayB; simp; omega
  rw [hdB] at hD
  have hC := fun W => Coin_yes (a := a) (by omega) ha.2 W
  have HB0 := Lib.hid (b_alloc w (.cells #[.int .u32 (s : Int), .int .i32 d, .int .u8 5, .int .i64 a] 47))
  obtain ⟨c0, c1, c2, c3⟩ := blkE (Blk.new w 47 #[.int .u32 (s : Int), .int .i32 d, .int .u8 5, .int .i64 a])
  have b1 : (a == 0) = false := by rw [beq_eq_false_iff_ne]; omega
  have b2 : (a != 0) = true := by rw [bne, b1]; rfl
  clear hdB hd ha
  go_enter Tryz.func54, Tryz.ntmps54
  go_wp2_with (first | (go_at_call 29; refine (hD _).mono ?_; rintro e w' ⟨rfl, rfl⟩) | (go_at_call 103; refine (hC _).mono ?_; rintro e w' ⟨rfl, rfl⟩))
  go_ret
  exact ⟨rfl, HB0.out⟩
set_option maxRecDepth 100000 in
set_option maxHeartbeats 4000000 in
theorem EvRight_6 {s : Nat} {d a : Int} (hd : 0 ≤ d ∧ d ≤ 3652058) (ha : 1 ≤ a ∧ a ≤ 1000000000000) (w : World) :
    Calls Tryz.prog 54 #[.agg #[.int .u32 (s : Int), .int .i32 d, .int .u8 6, .int .i64 a]] w (Ret (.bool true) w) := by
  have hD := fun W => DRight_any d W
  have hdB : dayB d = true := by unfold dayB; simp; omega
  rw [hdB] at hD
  have hC := fun W => Coin_yes (a := a) (by omega) ha.2 W
  have HB0 := Lib.hid (b_alloc w (.cells #[.int .u32 (s : Int), .int .i32 d, .int .u8 6, .int .i64 a] 47))
  obtain ⟨c0, c1, c2, c3⟩ := blkE (Blk.new w 47 #[.int .u32 (s : Int), .int .i32 d, .int .u8 6, .int .i64 a])
  have b1 : (a == 0) = false := by rw [beq_eq_false_iff_ne]; omega
  have b2 : (a != 0) = true := by rw [bne, b1]; rfl
  clear hdB hd ha
  go_enter Tryz.func54, Tryz.ntmps54
  go_wp2_with (first | (go_at_call 29; refine (hD _).mono ?_; rintro e w' ⟨rfl, rfl⟩) | (go_at_call 103; refine (hC _).mono ?_; rintro e w' ⟨rfl, rfl⟩))
  go_ret
  exact ⟨rfl, HB0.out⟩
set_option maxRecDepth 100000 in
set_option maxHeartbeats 4000000 in
theorem EvRight_off {s : Nat} {d : Int} (hd : 0 ≤ d ∧ d ≤ 3652058) (w : World) :
    Calls Tryz.prog 54 #[.agg #[.int .u32 (s : Int), .int .i32 d, .int .u8 7, .int .i64 0]] w (Ret (.bool true) w) := by
  have hD := fun W => DRight_any d W
  have hdB : dayB d = true := by unfold dayB; simp; omega
  rw [hdB] at hD
  have HB0 := Lib.hid (b_alloc w (.cells #[.int .u32 (s : Int), .int .i32 d, .int .u8 7, .int .i64 0] 47))
  obtain ⟨c0, c1, c2, c3⟩ := blkE (Blk.new w 47 #[.int .u32 (s : Int), .int .i32 d, .int .u8 7, .int .i64 0])
  clear hdB hd
  go_enter Tryz.func54, Tryz.ntmps54
  go_wp2_with (first | (go_at_call 29; refine (hD _).mono ?_; rintro e w' ⟨rfl, rfl⟩))
  go_ret
  exact ⟨rfl, HB0.out⟩
theorem EvRight_any {S : Int} {e : Ev} (h : EvR S e) (w : World) : Calls Tryz.prog 54 #[e.v] w (Ret (.bool true) w) := by
  obtain ⟨s, d, k, a⟩ := e
  obtain ⟨h1, h2, h3⟩ := h
  dsimp only at h1 h2 h3
  unfold Ev.v
  dsimp only
  rcases h3 with ⟨rfl | rfl | rfl, h5⟩ | ⟨rfl, rfl⟩
  · exact EvRight_4 h2.2 h5 w
  · exact EvRight_5 h2.2 h5 w
  · exact EvRight_6 h2.2 h5 w
  · exact EvRight_off h2.2 w
set_option maxRecDepth 100000 in
set_option maxHeartbeats 4000000 in
theorem told1_any {S : Int} {x : Ev} (h : EvR S x) {o : Deal} (ho : o.S = S) {q z : Nat} (w : World) (hs : Sto w w.heap.size q o) (hz : w.cell? ⟨z, 0, none⟩ = some (.pointer (some ⟨q, 0, none⟩))) :
    Calls Tryz.prog 53 #[x.v, .pointer (some ⟨z, 0, none⟩)] w (Ret (.bool false) w) := by
  have hE := fun W => EvRight_any h W
  obtain ⟨s, d, k, a⟩ := x
  have hd := h.d.1
  dsimp only at hd
  obtain ⟨-, -, -, dq, ds, hq, -, -, -⟩ := hs
  have hzl := block_lt_of_cell hz
  unfold Ev.v at *
  dsimp only at *
  have hbk := Blk.new w 47 #[.int .u32 (s : Int), .int .i32 d, .int .u8 (k : Int), .int .i64 a]
  have hab := b_alloc w (.cells #[.int .u32 (s : Int), .int .i32 d, .int .u8 (k : Int), .int .i64 a] 47)
  have hz1 := (hab.cell (p := ⟨z, 0, none⟩) hzl).trans hz
  have hq6 := (hq.below hab hq.lt).cell 6
  simp at hq6
  obtain ⟨W1, hW⟩ : ∃ W, w.alloc (.cells #[.int .u32 (s : Int), .int .i32 d, .int .u8 (k : Int), .int .i64 a] 47) = W := ⟨_, rfl⟩
  rw [hW] at hbk hab hz1 hq6
  rw [ho] at hq6
  obtain ⟨n0, n1, n2, n3⟩ := blkE hbk
  have hlt : ¬ d < S := by omega
  have HB := Lib.hid hab
  have HW := Lib.hid hW
  clear hbk hab hq hz hzl h hd hW
  have c0 := cell_regrown n0
  have c1 := cell_regrown n1
  have c2 := cell_regrown n2
  have c3 := cell_regrown n3
  have c4 := cell_regrown hz1
  have c5 := cell_regrown hq6
  clear n0 n1 n2 n3 hz1 hq6
  go_enter Tryz.func53, Tryz.ntmps53
  go_upto_region 1 with (fail)
  rw [HW.out]
  clear HW
  have A1_0 := fun (dd : Nat) (os : Array Obj) => Calls.regrown_of (hE (Go.Sort.grow (redrawn W1 dd) os))
  refine wp_region_quiet_below (by kernel_rfl) (by kernel_rfl) ?_
  repeat (go_big_quiet_step (first | (go_at_call 54; exact A1_0 _ _)))
  refine wpQuiet_nil ?_
  intro w7 hw7
  have hb7 : Below W1.heap.size W1 w7 := by
    obtain ⟨p, rfl⟩ := hw7
    exact below_regrown _ _ _
  have HB7 := Lib.hid (HB.out.trans (hb7.mono HB.out.size))
  clear hw7 hb7 c0 c1 c2 c3 c4 c5 A1_0
  go_wp2_with fail
  go_ret
  exact ⟨rfl, HB7.out⟩
end Go.Proofs.YtpbfipeinblfgaaGreatDoor
namespace Go.Proofs.YtpbfipeinblfgaaGreatDoor
open Go.ChangeShapes Go.WideShapes Go.ChangeAt Go.RowKit Go.Shelf Go.Sort Go.Lib

set_option maxRecDepth 100000 in
set_option maxHeartbeats 4000000 in
theorem IndexV_any {S : Int} {l : List Ev} (hl : ∀ x ∈ l, EvR S x) {o : Deal} (ho : o.S = S) {q z b0 o0 n c : Nat} (w : World) (hn : l.length = n) (hc : n ≤ c) (hm : n ≤ 100000) (hR : Rs evT w w.heap.size (some ⟨b0, o0, none⟩) l) (hs : Sto w w.heap.size q o) (hz : w.cell? ⟨z, 0, none⟩ = some (.pointer (some ⟨q, 0, none⟩))) :
    Calls Tryz.prog 96 #[.slice (some ⟨b0, o0, none⟩) n c, .func (.func 53) #[] #[.pointer (some ⟨z, 0, none⟩)]] w (Ret (.int .i64 (-1)) w) := by
  have HR := Lib.hid hR
  have HL := Lib.hid hl
  have HN := Lib.hid hn
  have HZ := Lib.hid hz
  have HM := Lib.hid hm
  have HC := Lib.hid hc
  have HT := Lib.hid (fun (x : Ev) (hx : EvR S x) (W : World) (hb : Below w.heap.size w W) => told1_any hx ho (q := q) (z := z) W ((hs.below hb).up hb.size) ((hb.cell (p := ⟨z, 0, none⟩) (block_lt_of_cell hz)).trans hz))
  clear hR hl hn hz hm hc ho hs
  go_enter Tryz.func96, Tryz.ntmps96
  go_wp2_with fail
  go_loopw [5, 8] (fun _ i wr => ∃ j : Nat, j ≤ n ∧ i = .int .i64 (j : Int) ∧ Hid (Below w.heap.size w wr)) (fun _ i _ => n - (intOf i).toNat)
  case atStart => exact ⟨0, Nat.zero_le _, rfl, Lib.hid (Below.refl _ _)⟩
  case round =>
    obtain ⟨j, hj, rfl, HBj⟩ := hrel
    by_cases hlt : j < n
    · have hjl : j < l.length := by rw [HN.out]; exact hlt
      obtain ⟨b9, o9, h9, hb9, hc9⟩ := (HR.out.below HBj.out).at_ hjl
      injection h9 with h9
      injection h9 with h9 h10
      subst h9 h10
      obtain ⟨x, hx⟩ : ∃ x, l[j] = x := ⟨_, rfl⟩
      have hxr := HL.out l[j] (List.getElem_mem hjl)
      rw [hx] at hc9 hxr
      have hT := HT.out x hxr wr HBj.out
      obtain ⟨s, d, k, a⟩ := x
      unfold Ev.v at hT
      dsimp only at hT
      have d0 : wr.cell? ⟨b0, o0 + j * 4, none⟩ = some (.int .u32 (s : Int)) := hc9 0 _ rfl
      have d1 : wr.cell? ⟨b0, o0 + j * 4 + 1, none⟩ = some (.int .i32 d) := hc9 1 _ rfl
      have d2 : wr.cell? ⟨b0, o0 + j * 4 + 2, none⟩ = some (.int .u8 (k : Int)) := hc9 2 _ rfl
      have d3 : wr.cell? ⟨b0, o0 + j * 4 + 3, none⟩ = some (.int .i64 a) := hc9 3 _ rfl
      have s8 := HM.out
      have s9 : n ≤ c := HC.out
      clear hc9 hxr hx hjl hb9
      go_wp2_with fail
      refine hT.mono ?_
      rintro e w2 ⟨rfl, hb2⟩
      have HB2 := Lib.hid (HBj.out.trans (hb2.mono HBj.out.size))
      clear hb2 d0 d1 d2 d3 hT
      go_wp2_with fail
      go_roundw
      case rel => exact ⟨j + 1, hlt, by go_num, HB2⟩
      case measure => simp [intOf]; omega
    · have hjn : j = n := by omega
      subst hjn
      go_wp2_with fail
      go_ret
      exact ⟨rfl, HBj.out⟩
set_option maxRecDepth 100000 in
set_option maxHeartbeats 4000000 in
theorem DeleteV_any {S : Int} {l : List Ev} (hl : ∀ x ∈ l, EvR S x) {o : Deal} (ho : o.S = S) {q z b0 o0 n c : Nat} (w : World) (hn : l.length = n) (hc : n ≤ c) (hm : n ≤ 100000) (hR : Rs evT w w.heap.size (some ⟨b0, o0, none⟩) l) (hs : Sto w w.heap.size q o) (hz : w.cell? ⟨z, 0, none⟩ = some (.pointer (some ⟨q, 0, none⟩))) :
    Calls Tryz.prog 51 #[.slice (some ⟨b0, o0, none⟩) n c, .func (.func 53) #[] #[.pointer (some ⟨z, 0, none⟩)]] w (Ret (.slice (some ⟨b0, o0, none⟩) n c) w) := by
  have hI := IndexV_any hl ho w hn hc hm hR hs hz
  clear hl ho hn hR hs hz
  go_enter Tryz.func51, Tryz.ntmps51
  go_wp2_with fail
  refine hI.mono ?_
  rintro e w2 ⟨rfl, hb2⟩
  have HB2 := Lib.hid hb2
  clear hb2 hI
  go_wp2_with fail
  go_ret
  exact ⟨rfl, HB2.out⟩
theorem own_evs {w : World} {base g n c : Nat} {l : List Ev} (h : OwnS evT 47 w base (.slice (some ⟨g, 0, none⟩) n c) n l) (h0 : 0 < n) : Evs w (.slice (some ⟨g, 0, none⟩) n c) l := by
  have hl := h.length (show 0 < 4 by omega)
  unfold OwnS at h
  rcases h.2 with ⟨-, h2⟩ | ⟨g', cap', cur, h1, h2, hg, h4, h5, h6, ht⟩
  · omega
  · injection h1 with e1 e2 e3
    injection e1 with e1
    injection e1 with e1
    subst e1 e3
    refine ⟨some ⟨g, 0, none⟩, c, by rw [hl], by rw [hl]; exact h4, h5, fun _ => ⟨g, 0, cur, rfl, hg, fun j x hj i y hi => ?_⟩⟩
    have hjl : j < l.length := (List.getElem?_eq_some_iff.1 hj).1
    have hi4 : i < 4 := by
      have := (List.getElem?_eq_some_iff.1 hi).1
      simpa [evC] using this
    have h3 := flatS_at (T := evT) l j x hj i y hi
    have h7 : (cur.toList.take (n * 4))[j * 4 + i]? = (flatS evT l)[j * 4 + i]? := congrArg (fun z : List Value => z[j * 4 + i]?) ht
    rw [List.getElem?_take_of_lt (by omega), Array.getElem?_toList] at h7
    rw [Nat.zero_add, h7]
    exact h3
/-- The events in their order. -/
noncomputable def ordE (l : List Ev) : List Ev := (insertionSort (ltOf cmpE) l.toArray 0 l.length).toList
theorem ord_perm (l : List Ev) : (ordE l).Perm l ∧ (ordE l).Pairwise leE := by
  obtain ⟨p1, p2⟩ := insertionSort_holds (lt := ltOf cmpE) swoE l.toArray 0 l.length (Nat.zero_le _) (by simp)
  have := sorted_list (n := l.length) (by simp) p1 p2
  exact ⟨this.1, this.2⟩
theorem ord_one {l l' : List Ev} (h : l'.Perm l) (hs : l'.Pairwise leE) (hn : (l.map (·.s)).Nodup) : l' = ordE l := by
  obtain ⟨h1, h2⟩ := ord_perm l
  exact events_one (h.trans h1.symm) hs h2 ((h.map _).nodup_iff.2 hn)
theorem ord_same {l m : List Ev} (h : l.Perm m) (hn : (l.map (·.s)).Nodup) : ordE l = ordE m := by
  obtain ⟨h1, h2⟩ := ord_perm l
  exact ord_one (h1.trans h) h2 ((h.map _).nodup_iff.1 hn)
/-- A slice of events among the arguments. -/
def RowV (w : World) (lv : Value) (l : List Ev) : Prop := (l = [] ∧ lv = .slice none 0 0) ∨ (0 < l.length ∧ ∃ b o c, lv = .slice (some ⟨b, o, none⟩) l.length c ∧ l.length ≤ c ∧ Rs evT w w.heap.size (some ⟨b, o, none⟩) l)
theorem RowV.below {w w' : World} {lv : Value} {l : List Ev} (h : RowV w lv l) (hb : Below w.heap.size w w') : RowV w' lv l := by
  rcases h with h | ⟨h0, b, o, c, h1, h2, h3⟩
  · exact .inl h
  · exact .inr ⟨h0, b, o, c, h1, h2, (h3.below hb).more hb.size⟩
set_option maxRecDepth 100000 in
set_option maxHeartbeats 4000000 in
theorem told_row {S : Int} {l : List Ev} (hl : ∀ x ∈ l, EvR S x) (hnd : (l.map (·.s)).Nodup) {o : Deal} (ho : o.S = S) {q b0 o0 n c : Nat} (w : World) (hn : l.length = n) (h0 : 0 < n) (hm : n < 20) (hR : Rs evT w w.heap.size (some ⟨b0, o0, none⟩) l) (hs : Sto w w.heap.size q o) :
    Calls Tryz.prog 23 #[.pointer (some ⟨q, 0, none⟩), .slice (some ⟨b0, o0, none⟩) n c] w (ToF (evF (ordE l)) w) := by
  have hab := b_alloc w (.cells #[.pointer (some ⟨q, 0, none⟩)] 37)
  have hbk := Blk.new w 37 #[.pointer (some ⟨q, 0, none⟩)]
  obtain ⟨W1, hW⟩ : ∃ W, w.alloc (.cells #[.pointer (some ⟨q, 0, none⟩)] 37) = W := ⟨_, rfl⟩
  obtain ⟨z, hz⟩ : ∃ z, w.heap.size = z := ⟨_, rfl⟩
  have hR1 := (hR.below hab).more hab.size
  have hs1 := (hs.below hab).up hab.size
  rw [hW] at hab hbk hR1 hs1
  rw [hz] at hbk
  have hS := SortV_any l b0 o0 n c W1.heap.size W1 hR1 hn h0 hm (Nat.le_refl _)
  unfold SortedV at hS
  rw [hn] at hS
  have HD := Lib.hid (fun (l' : List Ev) (hp : l'.Perm l) (g c1 : Nat) (hc : n ≤ c1) (W : World) (hb : Below W1.heap.size W1 W) (hO : OwnS evT 47 W W1.heap.size (.slice (some ⟨g, 0, none⟩) n c1) n l') =>
    DeleteV_any (S := S) (l := l') (fun x hx => hl x (hp.subset hx)) ho (q := q) (z := z) (b0 := g) (o0 := 0) (n := n) (c := c1) W (hp.length_eq.trans hn) hc (by omega) (by
      obtain ⟨-, A, c2, e1, -, -, h4⟩ := hO.form (show 0 < 4 by omega)
      injection e1 with e1 e2 e3
      rw [e1]
      exact h4) ((hs1.below hb).up hb.size) ((hb.cell (p := ⟨z, 0, none⟩) hbk.lt).trans (by have := hbk.cell 0; simpa using this)))
  have HW := Lib.hid hW
  have HZ := Lib.hid hz
  have HB := Lib.hid hab
  have H1 := Lib.hid (fun (l' : List Ev) (hp : l'.Perm l) (hs : l'.Pairwise leE) => ord_one hp hs hnd)
  have H0 := Lib.hid h0
  clear hl hnd ho hn h0 hm hR hs hab hbk hW hz hR1 hs1
  go_enter Tryz.func23, Tryz.ntmps23
  go_upto_region 1 with (fail)
  rw [HW.out, HZ.out]
  clear HW
  go_wp2_with fail
  refine hS.mono ?_
  rintro e w2 ⟨g, c1, l', rfl, hp, hsr, hc1, hc2, hO, hb2⟩
  have hDl := HD.out l' hp g c1 hc1 w2 hb2 hO
  have HO := Lib.hid hO
  have HB2 := Lib.hid (HB.out.trans (hb2.mono HB.out.size))
  have e1 := H1.out l' hp hsr
  have HE := Lib.hid e1
  clear hp hsr hO hb2 hS HD e1 H1 hc2
  go_wp2_with fail
  refine hDl.mono ?_
  rintro e w3 ⟨rfl, hb3⟩
  have HB3 := Lib.hid (HB2.out.trans (hb3.mono HB2.out.size))
  have hev := own_evs HO.out H0.out
  have HV := Lib.hid (hev.keep (w' := w3) fun i cs hB => hb3.block i hB.lt)
  clear hb3 hev hDl
  go_wp2_with fail
  go_ret
  exact ⟨_, rfl, by rw [← HE.out]; exact HV.out, HB3.out⟩
theorem told_any {S : Int} {l : List Ev} (hl : ∀ x ∈ l, EvR S x) (hnd : (l.map (·.s)).Nodup) {o : Deal} (ho : o.S = S) {q : Nat} (w : World) {lv : Value} (h : RowV w lv l) (hm : l.length < 20) (hs : Sto w w.heap.size q o) :
    Calls Tryz.prog 23 #[.pointer (some ⟨q, 0, none⟩), lv] w (ToF (evF (ordE l)) w) := by
  rcases h with ⟨rfl, rfl⟩ | ⟨h0, b, o, c, rfl, -, hR⟩
  · have e : ordE [] = [] := List.perm_nil.1 (ord_perm []).1
    rw [e]
    exact told_nil q w
  · exact told_row hl hnd ho w rfl h0 hm hR hs
end Go.Proofs.YtpbfipeinblfgaaGreatDoor
namespace Go.Proofs.YtpbfipeinblfgaaGreatDoor
open Go.ChangeShapes Go.WideShapes Go.ChangeAt Go.RowKit Go.Shelf Go.Sort Go.Lib

/-- A deed. -/
structure Dd where
  k : Nat
  b : Nat
  a : Nat
structure DdIn (x : Dd) : Prop where
  k : x.k < 256
  b : x.b < 65536
  a : x.a < 4294967296
def deedT : Lies Dd := ⟨fun x => [.int .u8 (x.k : Int), .int .u16 (x.b : Int), .int .u32 (x.a : Int)], 3, fun _ => rfl, fun d u hu => by
  simp at hu
  rcases hu with rfl | rfl | rfl <;> rfl⟩
/-- An event as the document has it. -/
def revT : Lies Ev := ⟨fun e => [.int .u32 (e.s : Int), .int .i64 e.d, .int .u8 (e.k : Int), .int .i64 e.a], 4, fun _ => rfl, fun d u hu => by
  simp at hu
  rcases hu with rfl | rfl | rfl | rfl <;> rfl⟩
theorem rowRev : RowOf revT Tryz.prog 43 93 32 := RowOf.of (z := .agg #[.int .u32 0, .int .i64 0, .int .u8 0, .int .i64 0]) Tryz.underlying43 (by kernel_rfl) rfl (show 0 < 4 by decide)
theorem neEvRev : (47 : TypeId) ≠ 93 := by decide
theorem neEvTrm : (47 : TypeId) ≠ 28 := by decide
theorem neRevTrm : (93 : TypeId) ≠ 28 := by decide
def idxE (t : Bool) (m i : Nat) : Nat := if t then m - 1 - i else i
def evD (S : Int) (k : Nat) (x : Dd) : Ev := ⟨k + 1, S + ((x.b % 120 : Nat) : Int), 4 + x.k % 4, if x.k % 4 = 3 then 0 else 1 + (x.a : Int)⟩
def evA (S : Int) (L : List Dd) (t : Bool) (i : Nat) : Ev := evD S (idxE t (min L.length 12) i) (L.getD (idxE t (min L.length 12) i) ⟨0, 0, 0⟩)
def evL (S : Int) (L : List Dd) (t : Bool) : List Ev := (List.range (min L.length 12)).map (evA S L t)
theorem evL_len (S : Int) (L : List Dd) (t : Bool) : (evL S L t).length = min L.length 12 := by simp [evL]
theorem evD_right {S : Int} (hS : 0 ≤ S ∧ S ≤ 3600000) {k : Nat} (hk : k < 1000) {x : Dd} (hx : x.a < 4294967296) : EvR S (evD S k x) := by
  refine ⟨by show k + 1 < _; omega, ⟨by show S ≤ S + _; omega, by show 0 ≤ S + _; omega, by show S + _ ≤ _; omega⟩, ?_⟩
  unfold evD
  dsimp only
  by_cases h : x.k % 4 = 3
  · exact .inr ⟨by omega, by rw [if_pos h]⟩
  · refine .inl ⟨by omega, ?_, ?_⟩ <;> rw [if_neg h] <;> omega
theorem idx_lt {t : Bool} {m i : Nat} (h : i < m) : idxE t m i < m := by
  unfold idxE
  split <;> omega
theorem getD_in {L : List Dd} (hL : ∀ x ∈ L, DdIn x) (k : Nat) : (L.getD k ⟨0, 0, 0⟩).a < 4294967296 := by
  rw [List.getD_eq_getElem?_getD]
  cases h : L[k]? with
  | none => simp
  | some x => exact (hL x (List.mem_of_getElem? h)).a
theorem evL_right {S : Int} (hS : 0 ≤ S ∧ S ≤ 3600000) {L : List Dd} (hL : ∀ x ∈ L, DdIn x) (t : Bool) : ∀ x ∈ evL S L t, EvR S x := by
  intro x hx
  unfold evL at hx
  obtain ⟨i, hi, rfl⟩ := List.mem_map.1 hx
  have hi := List.mem_range.1 hi
  exact evD_right hS (by have := idx_lt (t := t) hi; omega) (getD_in hL _)
theorem evL_nodup (S : Int) (L : List Dd) (t : Bool) : ((evL S L t).map (·.s)).Nodup := by
  unfold evL
  rw [List.map_map]
  unfold List.Nodup
  rw [List.pairwise_map]
  refine List.Pairwise.imp_of_mem (fun {i j} hi hj hlt h => ?_) List.pairwise_lt_range
  have hi := List.mem_range.1 hi
  have hj := List.mem_range.1 hj
  have h : idxE t (min L.length 12) i + 1 = idxE t (min L.length 12) j + 1 := h
  unfold idxE at h
  cases t <;> simp at h <;> omega
theorem range_rev (m : Nat) : (List.range m).reverse = (List.range m).map fun i => m - 1 - i := by
  apply List.ext_getElem
  · simp
  · intro i h1 h2
    simp
theorem evL_perm (S : Int) (L : List Dd) : (evL S L false).Perm (evL S L true) := by
  have e : evL S L true = (evL S L false).reverse := by
    unfold evL
    rw [← List.map_reverse, range_rev, List.map_map]
    rfl
  rw [e]
  exact (List.reverse_perm _).symm
end Go.Proofs.YtpbfipeinblfgaaGreatDoor
