/-
Entry.Of, slices.IndexFunc at legs, slices.Clone at legs. Conditions: the rows are there.
slices.Clone at legs; a leg of an own row written over. Conditions: the rows are there.
Entry.Turned. Conditions: the rows are there.
-/
import Derived.Deep.CutBlock
import Derived.Test.YtdnnkdldolhbpaaGreatDoorChHX9
import Derived.LoopTactic
import Derived.Shelf.Abstract
import Derived.Test.YtdnnkdldolhbpaaGreatDoorFlowX9
namespace Go.Proofs.YtdnnkdldolhbpaaGreatDoor
open Go.ChangeShapes Go.WideShapes Go.ChangeAt Go.RowKit

/-- The place of the first leg of the account, or -1. -/
def idxL (l : List (Nat × Int)) (a : Nat) : Int := match l.findIdx? (fun g => g.1 == a) with
  | some i => (i : Int)
  | none => -1
/-- The amount of the first leg of the account, or nothing. -/
def ofL (l : List (Nat × Int)) (a : Nat) : Int := match l.find? (fun g => g.1 == a) with
  | some g => g.2
  | none => 0
theorem idx_yes {l : List (Nat × Int)} {a k : Nat} (hk : k < l.length) (h : l[k].1 = a) (hn : ∀ i, i < k → (l.getD i (0, 0)).1 ≠ a) : idxL l a = (k : Int) ∧ ofL l a = l[k].2 := by
  have e : l.findIdx? (fun g => g.1 == a) = some k := by
    rw [List.findIdx?_eq_some_iff_getElem]
    refine ⟨hk, by simpa using h, fun j hj => ?_⟩
    have := hn j hj
    rw [List.getD_eq_getElem?_getD, List.getElem?_eq_getElem (by omega)] at this
    simpa using this
  have e2 : l.find? (fun g => g.1 == a) = some l[k] := by
    rw [List.find?_eq_some_iff_getElem]
    refine ⟨by simpa using h, k, hk, rfl, fun j hj => ?_⟩
    have := hn j hj
    rw [List.getD_eq_getElem?_getD, List.getElem?_eq_getElem (by omega)] at this
    simpa using this
  exact ⟨by unfold idxL; rw [e], by unfold ofL; rw [e2]⟩
theorem idx_none {l : List (Nat × Int)} {a : Nat} (hn : ∀ i, i < l.length → (l.getD i (0, 0)).1 ≠ a) : idxL l a = -1 ∧ ofL l a = 0 := by
  have hh : ∀ x ∈ l, ¬ (x.1 == a) = true := fun x hx => by
    obtain ⟨i, hi, rfl⟩ := List.mem_iff_getElem.1 hx
    have := hn i hi
    rw [List.getD_eq_getElem?_getD, List.getElem?_eq_getElem hi] at this
    simpa using this
  have e : l.findIdx? (fun g => g.1 == a) = none := by
    rw [List.findIdx?_eq_none_iff]
    intro x hx
    simpa using hh x hx
  have e2 : l.find? (fun g => g.1 == a) = none := by
    rw [List.find?_eq_none]
    exact hh
  exact ⟨by unfold idxL; rw [e], by unfold ofL; rw [e2]⟩
theorem idx_cases (l : List (Nat × Int)) (a : Nat) : (idxL l a = -1 ∧ ofL l a = 0) ∨ ∃ k, ∃ hk : k < l.length, idxL l a = (k : Int) ∧ ofL l a = l[k].2 := by
  cases e : l.findIdx? (fun g => g.1 == a) with
  | none =>
    left
    rw [List.findIdx?_eq_none_iff] at e
    exact idx_none fun i hi => by
      rw [List.getD_eq_getElem?_getD, List.getElem?_eq_getElem hi]
      have := e l[i] (List.getElem_mem hi)
      simpa using this
  | some k =>
    right
    rw [List.findIdx?_eq_some_iff_getElem] at e
    obtain ⟨hk, h1, h2⟩ := e
    refine ⟨k, hk, idx_yes hk (by simpa using h1) fun i hi => ?_⟩
    have := h2 i hi
    rw [List.getD_eq_getElem?_getD, List.getElem?_eq_getElem (by omega)]
    simpa using this
/-- What holds at a round's head of IndexFunc. -/
def IRel (l : List (Nat × Int)) (a : Nat) (w : World) (i : Value) (w' : World) : Prop := ∃ k : Nat, k ≤ l.length ∧ i = .int .i64 k ∧ (∀ j, j < k → (l.getD j (0, 0)).1 ≠ a) ∧ Below w.heap.size w w'
end Go.Proofs.YtdnnkdldolhbpaaGreatDoor
namespace Go.Proofs.YtdnnkdldolhbpaaGreatDoor
open Go.ChangeShapes Go.WideShapes Go.ChangeAt Go.RowKit

set_option maxRecDepth 20000 in
set_option maxHeartbeats 1000000 in
theorem Clone13_any (b0 o0 n c B : Nat) (l2 : List (Nat × Int)) (w : World) (hR : Rs legT w B (some ⟨b0, o0, none⟩) l2) (hn : l2.length = n) (hm : n ≤ 100000) (hB : B ≤ w.heap.size) :
    Calls Tryz.prog 59 #[.slice (some ⟨b0, o0, none⟩) n c] w (LegsPost w l2) := by
  have HR := Lib.hid hR
  have HL := Lib.hid hn
  clear hR hn
  have hE : ∀ W, (binOp .eql 34 (.slice (some ⟨b0, o0, none⟩) n c) (.slice none 0 0)).run Tryz.prog W = .ok (.bool false) W := fun W => by kernel_rfl
  have HO0 := Lib.hid (OwnS.made (T := legT) (e := 53) w (cap := 0) (cur := #[]) (b := w.heap.size) (Nat.le_refl _) (by decide) rfl)
  have HB0 := Lib.hid (b_alloc w (.cells #[] 53))
  have HR0 := Lib.hid (HR.out.below ((Below.refl _ _).alloc hB (.cells #[] 53)))
  go_enter Tryz.func59, Tryz.ntmps59
  go_wp2_with (with_reducible refine wpList_appendS (o := ⟨some 7, _, _, _, _, _⟩) rfl rowLeg (.tmp 5) (.tmp 6) rfl w.heap.size _ 0 [] ?h1 HO0.out B (some ⟨b0, o0, none⟩) n c l2 ?h2 HR0.out HL.out ?h3 ?h4 ?h5 ?_)
  try (case h1 => rfl)
  try (case h2 => rfl)
  try (case h3 => unfold maxLen; omega)
  try (case h4 => omega)
  try (case h5 => simp)
  intro v1 w1 ho1 hg1 _ _
  try simp only [Nat.zero_add, List.nil_append] at ho1
  have hb1 : Below w.heap.size w w1 := HB0.out.grown hg1 HB0.out.size (fun g hg => (HO0.out.lt g hg).1)
  obtain ⟨_, A1, c1, rfl, hc1, hm1, _⟩ := ho1.form (by decide)
  have HO1 := Lib.hid ho1
  have HB1 := Lib.hid hb1
  clear ho1 hb1 hg1 HO0 HB0 HR0 HR
  go_wp2_with fail
  go_ret
  exact ⟨A1, c1, by rw [HL.out]; rfl, by rw [HL.out]; exact hc1, hm1, by rw [HL.out]; exact HO1.out, HB1.out⟩
theorem flat_set : ∀ (l : List (Nat × Int)) (k : Nat) (hk : k < l.length) (z : Int), (l.flatMap legT.cells).set (k * 2 + 1) (.int .i64 z) = (l.set k (l[k].1, z)).flatMap legT.cells
  | g :: r, 0, _, z => rfl
  | g :: r, k + 1, hk, z => by
    have ih := flat_set r k (by simpa using hk) z
    have e : ∀ x : Nat × Int, legT.cells x = [.int .u8 (x.1 : Int), .int .i64 x.2] := fun x => rfl
    rw [List.flatMap_cons, List.set_cons_succ, List.flatMap_cons, e, List.getElem_cons_succ, ← ih]
    rw [show (k + 1) * 2 + 1 = (k * 2 + 1) + 1 + 1 by omega]
    rfl
/-- The amount of leg k of an own row, written over. -/
theorem own_setAmt {e : TypeId} {w : World} {base n c g : Nat} {l : List (Nat × Int)} (h : OwnS legT e w base (.slice (some ⟨g, 0, none⟩) n c) n l) {k : Nat} (hk : k < l.length) (z : Int) :
    OwnS legT e (w.setCell ⟨g, k * 2 + 1, none⟩ (.int .i64 z)) base (.slice (some ⟨g, 0, none⟩) n c) n (l.set k (l[k].1, z)) := by
  have hl := h.length (by decide)
  unfold OwnS at h ⊢
  refine ⟨by rw [flatS_len, List.length_set, hl], ?_⟩
  rcases h.2 with ⟨h1, _⟩ | ⟨g', cap', cur, h1, h2, hg, h4, h5, h6, ht⟩
  · cases h1
  · injection h1 with e1 e2 e3
    injection e1 with e1
    injection e1 with e1
    subst e1
    have hcs : k * 2 + 1 < cur.size := by
      rw [h6]
      have : l.length ≤ cap' := by rw [hl]; exact h4
      show k * 2 + 1 < cap' * 2
      omega
    refine .inr ⟨g, cap', cur.setIfInBounds (k * 2 + 1) (.int .i64 z), by rw [e3], h2, ?_, h4, h5, by simp [h6], ?_⟩
    · exact Blk.set_ (show Blk w g e cur from hg) (k * 2 + 1) (.int .i64 z)
    · rw [Array.toList_setIfInBounds, List.take_set, ht]
      unfold flatS
      exact flat_set l k hk z
end Go.Proofs.YtdnnkdldolhbpaaGreatDoor
namespace Go.Proofs.YtdnnkdldolhbpaaGreatDoor
open Go.ChangeShapes Go.WideShapes Go.ChangeAt Go.RowKit

def negL (l : List (Nat × Int)) : List (Nat × Int) := l.map fun u => (u.1, 0 - u.2)
def negTo (l : List (Nat × Int)) (k : Nat) : List (Nat × Int) := negL (l.take k) ++ l.drop k
def lowB (l : List (Nat × Int)) : Bool := l.any fun u => u.2 == -9223372036854775808
theorem negTo_len (l : List (Nat × Int)) (k : Nat) : (negTo l k).length = l.length := by
  unfold negTo negL
  rw [List.length_append, List.length_map, List.length_take, List.length_drop]
  omega
theorem negTo_at {l : List (Nat × Int)} {k : Nat} (h : k < l.length) : (negTo l k)[k]? = some l[k] := by
  unfold negTo negL
  have hl : ((l.take k).map fun u : Nat × Int => (u.1, 0 - u.2)).length = k := by rw [List.length_map, List.length_take]; omega
  rw [List.getElem?_append_right (by rw [hl]; exact Nat.le_refl _), hl, Nat.sub_self, List.getElem?_drop, Nat.add_zero, List.getElem?_eq_getElem h]
theorem negTo_step {l : List (Nat × Int)} {k : Nat} (h : k < l.length) : (negTo l k).set k (l[k].1, 0 - l[k].2) = negTo l (k + 1) := by
  unfold negTo negL
  have hl : ((l.take k).map fun u : Nat × Int => (u.1, 0 - u.2)).length = k := by rw [List.length_map, List.length_take]; omega
  rw [List.set_append_right _ _ (by rw [hl]; exact Nat.le_refl _), hl, Nat.sub_self, List.drop_eq_getElem_cons h, List.set_cons_zero, List.take_succ_eq_append_getElem h, List.map_append, List.append_assoc]
  rfl
theorem negTo_all (l : List (Nat × Int)) : negTo l l.length = negL l := by
  unfold negTo
  rw [List.take_length, List.drop_length, List.append_nil]
theorem own_amt {e : TypeId} {w : World} {base n c g : Nat} {l : List (Nat × Int)} (h : OwnS legT e w base (.slice (some ⟨g, 0, none⟩) n c) n l) {k : Nat} (hk : k < l.length) : w.cell? ⟨g, k * 2 + 1, none⟩ = some (.int .i64 l[k].2) ∧ w.frozen? ⟨g, k * 2 + 1, none⟩ = false ∧ base ≤ g ∧ g < w.heap.size := by
  have h' := h
  unfold OwnS at h
  rcases h.2 with ⟨h1, _⟩ | ⟨g', cap', cur, h1, h2, hg, h4, h5, h6, ht⟩
  · cases h1
  · injection h1 with e1 e2 e3
    injection e1 with e1
    injection e1 with e1
    subst e1
    obtain ⟨_, A9, c9, he, _, _, hr9⟩ := h'.form (by decide)
    injection he with e4
    obtain ⟨b1, o1, e5, _, _, y1⟩ := hr9.leg hk
    rw [← e4] at e5
    injection e5 with e5
    injection e5 with e6 e7
    subst e6 e7
    rw [Nat.zero_add] at y1
    exact ⟨y1, Blk.frozen (show Blk w g e cur from hg) _, h2, (Array.getElem?_eq_some_iff.1 hg).1⟩
theorem own_setTo {e : TypeId} {w : World} {base n c g : Nat} {l : List (Nat × Int)} {k : Nat} (h : OwnS legT e w base (.slice (some ⟨g, 0, none⟩) n c) n (negTo l k)) (hk : k < l.length) {z : Int} (hz : z = 0 - l[k].2) :
    OwnS legT e (w.setCell ⟨g, k * 2 + 1, none⟩ (.int .i64 z)) base (.slice (some ⟨g, 0, none⟩) n c) n (negTo l (k + 1)) := by
  subst hz
  have hk2 : k < (negTo l k).length := by rw [negTo_len]; exact hk
  have h2 := own_setAmt h hk2 (0 - l[k].2)
  have e : (negTo l k)[k] = l[k] := by
    have := negTo_at hk
    rw [List.getElem?_eq_getElem hk2] at this
    injection this
  rw [e, negTo_step hk] at h2
  exact h2
theorem low_step {l : List (Nat × Int)} {k : Nat} (h : k < l.length) (h1 : lowB (l.take k) = false) (h2 : l[k].2 ≠ -9223372036854775808) : lowB (l.take (k + 1)) = false := by
  unfold lowB at h1 ⊢
  rw [List.take_succ_eq_append_getElem h, List.any_append, h1]
  simpa using h2
theorem low_yes {l : List (Nat × Int)} {k : Nat} (h : k < l.length) (h2 : l[k].2 = -9223372036854775808) : lowB l = true := by
  unfold lowB
  rw [List.any_eq_true]
  exact ⟨l[k], List.getElem_mem h, by simp [h2]⟩
/-- What holds at a round's head. -/
def TRel (y : Ky) (l : List (Nat × Int)) (w : World) (base gA g4 c4 : Nat) (i : Value) (w' : World) : Prop :=
  ∃ k : Nat, k ≤ l.length ∧ i = .int .i64 k ∧ lowB (l.take k) = false ∧ Below w.heap.size w w' ∧ OwnS legT 53 w' base (.slice (some ⟨gA, 0, none⟩) l.length c4) l.length (negTo l k) ∧
    Blk w' g4 40 (entC y (.slice (some ⟨gA, 0, none⟩) l.length c4)) ∧ Blk w' (w.heap.size + 1) 40 #[.int .u32 0, .int .i32 0, .int .u8 0, .int .u32 0, .slice Option.none 0 0]
theorem fin_turned {Post : Ending → World → Prop} {W : World} {T : Array Value} {g : Nat} {c0 c1 c2 c3 c4 v3 : Value} (hQ : Blk W g 40 #[c0, c1, c2, c3, c4]) (h2 : T[2]? = some (.pointer (some ⟨g, 0, none⟩))) (h3 : T[3]? = some v3)
    (hp : Post (.returned (.tuple #[.agg #[c0, c1, c2, c3, c4], v3])) W) : bodyPost Tryz.prog Tryz.f44 Post Exit.ret { tmps := T, defers := [] } W := by
  have x0 := hQ.cell 0
  have x1 := hQ.cell 1
  have x2 := hQ.cell 2
  have x3 := hQ.cell 3
  have x4 := hQ.cell 4
  simp at x0 x1 x2 x3 x4
  refine bodyPost_ret (v := .tuple #[.agg #[c0, c1, c2, c3, c4], v3]) ?_ rfl hp
  simp [results, Tryz.results44, go_sem, h2, h3, x0, x1, x2, x3, x4, Result.andThen]
def zeroT : Value := .agg #[.int .u32 0, .int .i32 0, .int .u8 0, .int .u32 0, .slice Option.none 0 0]
/-- What Turned leaves. -/
def TurnP (y : Ky) (l : List (Nat × Int)) (w : World) (e : Ending) (w' : World) : Prop :=
  (entB y l = false → e = .returned (.tuple #[zeroT, .iface 59 (.int .i64 1)]) ∧ Below w.heap.size w w') ∧
  (entB y l = true → lowB l = true → e = .returned (.tuple #[zeroT, .iface 59 (.int .i64 12)]) ∧ Below w.heap.size w w') ∧
  (entB y l = true → lowB l = false → ∃ (A : Option Addr) (c : Nat), e = .returned (.tuple #[entV y (.slice A l.length c), .nilIface]) ∧ OwnS legT 53 w' w.heap.size (.slice A l.length c) l.length (negL l) ∧ Below w.heap.size w w')
theorem own_lowT {e : TypeId} {w : World} {b b' n : Nat} {v : Value} {l : List (Nat × Int)} (h : OwnS legT e w b v n l) (hb : b' ≤ b) : OwnS legT e w b' v n l := by
  unfold OwnS at h ⊢
  refine ⟨h.1, ?_⟩
  rcases h.2 with ⟨h1, h2⟩ | ⟨g, cap, cur, h1, h2, h3⟩
  · exact .inl ⟨h1, h2⟩
  · exact .inr ⟨g, cap, cur, h1, Nat.le_trans hb h2, h3⟩
def legsO (l : List (Nat × Int)) (base : Nat) : Flw := ⟨fun v w => ∃ A c, v = .slice A l.length c ∧ OwnS legT 53 w base (.slice A l.length c) l.length l, fun ⟨A, c, h1, h2⟩ hb => ⟨A, c, h1, h2.below hb⟩⟩
def entT (y : Ky) (l : List (Nat × Int)) (base : Nat) : Flw := ⟨fun v w => ∃ A c, v = entV y (.slice A l.length c) ∧ OwnS legT 53 w base (.slice A l.length c) l.length l, fun ⟨A, c, h1, h2⟩ hb => ⟨A, c, h1, h2.below hb⟩⟩
theorem cClone {b0 o0 n c : Nat} {l : List (Nat × Int)} {base : Nat} {w : World} (hw : base ≤ w.heap.size) (hn : l.length = n) (hm : n ≤ 100000) (hR : Rs legT w w.heap.size (some ⟨b0, o0, none⟩) l) : Calls Tryz.prog 59 #[.slice (some ⟨b0, o0, none⟩) n c] w (ToF (legsO l base) w) := by
  refine (Clone13_any b0 o0 n c w.heap.size l w hR hn hm (Nat.le_refl _)).mono ?_
  rintro e w' ⟨A', c', rfl, -, -, ho, hb⟩
  exact ⟨_, rfl, ⟨A', c', rfl, own_lowT ho hw⟩, hb⟩
theorem key_loadT {w : World} {g : Nat} {y : Ky} {v : Value} (h : Blk w g 40 #[.int .u32 (y.a : Int), .int .i32 y.d, .int .u8 (y.k : Int), .int .u32 (y.s : Int), v]) : (Instr.loadAt 33 (.pointer (some ⟨g, 0, none⟩))).run Tryz.prog w = .ok y.v w := by
  have x0 := h.cell 0
  have x1 := h.cell 1
  have x2 := h.cell 2
  have x3 := h.cell 3
  simp at x0 x1 x2 x3
  unfold Ky.v
  go_simp
theorem sl_loadT {w : World} {g : Nat} {c0 c1 c2 c3 : Value} {A : Option Addr} {n c : Nat} (h : Blk w g 40 #[c0, c1, c2, c3, .slice A n c]) : (Instr.loadAt 34 (.pointer (some ⟨g, 4, none⟩))).run Tryz.prog w = .ok (.slice A n c) w := by
  have x4 := h.cell 4
  simp at x4
  go_simp
set_option maxRecDepth 100000 in
set_option maxHeartbeats 4000000 in
theorem Turned_any (y : Ky) (A : Option Addr) (n c B : Nat) (l : List (Nat × Int)) (w : World) (hR : Rs legT w B A l) (hn : l.length = n) (hm : n ≤ 100000) (hB : B ≤ w.heap.size) (hI : ∀ u ∈ l, LegIn u) :
    Calls Tryz.prog 44 #[entV y (.slice A n c)] w (TurnP y l w) := by
  have HQ1 := Lib.hid ((Blk.new w 40 #[.int .u32 (y.a : Int), .int .i32 y.d, .int .u8 (y.k : Int), .int .u32 (y.s : Int), .slice A n c]).alloc (.cells #[.int .u32 0, .int .i32 0, .int .u8 0, .int .u32 0, .slice Option.none 0 0] 40))
  have HQ2 : Hid (Blk ((w.alloc (.cells #[.int .u32 (y.a : Int), .int .i32 y.d, .int .u8 (y.k : Int), .int .u32 (y.s : Int), .slice A n c] 40)).alloc (.cells #[.int .u32 0, .int .i32 0, .int .u8 0, .int .u32 0, .slice Option.none 0 0] 40)) (w.heap.size + 1) 40 #[.int .u32 0, .int .i32 0, .int .u8 0, .int .u32 0, .slice Option.none 0 0]) := Lib.hid (by
    have h := Blk.new (w.alloc (.cells #[.int .u32 (y.a : Int), .int .i32 y.d, .int .u8 (y.k : Int), .int .u32 (y.s : Int), .slice A n c] 40)) 40 #[.int .u32 0, .int .i32 0, .int .u8 0, .int .u32 0, .slice Option.none 0 0]
    rw [show (w.alloc (.cells #[.int .u32 (y.a : Int), .int .i32 y.d, .int .u8 (y.k : Int), .int .u32 (y.s : Int), .slice A n c] 40)).heap.size = w.heap.size + 1 by simp] at h
    exact h)
  have HB2 := Lib.hid ((b_alloc w (.cells #[.int .u32 (y.a : Int), .int .i32 y.d, .int .u8 (y.k : Int), .int .u32 (y.s : Int), .slice A n c] 40)).alloc (by simp) (.cells #[.int .u32 0, .int .i32 0, .int .u8 0, .int .u32 0, .slice Option.none 0 0] 40))
  have HR2 := Lib.hid (hR.below (HB2.out.mono hB))
  have HRO := Lib.hid hR
  have HN := Lib.hid hn
  have HI := Lib.hid hI
  obtain ⟨q, hq⟩ : ∃ q, entB y l = q := ⟨_, rfl⟩
  have hRi := Right_any13 y A n c B l _ HR2.out hn hm (Nat.le_trans hB HB2.out.size) hI
  rw [hq] at hRi
  have HRi := Lib.hid hRi
  have HQQ := Lib.hid hq
  clear hR hn hRi hq hI
  unfold entV entC at HRi
  unfold entV entC
  obtain ⟨W2, hW2⟩ : ∃ W, ((w.alloc (.cells #[.int .u32 (y.a : Int), .int .i32 y.d, .int .u8 (y.k : Int), .int .u32 (y.s : Int), .slice A n c] 40)).alloc (.cells #[.int .u32 0, .int .i32 0, .int .u8 0, .int .u32 0, .slice Option.none 0 0] 40)) = W := ⟨_, rfl⟩
  rw [hW2] at HQ1 HQ2 HB2 HR2 HRi
  have HW2 := Lib.hid hW2
  clear hW2
  cases q
  · go_enter Tryz.func44, Tryz.ntmps44
    go_upto_region 1 with (fail)
    rw [HW2.out]
    have n0 := HQ1.out.cell 0
    have n1 := HQ1.out.cell 1
    have n2 := HQ1.out.cell 2
    have n3 := HQ1.out.cell 3
    have n4 := HQ1.out.cell 4
    simp at n0 n1 n2 n3 n4
    go_wp2_with fail
    refine HRi.out.mono ?_
    rintro e w5 ⟨rfl, hb5⟩
    have HB5 := Lib.hid (HB2.out.trans (hb5.mono HB2.out.size))
    have HQ5 := Lib.hid (HQ2.out.below hb5 HQ2.out.lt)
    clear hb5 n0 n1 n2 n3 n4 HRi HW2 HQ1 HQ2 HB2 HR2
    have m0 := HQ5.out.cell 0
    have m1 := HQ5.out.cell 1
    have m2 := HQ5.out.cell 2
    have m3 := HQ5.out.cell 3
    have m4 := HQ5.out.cell 4
    have z0 := HQ5.out.frozen 0
    have z1 := HQ5.out.frozen 1
    have z2 := HQ5.out.frozen 2
    have z3 := HQ5.out.frozen 3
    have z4 := HQ5.out.frozen 4
    simp at m0 m1 m2 m3 m4
    go_wp2_with fail
    have hq6 := (((((HQ5.out.set_ 0 (.int .u32 0)).set_ 1 (.int .i32 0)).set_ 2 (.int .u8 0)).set_ 3 (.int .u32 0)).set_ 4 (.slice Option.none 0 0))
    refine fin_turned (by simpa using hq6) (by rfl) (by rfl) ⟨fun _ => ⟨rfl, ?_⟩, fun h => ?_, fun h => ?_⟩
    · exact ((((HB5.out.setCell (by show w.heap.size ≤ w.heap.size + 1; omega) (.int .u32 0) (p := ⟨w.heap.size + 1, 0, none⟩)).setCell (by show w.heap.size ≤ w.heap.size + 1; omega) (.int .i32 0) (p := ⟨w.heap.size + 1, 1, none⟩)).setCell (by show w.heap.size ≤ w.heap.size + 1; omega) (.int .u8 0) (p := ⟨w.heap.size + 1, 2, none⟩)).setCell (by show w.heap.size ≤ w.heap.size + 1; omega) (.int .u32 0) (p := ⟨w.heap.size + 1, 3, none⟩)).setCell (by show w.heap.size ≤ w.heap.size + 1; omega) (.slice Option.none 0 0) (p := ⟨w.heap.size + 1, 4, none⟩)
    · rw [HQQ.out] at h; cases h
    · rw [HQQ.out] at h; cases h
  · obtain ⟨b0, o0, rfl, -⟩ := HR2.out.leg (k := 0) (by
      have h := HQQ.out
      unfold entB at h
      simp only [Bool.and_eq_true, decide_eq_true_eq] at h
      omega)
    go_enter Tryz.func44, Tryz.ntmps44
    go_upto_region 1 with (fail)
    rw [HW2.out]
    have n0 := HQ1.out.cell 0
    have n1 := HQ1.out.cell 1
    have n2 := HQ1.out.cell 2
    have n3 := HQ1.out.cell 3
    have n4 := HQ1.out.cell 4
    simp at n0 n1 n2 n3 n4
    go_wp2_with fail
    refine HRi.out.mono ?_
    rintro e W ⟨rfl, hb5⟩
    have HB5 := Lib.hid (HB2.out.trans (hb5.mono HB2.out.size))
    have HQ5 := Lib.hid (HQ1.out.below hb5 HQ1.out.lt)
    have HZE := Lib.hid (HQ2.out.below hb5 HQ2.out.lt)
    have HR5 := Lib.hid (HR2.out.below (hb5.mono (Nat.le_trans hB HB2.out.size)))
    have hsz5 := HZE.out.lt
    clear hb5 n0 n1 n2 n3 n4 HRi HW2 HQ1 HQ2 HB2 HR2
    go_wp2_with fail
    refine wp_region_flow_last (l := [{ dst := some 14, op := Go.Op.fieldAddr 40 (Go.Operand.tmp 1) 0, type := 0, pos := "chart.go:123", after := #[], guard := none }, { dst := some 15, op := Go.Op.load 33 (Go.Operand.tmp 14), type := 33, pos := "chart.go:123", after := #[{ on := 0, ground := Go.Ground.data }], guard := none }, { dst := some 16, op := Go.Op.fieldAddr 40 (Go.Operand.tmp 1) 1, type := 0, pos := "chart.go:123", after := #[], guard := none }, { dst := some 17, op := Go.Op.load 34 (Go.Operand.tmp 16), type := 34, pos := "chart.go:123", after := #[{ on := 2, ground := Go.Ground.data }], guard := none }, { dst := some 18, op := Go.Op.call { callee := Go.Callee.value (Go.Operand.func 59), args := #[Go.Operand.tmp 17], argTypes := #[34] }, type := 34, pos := "chart.go:123", after := #[{ on := 3, ground := Go.Ground.data }], guard := none }, { dst := some 19, op := Go.Op.build 40 #[(0, Go.Operand.tmp 15), (1, Go.Operand.tmp 18)], type := 40, pos := "chart.go:123", after := #[{ on := 1, ground := Go.Ground.data }, { on := 4, ground := Go.Ground.data }], guard := none }, { dst := some 4, op := Go.Op.alloc 40, type := 0, pos := "chart.go:123", after := #[], guard := none }]) (ol := { dst := none, op := Go.Op.store 40 (Go.Operand.tmp 4) (Go.Operand.tmp 19), type := 0, pos := "chart.go:123", after := #[{ on := 6, ground := Go.Ground.data }, { on := 5, ground := Go.Ground.data }, { on := 4, ground := Go.Ground.chain }, { on := 0, ground := Go.Ground.phase }, { on := 1, ground := Go.Ground.phase }, { on := 2, ground := Go.Ground.phase }, { on := 3, ground := Go.Ground.phase }, { on := 4, ground := Go.Ground.phase }, { on := 5, ground := Go.Ground.phase }, { on := 6, ground := Go.Ground.phase }], guard := none }) rfl [some 14, some 15, some 16, some 17, some 18, some 19, some 4] (fun i => ([.is (.pointer (some ⟨w.heap.size, 0, none⟩)), .is (y.v), .is (.pointer (some ⟨w.heap.size, 4, none⟩)), .is (.slice (some ⟨b0, o0, none⟩) n c), legsO l W.heap.size, entT y l W.heap.size, boxF W.heap.size 40 #[.int .u32 0, .int .i32 0, .int .u8 0, .int .u32 0, .slice Option.none 0 0]] : List Flw).getD i .any) (by kernel_rfl) (by kernel_rfl) (by kernel_rfl) rfl rfl ?_ ?_
    · have HNn := HN.out
      have hBW : B ≤ W.heap.size := Nat.le_trans hB HB5.out.size
      have HRW : ∀ W', Below W.heap.size W W' → Rs legT W' W'.heap.size (some ⟨b0, o0, none⟩) l := fun W' hb => (HR5.out.below (hb.mono hBW)).more (Nat.le_trans hBW hb.size)
      have LK : ∀ W', Below W.heap.size W W' → (Instr.loadAt 33 (.pointer (some ⟨w.heap.size, 0, none⟩))).run Tryz.prog W' = .ok y.v W' := fun W' hb => key_loadT (HQ5.out.below hb HQ5.out.lt)
      have LS : ∀ W', Below W.heap.size W W' → (Instr.loadAt 34 (.pointer (some ⟨w.heap.size, 4, none⟩))).run Tryz.prog W' = .ok (.slice (some ⟨b0, o0, none⟩) n c) W' := fun W' hb => sl_loadT (HQ5.out.below hb HQ5.out.lt)
      clear HN HI HQQ HB5 HQ5 HZE HR5 HRO
      refine ⟨step_free rfl (fun aF wF hs hb => ?_), ?_⟩
      · obtain ⟨x0, -⟩ := hs
        have e0 : aF.eval (.tmp 1) = .pointer (some ⟨w.heap.size, 0, none⟩) := x0
        refine opC_value (v := .pointer (some ⟨w.heap.size, 0, none⟩)) ?_ ⟨rfl, below_same wF⟩
        have t0 := ev_of e0
        go_simp
      refine ⟨step_free rfl (fun aF wF hs hb => ?_), ?_⟩
      · obtain ⟨x0, -⟩ := hs
        have e0 : aF.eval (.tmp 14) = .pointer (some ⟨w.heap.size, 0, none⟩) := x0
        exact opC_load e0 (LK wF hb) ⟨rfl, below_same wF⟩
      refine ⟨step_free rfl (fun aF wF hs hb => ?_), ?_⟩
      · obtain ⟨x0, -⟩ := hs
        have e0 : aF.eval (.tmp 1) = .pointer (some ⟨w.heap.size, 0, none⟩) := x0
        refine opC_value (v := .pointer (some ⟨w.heap.size, 4, none⟩)) ?_ ⟨rfl, below_same wF⟩
        have t0 := ev_of e0
        go_simp
      refine ⟨step_free rfl (fun aF wF hs hb => ?_), ?_⟩
      · obtain ⟨x0, -⟩ := hs
        have e0 : aF.eval (.tmp 16) = .pointer (some ⟨w.heap.size, 4, none⟩) := x0
        exact opC_load e0 (LS wF hb) ⟨rfl, below_same wF⟩
      refine ⟨step_free rfl (fun aF wF hs hb => ?_), ?_⟩
      · obtain ⟨x0, -⟩ := hs
        have e0 : aF.eval (.tmp 17) = .slice (some ⟨b0, o0, none⟩) n c := x0
        exact opC_callF (args := #[.slice (some ⟨b0, o0, none⟩) n c]) (enters_of Tryz.func59 (by kernel_rfl) rfl) (by simp [e0]) (cClone hb.size HNn hm (HRW wF hb)) (fun _ _ h1 h2 => ⟨h1, h2⟩)
      refine ⟨step_free rfl (fun aF wF hs hb => ?_), ?_⟩
      · obtain ⟨x0, x1, -⟩ := hs
        have e0 : aF.eval (.tmp 15) = y.v := x0
        obtain ⟨A, c, e1, ho⟩ : (legsO l W.heap.size).p (aF.eval (.tmp 18)) wF := x1
        refine opC_value (v := entV y (.slice A l.length c)) ?_ ⟨⟨A, c, rfl, ho⟩, below_same wF⟩
        have t0 := ev_of e0
        have t1 := ev_of e1
        unfold Ky.v at t0
        unfold entV entC
        simp [execOp, go_sem, t0, t1]
      refine ⟨step_free rfl (fun aF wF hs hb => ?_), ?_⟩
      · refine opC_alloc (cs := #[.int .u32 0, .int .i32 0, .int .u8 0, .int .u32 0, .slice Option.none 0 0]) (by go_simp) ⟨⟨wF.heap.size, rfl, ?_, ?_⟩, ?_⟩
        · exact hb.size
        · exact heap_alloc_new wF _
        · exact b_alloc wF _
      exact trivial
    · intro f w5 hf hb5
      obtain ⟨g4, e4, hg4, hk4⟩ : (boxF W.heap.size 40 #[.int .u32 0, .int .i32 0, .int .u8 0, .int .u32 0, .slice Option.none 0 0]).p (f 6) w5 := hf 6 4 rfl
      obtain ⟨A4, c4, e19, ho4⟩ : (entT y l W.heap.size).p (f 5) w5 := hf 5 19 rfl
      have hl1 : 0 < l.length := by
        have h := HQQ.out
        unfold entB at h
        simp only [Bool.and_eq_true, decide_eq_true_eq] at h
        omega
      obtain ⟨gA, hA4⟩ : ∃ gA, A4 = some ⟨gA, 0, none⟩ := by
        unfold OwnS at ho4
        rcases ho4.2 with ⟨h1, h2⟩ | ⟨g', cap', cur, h1, _⟩
        · omega
        · injection h1 with e1
          exact ⟨g', e1⟩
      subst hA4
      simp only [putF, Act.put, List.setIfInBounds_toArray, List.set_cons_zero, List.set_cons_succ]
      rw [e4, e19]
      have k0 := Blk.cell hk4 0
      have k1 := Blk.cell hk4 1
      have k2 := Blk.cell hk4 2
      have k3 := Blk.cell hk4 3
      have k4 := Blk.cell hk4 4
      have z0 := Blk.frozen hk4 0
      have z1 := Blk.frozen hk4 1
      have z2 := Blk.frozen hk4 2
      have z3 := Blk.frozen hk4 3
      have z4 := Blk.frozen hk4 4
      simp at k0 k1 k2 k3 k4
      unfold entV entC
      constructor
      go_simp
      have g5 := grown_trans (grown_trans (grown_trans (grown_trans (grown_set w5 g4 0 (.int .u32 (y.a : Int))) (grown_set _ g4 1 (.int .i32 y.d))) (grown_set _ g4 2 (.int .u8 (y.k : Int)))) (grown_set _ g4 3 (.int .u32 (y.s : Int)))) (grown_set _ g4 4 (.slice (some ⟨gA, 0, none⟩) l.length c4))
      have b5 := ((((hb5.setCell hg4 (.int .u32 (y.a : Int)) (p := ⟨g4, 0, none⟩)).setCell hg4 (.int .i32 y.d) (p := ⟨g4, 1, none⟩)).setCell hg4 (.int .u8 (y.k : Int)) (p := ⟨g4, 2, none⟩)).setCell hg4 (.int .u32 (y.s : Int)) (p := ⟨g4, 3, none⟩)).setCell hg4 (.slice (some ⟨gA, 0, none⟩) l.length c4) (p := ⟨g4, 4, none⟩)
      have n7 := ((((Blk.set_ hk4 0 (.int .u32 (y.a : Int))).set_ 1 (.int .i32 y.d)).set_ 2 (.int .u8 (y.k : Int))).set_ 3 (.int .u32 (y.s : Int))).set_ 4 (.slice (some ⟨gA, 0, none⟩) l.length c4)
      have o5 := ho4.grown g5 (.inl (fun e => ho4.ne_blk hk4 entNe e.symm))
      obtain ⟨V, hV⟩ : ∃ V, (((((w5.setCell ⟨g4, 0, none⟩ (.int .u32 (y.a : Int))).setCell ⟨g4, 1, none⟩ (.int .i32 y.d)).setCell ⟨g4, 2, none⟩ (.int .u8 (y.k : Int))).setCell ⟨g4, 3, none⟩ (.int .u32 (y.s : Int))).setCell ⟨g4, 4, none⟩ (.slice (some ⟨gA, 0, none⟩) l.length c4)) = V := ⟨_, rfl⟩
      rw [hV] at g5 b5 n7 o5
      rw [hV]
      have HN7 : Hid (Blk V g4 40 (entC y (.slice (some ⟨gA, 0, none⟩) l.length c4))) := Lib.hid (by simpa [entC] using n7)
      have HB7 := Lib.hid (HB5.out.trans (b5.mono HB5.out.size))
      have HE7 := Lib.hid (HQ5.out.below b5 HQ5.out.lt)
      have HZ7 := Lib.hid (HZE.out.below b5 HZE.out.lt)
      have HR7 := Lib.hid (HR5.out.below (b5.mono (Nat.le_trans hB HB5.out.size)))
      have HO7 := Lib.hid o5
      have HG4 := Lib.hid hg4
      clear hV g5 b5 n7 o5 ho4 hk4 hg4 e4 e19 hf hb5 k0 k1 k2 k3 k4 z0 z1 z2 z3 z4 HQ5 HZE HR5 HB5
      simp only [comesC]
      have n4 := HE7.out.cell 4
      simp at n4
      go_wp2_with fail
      clear n4
      go_loopw [23] (TRel y l w W.heap.size gA g4 c4) (fun i _ => l.length - (intOf i).toNat)
      case atStart => exact ⟨0, Nat.zero_le _, rfl, rfl, HB7.out, by simpa [negTo, negL] using HO7.out, HN7.out, HZ7.out⟩
      case round =>
        obtain ⟨k, hk, rfl, hlow, hbw, hown, hb4, hbz⟩ := hrel
        have HLOW := Lib.hid hlow
        have HBW := Lib.hid hbw
        have HOW := Lib.hid hown
        have HB4 := Lib.hid hb4
        have HBZ := Lib.hid hbz
        clear hlow hown hb4 hbz
        by_cases hlt : k < n
        · have hkl : k < l.length := by rw [HN.out]; exact hlt
          obtain ⟨b1, o1, e1, hb1, y0, y1⟩ := (HRO.out.below (hbw.mono hB)).leg hkl
          injection e1 with e1
          injection e1 with e1 e2
          subst e1 e2
          have hLI := HI.out l[k] (List.getElem_mem hkl)
          obtain ⟨x, hx⟩ : ∃ x, l[k].1 = x := ⟨_, rfl⟩
          obtain ⟨z, hz⟩ : ∃ z, l[k].2 = z := ⟨_, rfl⟩
          unfold LegIn at hLI
          rw [hx] at y0 hLI
          rw [hz] at y1 hLI
          obtain ⟨-, hz1, hz2⟩ := hLI
          have HX := Lib.hid hx
          have HZ := Lib.hid hz
          have hcN := CoinNeg_any z ⟨hz1, hz2⟩
          have hsw := HBZ.out.lt
          have hb1w : b0 < wr.heap.size := by have := HBW.out.size; omega
          have hg4w := HB4.out.lt
          clear hx hz hbw
          by_cases hlo : z = -9223372036854775808
          · have hnf : ¬ Fits (0 - z) := by unfold Fits; omega
            simp only [if_neg hnf] at hcN
            have hly := low_yes hkl (HZ.out.trans hlo)
            have HLY := Lib.hid hly
            clear hly hlo hnf hz1 hz2
            go_wp2_with fail
            refine (hcN _).mono ?_
            rintro e w8 ⟨rfl, rfl⟩
            clear hcN y0 y1
            have HZA := Lib.hid (HBZ.out.alloc (.cells #[.int .u8 (x : Int), .int .i64 z] 53))
            have HBA := Lib.hid (HBW.out.alloc HBW.out.size (.cells #[.int .u8 (x : Int), .int .i64 z] 53))
            obtain ⟨W8, hW8⟩ : ∃ W, wr.alloc (.cells #[.int .u8 (x : Int), .int .i64 z] 53) = W := ⟨_, rfl⟩
            rw [hW8] at HZA HBA ⊢
            clear hW8
            have m0 := HZA.out.cell 0
            have m1 := HZA.out.cell 1
            have m2 := HZA.out.cell 2
            have m3 := HZA.out.cell 3
            have m4 := HZA.out.cell 4
            have z0 := HZA.out.frozen 0
            have z1 := HZA.out.frozen 1
            have z2 := HZA.out.frozen 2
            have z3 := HZA.out.frozen 3
            have z4 := HZA.out.frozen 4
            simp at m0 m1 m2 m3 m4
            go_wp2_with fail
            have hq6 := (((((HZA.out.set_ 0 (.int .u32 0)).set_ 1 (.int .i32 0)).set_ 2 (.int .u8 0)).set_ 3 (.int .u32 0)).set_ 4 (.slice Option.none 0 0))
            refine fin_turned (by simpa using hq6) (by rfl) (by rfl) ⟨fun h => ?_, fun _ _ => ⟨rfl, ?_⟩, fun _ h => ?_⟩
            · rw [HQQ.out] at h; cases h
            · exact ((((HBA.out.setCell (by show w.heap.size ≤ w.heap.size + 1; omega) (.int .u32 0) (p := ⟨w.heap.size + 1, 0, none⟩)).setCell (by show w.heap.size ≤ w.heap.size + 1; omega) (.int .i32 0) (p := ⟨w.heap.size + 1, 1, none⟩)).setCell (by show w.heap.size ≤ w.heap.size + 1; omega) (.int .u8 0) (p := ⟨w.heap.size + 1, 2, none⟩)).setCell (by show w.heap.size ≤ w.heap.size + 1; omega) (.int .u32 0) (p := ⟨w.heap.size + 1, 3, none⟩)).setCell (by show w.heap.size ≤ w.heap.size + 1; omega) (.slice Option.none 0 0) (p := ⟨w.heap.size + 1, 4, none⟩)
            · rw [HLY.out] at h; cases h
          · have hf : Fits (0 - z) := by unfold Fits; omega
            simp only [if_pos hf] at hcN
            have HLO := Lib.hid hlo
            obtain ⟨q, hq⟩ : ∃ q, 0 - z = q := ⟨_, rfl⟩
            rw [hq] at hcN
            have HQ := Lib.hid hq
            clear hf hlo hq hz1 hz2
            go_wp2_with fail
            refine (hcN _).mono ?_
            rintro e w8 ⟨rfl, rfl⟩
            clear hcN y0 y1
            have HBA := Lib.hid (HBW.out.alloc HBW.out.size (.cells #[.int .u8 (x : Int), .int .i64 z] 53))
            have HOA := Lib.hid (HOW.out.alloc (.cells #[.int .u8 (x : Int), .int .i64 z] 53))
            have H4A := Lib.hid (HB4.out.alloc (.cells #[.int .u8 (x : Int), .int .i64 z] 53))
            have HZA := Lib.hid (HBZ.out.alloc (.cells #[.int .u8 (x : Int), .int .i64 z] 53))
            obtain ⟨W8, hW8⟩ : ∃ W, wr.alloc (.cells #[.int .u8 (x : Int), .int .i64 z] 53) = W := ⟨_, rfl⟩
            rw [hW8] at HBA HOA H4A HZA ⊢
            clear hW8 hsw hb1w hg4w
            have hkn2 : k < (negTo l k).length := by rw [negTo_len]; exact hkl
            obtain ⟨q0, q1, q2, q3⟩ := own_amt HOA.out hkn2
            have n4 := H4A.out.cell 4
            simp [entC] at n4
            obtain ⟨q5, hq5⟩ : ∃ q5, ((negTo l k)[k]'hkn2).2 = q5 := ⟨_, rfl⟩
            rw [hq5] at q0
            have HKN := Lib.hid hkn2
            clear hq5 hkn2
            go_wp2_with fail
            go_roundw
            case rel =>
              have hgw : w.heap.size ≤ gA := by omega
              refine ⟨k + 1, by omega, by go_num, low_step hkl HLOW.out (by rw [HZ.out]; exact HLO.out), HBA.out.setCell hgw _ (p := ⟨gA, k * 2 + 1, none⟩), own_setTo HOA.out hkl (by rw [HZ.out]; exact HQ.out.symm), H4A.out.far (p := ⟨gA, k * 2 + 1, none⟩) (fun e => HOA.out.ne_blk H4A.out entNe (by rw [e]; rfl)) _, HZA.out.far (p := ⟨gA, k * 2 + 1, none⟩) (by show w.heap.size + 1 ≠ gA; omega) _⟩
            case measure => simp [intOf]; omega
        · have hkn : k = l.length := by have := HN.out; omega
          have hne : gA ≠ w.heap.size + 1 := by
            have h1 := HBZ.out
            intro e
            exact HOW.out.ne_blk h1 entNe (by rw [e]; rfl)
          subst hkn
          have HLW := HLOW.out
          rw [List.take_length] at HLW
          have HLY := Lib.hid HLW
          have hO9 := HOW.out
          rw [negTo_all] at hO9
          have HO9 := Lib.hid hO9
          have m0 := HBZ.out.cell 0
          have m1 := HBZ.out.cell 1
          have m2 := HBZ.out.cell 2
          have m3 := HBZ.out.cell 3
          have m4 := HBZ.out.cell 4
          have z0 := HBZ.out.frozen 0
          have z1 := HBZ.out.frozen 1
          have z2 := HBZ.out.frozen 2
          have z3 := HBZ.out.frozen 3
          have z4 := HBZ.out.frozen 4
          have n0 := HB4.out.cell 0
          have n1 := HB4.out.cell 1
          have n2 := HB4.out.cell 2
          have n3 := HB4.out.cell 3
          have n4 := HB4.out.cell 4
          simp at m0 m1 m2 m3 m4
          simp [entC] at n0 n1 n2 n3 n4
          clear HLW hO9 hbw
          go_wp2_with fail
          have hq6 := (((((HBZ.out.set_ 0 (.int .u32 (y.a : Int))).set_ 1 (.int .i32 y.d)).set_ 2 (.int .u8 (y.k : Int))).set_ 3 (.int .u32 (y.s : Int))).set_ 4 (.slice (some ⟨gA, 0, none⟩) l.length c4))
          have b6 := ((((HBW.out.setCell (by show w.heap.size ≤ w.heap.size + 1; omega) (.int .u32 (y.a : Int)) (p := ⟨w.heap.size + 1, 0, none⟩)).setCell (by show w.heap.size ≤ w.heap.size + 1; omega) (.int .i32 y.d) (p := ⟨w.heap.size + 1, 1, none⟩)).setCell (by show w.heap.size ≤ w.heap.size + 1; omega) (.int .u8 (y.k : Int)) (p := ⟨w.heap.size + 1, 2, none⟩)).setCell (by show w.heap.size ≤ w.heap.size + 1; omega) (.int .u32 (y.s : Int)) (p := ⟨w.heap.size + 1, 3, none⟩)).setCell (by show w.heap.size ≤ w.heap.size + 1; omega) (.slice (some ⟨gA, 0, none⟩) l.length c4) (p := ⟨w.heap.size + 1, 4, none⟩)
          have g6 := grown_trans (grown_trans (grown_trans (grown_trans (grown_set wr (w.heap.size + 1) 0 (.int .u32 (y.a : Int))) (grown_set _ (w.heap.size + 1) 1 (.int .i32 y.d))) (grown_set _ (w.heap.size + 1) 2 (.int .u8 (y.k : Int)))) (grown_set _ (w.heap.size + 1) 3 (.int .u32 (y.s : Int)))) (grown_set _ (w.heap.size + 1) 4 (.slice (some ⟨gA, 0, none⟩) l.length c4))
          have o6 := HO9.out.grown g6 (.inl (fun e => hne (by injection e with e; exact e.symm)))
          refine fin_turned (by simpa using hq6) (by rfl) (by rfl) ⟨fun h => ?_, fun _ h => ?_, fun _ _ => ⟨some ⟨gA, 0, none⟩, c4, rfl, own_lowT o6 (by omega), b6⟩⟩
          · rw [HQQ.out] at h; cases h
          · rw [HLY.out] at h; cases h
end Go.Proofs.YtdnnkdldolhbpaaGreatDoor
