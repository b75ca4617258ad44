/-
  slices.Clone at legs; a leg of an own row written over. Conditions: the rows are there.
-/
import Derived.Test.YtabiaeicejgeiaaGreatDoorTurA
import Derived.Test.YtabiaeicejgeiaaGreatDoorChH
namespace Go.Proofs.YtabiaeicejgeiaaGreatDoor
open Go.ChangeShapes Go.WideShapes Go.ChangeAt Go.RowKit

set_option maxRecDepth 20000 in
set_option maxHeartbeats 1000000 in
theorem Clone13_any (b0 o0 n c B : Nat) (l2 : List (Nat × Int)) (w : World) (hR : Rs legT w B (some ⟨b0, o0, none⟩) l2) (hn : l2.length = n) (hm : n ≤ 100000) (hB : B ≤ w.heap.size) :
    Calls Tryz.prog 59 #[.slice (some ⟨b0, o0, none⟩) n c] w (LegsPost w l2) := by
  have HR := Lib.hid hR
  have HL := Lib.hid hn
  clear hR hn
  have hE : ∀ W, (binOp .eql 34 (.slice (some ⟨b0, o0, none⟩) n c) (.slice none 0 0)).run Tryz.prog W = .ok (.bool false) W := fun W => by kernel_rfl
  have HO0 := Lib.hid (OwnS.made (T := legT) (e := 53) w (cap := 0) (cur := #[]) (b := w.heap.size) (Nat.le_refl _) (by decide) rfl)
  have HB0 := Lib.hid (b_alloc w (.cells #[] 53))
  have HR0 := Lib.hid (HR.out.below ((Below.refl _ _).alloc hB (.cells #[] 53)))
  go_enter Tryz.func59, Tryz.ntmps59
  go_wp2_with (with_reducible refine wpList_appendS (o := ⟨some 7, _, _, _, _, _⟩) rfl rowLeg (.tmp 5) (.tmp 6) rfl w.heap.size _ 0 [] ?h1 HO0.out B (some ⟨b0, o0, none⟩) n c l2 ?h2 HR0.out HL.out ?h3 ?h4 ?h5 ?_)
  try (case h1 => rfl)
  try (case h2 => rfl)
  try (case h3 => unfold maxLen; omega)
  try (case h4 => omega)
  try (case h5 => simp)
  intro v1 w1 ho1 hg1 _ _
  try simp only [Nat.zero_add, List.nil_append] at ho1
  have hb1 : Below w.heap.size w w1 := HB0.out.grown hg1 HB0.out.size (fun g hg => (HO0.out.lt g hg).1)
  obtain ⟨_, A1, c1, rfl, hc1, hm1, _⟩ := ho1.form (by decide)
  have HO1 := Lib.hid ho1
  have HB1 := Lib.hid hb1
  clear ho1 hb1 hg1 HO0 HB0 HR0 HR
  go_wp2_with fail
  go_ret
  exact ⟨A1, c1, by rw [HL.out]; rfl, by rw [HL.out]; exact hc1, hm1, by rw [HL.out]; exact HO1.out, HB1.out⟩
theorem flat_set : ∀ (l : List (Nat × Int)) (k : Nat) (hk : k < l.length) (z : Int), (l.flatMap legT.cells).set (k * 2 + 1) (.int .i64 z) = (l.set k (l[k].1, z)).flatMap legT.cells
  | g :: r, 0, _, z => rfl
  | g :: r, k + 1, hk, z => by
    have ih := flat_set r k (by simpa using hk) z
    have e : ∀ x : Nat × Int, legT.cells x = [.int .u8 (x.1 : Int), .int .i64 x.2] := fun x => rfl
    rw [List.flatMap_cons, List.set_cons_succ, List.flatMap_cons, e, List.getElem_cons_succ, ← ih]
    rw [show (k + 1) * 2 + 1 = (k * 2 + 1) + 1 + 1 by omega]
    rfl
/-- The amount of leg k of an own row, written over. -/
theorem own_setAmt {e : TypeId} {w : World} {base n c g : Nat} {l : List (Nat × Int)} (h : OwnS legT e w base (.slice (some ⟨g, 0, none⟩) n c) n l) {k : Nat} (hk : k < l.length) (z : Int) :
    OwnS legT e (w.setCell ⟨g, k * 2 + 1, none⟩ (.int .i64 z)) base (.slice (some ⟨g, 0, none⟩) n c) n (l.set k (l[k].1, z)) := by
  have hl := h.length (by decide)
  unfold OwnS at h ⊢
  refine ⟨by rw [flatS_len, List.length_set, hl], ?_⟩
  rcases h.2 with ⟨h1, _⟩ | ⟨g', cap', cur, h1, h2, hg, h4, h5, h6, ht⟩
  · cases h1
  · injection h1 with e1 e2 e3
    injection e1 with e1
    injection e1 with e1
    subst e1
    have hcs : k * 2 + 1 < cur.size := by
      rw [h6]
      have : l.length ≤ cap' := by rw [hl]; exact h4
      show k * 2 + 1 < cap' * 2
      omega
    refine .inr ⟨g, cap', cur.setIfInBounds (k * 2 + 1) (.int .i64 z), by rw [e3], h2, ?_, h4, h5, by simp [h6], ?_⟩
    · exact Blk.set_ (show Blk w g e cur from hg) (k * 2 + 1) (.int .i64 z)
    · rw [Array.toList_setIfInBounds, List.take_set, ht]
      unfold flatS
      exact flat_set l k hk z
end Go.Proofs.YtabiaeicejgeiaaGreatDoor
