/-
  The law's few. Conditions: the rows are there.
-/
import Derived.Test.YtelhcjjdhlhfbabLateD
namespace Go.Proofs.Ytelhcjjdhlhfbab
open Go.ChangeShapes Go.WideShapes Go.ChangeAt Go.RowKit

def FewPost (w : World) (l : List (Int × Int)) (e : Ending) (w' : World) : Prop :=
  ∃ (A1 A2 : Option Addr) (c1 c2 : Nat), e = .returned (.tuple #[.slice A1 l.length c1, .slice A2 l.length c2]) ∧ Rs dueT w' w'.heap.size A1 l ∧ Rs refT w' w'.heap.size A2 l ∧ Below w.heap.size w w'
theorem dueNe : (32 : TypeId) ≠ 48 := by decide
set_option maxRecDepth 20000 in
set_option maxHeartbeats 1000000 in
theorem Few_any (A : Option Addr) (n c B : Nat) (l : List (Int × Int)) (w : World) (hR : Rs dueT w B A l) (hn : l.length = n) (hnc : n ≤ c) (hm : n ≤ maxLen) (hB : B ≤ w.heap.size) (hI : ∀ u ∈ l, DueIn u) :
    Calls Try.prog 9 #[.slice A n c] w (FewPost w (l.take 60)) := by
  obtain ⟨m, hmn⟩ : ∃ m, min n 60 = m := ⟨_, rfl⟩
  have hl2 : (l.take 60).length = m := by rw [List.length_take, hn]; omega
  have hR2 : Rs dueT w B A (l.take 60) := hR.take 60
  have hI2 : ∀ u ∈ l.take 60, DueIn u := fun u hu => hI u (List.mem_of_mem_take hu)
  obtain ⟨l2, hl2e⟩ : ∃ l2, l.take 60 = l2 := ⟨_, rfl⟩
  rw [hl2e] at hl2 hR2 hI2 ⊢
  have hm60 : m ≤ 60 := by omega
  have hmn1 : m ≤ n := by omega
  have hmm : min (n : Int) 60 = (m : Int) := by omega
  unfold maxLen at hm
  clear hR hI hl2e hn
  have HR := Lib.hid hR2
  have HI := Lib.hid hI2
  have HL := Lib.hid hl2
  clear hR2 hI2 hl2
  have HO0 := Lib.hid (OwnS.made (T := dueT) (e := 32) w (cap := 0) (cur := #[]) (b := w.heap.size) (Nat.le_refl _) (by decide) rfl)
  have HB0 := Lib.hid (b_alloc w (.cells #[] 32))
  have HR0 := Lib.hid (HR.out.below ((Below.refl _ _).alloc hB (.cells #[] 32)))
  rcases Nat.lt_or_ge 60 n with h60 | h60
  rotate_left
  · obtain rfl : m = n := by omega
    clear hmm hmn
    go_enter Try.func9, Try.ntmps9
    go_wp2_with (with_reducible refine wpList_appendS (o := ⟨some 13, _, _, _, _, _⟩) rfl rowDue (.tmp 7) (.tmp 12) rfl w.heap.size _ 0 [] ?h1 HO0.out B A m c l2 ?h2 HR0.out HL.out ?h3 ?h4 ?h5 ?_)
    try (case h1 => rfl)
    try (case h2 => rfl)
    try (case h3 => unfold maxLen; omega)
    try (case h4 => omega)
    try (case h5 => simp)
    intro v1 w1 ho1 hg1 _ _
    try simp only [Nat.zero_add, List.nil_append] at ho1
    have hb1 : Below w.heap.size w w1 := HB0.out.grown hg1 HB0.out.size (fun g hg => (HO0.out.lt g hg).1)
    obtain ⟨_, A1, c1, rfl, hc1, hm1, hr1⟩ := ho1.form (by decide)
    have HO1 := Lib.hid ho1
    have HB1 := Lib.hid hb1
    have HR1 := Lib.hid hr1
    have hcm : c1 ≤ 9223372036854775807 := by unfold maxLen at hm1; omega
    clear ho1 hb1 hg1 hr1 HO0 HB0 HR0 HR hm1
    go_wp2_with fail
    go_loopw [4, 16] (fun x i wr => ∃ k : Nat, k ≤ m ∧ i = .int .i64 k ∧ Hid (OwnS dueT 32 wr w.heap.size (.slice A1 m c1) m l2) ∧ Hid (OwnS refT 48 wr w.heap.size x k (l2.take k)) ∧ Hid (Below w.heap.size w wr)) (fun _ i _ => m - (intOf i).toNat)
    case atStart => exact ⟨0, Nat.zero_le _, rfl, HO1, Lib.hid (OwnS.nil_ w1 w.heap.size _), HB1⟩
    case round =>
      obtain ⟨k, hk, rfl, HD, HX, HBL⟩ := hrel
      by_cases hlt : k < m
      · have hkl : k < l2.length := by rw [HL.out]; exact hlt
        obtain ⟨_, A9, c9, he9, _, _, hr9⟩ := HD.out.form (by decide)
        injection he9 with e1 e2 e3
        subst e1 e3
        obtain ⟨b1, o1, rfl, hbl, d0, d1⟩ := hr9.due hkl
        obtain ⟨⟨x0, x1⟩, y0, y1⟩ := HI.out _ (List.getElem_mem hkl)
        obtain ⟨x, hx⟩ : ∃ x, (l2[k]).1 = x := ⟨_, rfl⟩
        obtain ⟨y, hy⟩ : ∃ y, (l2[k]).2 = y := ⟨_, rfl⟩
        rw [hx] at d0 x0 x1
        rw [hy] at d1 y0 y1
        have HT := Lib.hid (show l2.take k ++ [(x, y)] = l2.take (k + 1) from by rw [List.take_succ_eq_append_getElem hkl, ← hx, ← hy])
        have hsz := HBL.out.size
        have HX1 := Lib.hid ((HX.out.alloc (.cells #[.int .i32 x, .int .i64 y] 32)).alloc (.cells #[.int .i64 x, .int .i64 y] 48))
        have HD1 := Lib.hid ((HD.out.alloc (.cells #[.int .i32 x, .int .i64 y] 32)).alloc (.cells #[.int .i64 x, .int .i64 y] 48))
        have HA1 := Lib.hid ((HBL.out.alloc hsz (.cells #[.int .i32 x, .int .i64 y] 32)).alloc (by simp; omega) (.cells #[.int .i64 x, .int .i64 y] 48))
        have HN := Lib.hid (Rs.block (T := refT) (u := (x, y)) (Blk.new (wr.alloc (.cells #[.int .i32 x, .int .i64 y] 32)) 48 #[.int .i64 x, .int .i64 y]))
        rw [show (wr.alloc (.cells #[.int .i32 x, .int .i64 y] 32)).heap.size = wr.heap.size + 1 by simp] at HN
        clear hr9 hx hy HD HX
        go_wp2_with (with_reducible refine wpList_appendS (o := ⟨some 28, _, _, _, _, _⟩) rfl rowRef (.tmp 20) (.tmp 27) rfl w.heap.size _ k (l2.take k) ?p1 HX1.out _ (some ⟨wr.heap.size + 1, 0, none⟩) 1 1 [(x, y)] ?p2 HN.out rfl ?p3 ?p4 ?p5 ?_)
        try (case p1 => rfl)
        try (case p2 => rfl)
        try (case p3 => unfold maxLen; omega)
        try (case p4 => omega)
        try (case p5 => first | omega | (simp; omega))
        intro v2 w2 ho2 hg2 _ _
        have hd2 := HD1.out.past HX1.out dueNe hg2
        have hb2 : Below w.heap.size w w2 := HA1.out.grown hg2 HA1.out.size (fun g hg => (HX1.out.lt g hg).1)
        rw [HT.out] at ho2
        have HO2 := Lib.hid ho2
        have HD2 := Lib.hid hd2
        have HB2 := Lib.hid hb2
        clear ho2 hg2 hd2 hb2 HX1 HD1 HA1 HN d0 d1
        go_wp2_with fail
        go_roundw
        case rel => exact ⟨k + 1, by omega, by go_num, HD2, HO2, HB2⟩
        case measure => simp [intOf]; omega
      · have HE := Lib.hid (show l2.take k = l2 from List.take_of_length_le (by rw [HL.out]; omega))
        have hkm : k = m := by omega
        subst hkm
        rw [HE.out] at HX
        obtain ⟨_, A9, c9, he9, _, _, hr9⟩ := HD.out.form (by decide)
        injection he9 with e1 e2 e3
        subst e1 e3
        obtain ⟨_, A2, c2, rfl, _, _, hr2⟩ := HX.out.form (by decide)
        have HR9 := Lib.hid hr9
        have HR2 := Lib.hid hr2
        clear hr9 hr2
        go_wp2_with fail
        go_ret2
        exact ⟨A1, A2, c1, c2, by rw [HL.out]; rfl, HR9.out, HR2.out, HBL.out⟩
  · obtain rfl : m = 60 := by omega
    have h60c : 60 ≤ c := by omega
    obtain ⟨b0, o0, rfl, _⟩ := HR.out.due (k := 0) (by rw [HL.out]; omega)
    clear hmm hmn
    go_enter Try.func9, Try.ntmps9
    go_wp2_with (with_reducible refine wpList_appendS (o := ⟨some 13, _, _, _, _, _⟩) rfl rowDue (.tmp 7) (.tmp 12) rfl w.heap.size _ 0 [] ?g1 HO0.out B (some ⟨b0, o0, none⟩) 60 c l2 ?g2 HR0.out HL.out ?g3 ?g4 ?g5 ?_)
    try (case g1 => rfl)
    try (case g2 => rfl)
    try (case g3 => unfold maxLen; omega)
    try (case g4 => omega)
    try (case g5 => simp)
    intro v1 w1 ho1 hg1 _ _
    try simp only [Nat.zero_add, List.nil_append] at ho1
    have hb1 : Below w.heap.size w w1 := HB0.out.grown hg1 HB0.out.size (fun g hg => (HO0.out.lt g hg).1)
    obtain ⟨_, A1, c1, rfl, hc1, hm1, hr1⟩ := ho1.form (by decide)
    have HO1 := Lib.hid ho1
    have HB1 := Lib.hid hb1
    have HR1 := Lib.hid hr1
    have hcm : c1 ≤ 9223372036854775807 := by unfold maxLen at hm1; omega
    clear ho1 hb1 hg1 hr1 HO0 HB0 HR0 HR hm1
    go_wp2_with fail
    go_loopw [4, 16] (fun x i wr => ∃ k : Nat, k ≤ 60 ∧ i = .int .i64 k ∧ Hid (OwnS dueT 32 wr w.heap.size (.slice A1 60 c1) 60 l2) ∧ Hid (OwnS refT 48 wr w.heap.size x k (l2.take k)) ∧ Hid (Below w.heap.size w wr)) (fun _ i _ => 60 - (intOf i).toNat)
    case atStart => exact ⟨0, Nat.zero_le _, rfl, HO1, Lib.hid (OwnS.nil_ w1 w.heap.size _), HB1⟩
    case round =>
      obtain ⟨k, hk, rfl, HD, HX, HBL⟩ := hrel
      by_cases hlt : k < 60
      · have hkl : k < l2.length := by rw [HL.out]; exact hlt
        obtain ⟨_, A9, c9, he9, _, _, hr9⟩ := HD.out.form (by decide)
        injection he9 with e1 e2 e3
        subst e1 e3
        obtain ⟨b1, o1, rfl, hbl, d0, d1⟩ := hr9.due hkl
        obtain ⟨⟨x0, x1⟩, y0, y1⟩ := HI.out _ (List.getElem_mem hkl)
        obtain ⟨x, hx⟩ : ∃ x, (l2[k]).1 = x := ⟨_, rfl⟩
        obtain ⟨y, hy⟩ : ∃ y, (l2[k]).2 = y := ⟨_, rfl⟩
        rw [hx] at d0 x0 x1
        rw [hy] at d1 y0 y1
        have HT := Lib.hid (show l2.take k ++ [(x, y)] = l2.take (k + 1) from by rw [List.take_succ_eq_append_getElem hkl, ← hx, ← hy])
        have hsz := HBL.out.size
        have HX1 := Lib.hid ((HX.out.alloc (.cells #[.int .i32 x, .int .i64 y] 32)).alloc (.cells #[.int .i64 x, .int .i64 y] 48))
        have HD1 := Lib.hid ((HD.out.alloc (.cells #[.int .i32 x, .int .i64 y] 32)).alloc (.cells #[.int .i64 x, .int .i64 y] 48))
        have HA1 := Lib.hid ((HBL.out.alloc hsz (.cells #[.int .i32 x, .int .i64 y] 32)).alloc (by simp; omega) (.cells #[.int .i64 x, .int .i64 y] 48))
        have HN := Lib.hid (Rs.block (T := refT) (u := (x, y)) (Blk.new (wr.alloc (.cells #[.int .i32 x, .int .i64 y] 32)) 48 #[.int .i64 x, .int .i64 y]))
        rw [show (wr.alloc (.cells #[.int .i32 x, .int .i64 y] 32)).heap.size = wr.heap.size + 1 by simp] at HN
        clear hr9 hx hy HD HX
        go_wp2_with (with_reducible refine wpList_appendS (o := ⟨some 28, _, _, _, _, _⟩) rfl rowRef (.tmp 20) (.tmp 27) rfl w.heap.size _ k (l2.take k) ?q1 HX1.out _ (some ⟨wr.heap.size + 1, 0, none⟩) 1 1 [(x, y)] ?q2 HN.out rfl ?q3 ?q4 ?q5 ?_)
        try (case q1 => rfl)
        try (case q2 => rfl)
        try (case q3 => unfold maxLen; omega)
        try (case q4 => omega)
        try (case q5 => first | omega | (simp; omega))
        intro v2 w2 ho2 hg2 _ _
        have hd2 := HD1.out.past HX1.out dueNe hg2
        have hb2 : Below w.heap.size w w2 := HA1.out.grown hg2 HA1.out.size (fun g hg => (HX1.out.lt g hg).1)
        rw [HT.out] at ho2
        have HO2 := Lib.hid ho2
        have HD2 := Lib.hid hd2
        have HB2 := Lib.hid hb2
        clear ho2 hg2 hd2 hb2 HX1 HD1 HA1 HN d0 d1
        go_wp2_with fail
        go_roundw
        case rel => exact ⟨k + 1, by omega, by go_num, HD2, HO2, HB2⟩
        case measure => simp [intOf]; omega
      · have HE := Lib.hid (show l2.take k = l2 from List.take_of_length_le (by rw [HL.out]; omega))
        have hkm : k = 60 := by omega
        subst hkm
        rw [HE.out] at HX
        obtain ⟨_, A9, c9, he9, _, _, hr9⟩ := HD.out.form (by decide)
        injection he9 with e1 e2 e3
        subst e1 e3
        obtain ⟨_, A2, c2, rfl, _, _, hr2⟩ := HX.out.form (by decide)
        have HR9 := Lib.hid hr9
        have HR2 := Lib.hid hr2
        clear hr9 hr2
        go_wp2_with fail
        go_ret2
        exact ⟨A1, A2, c1, c2, by rw [HL.out]; rfl, HR9.out, HR2.out, HBL.out⟩
end Go.Proofs.Ytelhcjjdhlhfbab
