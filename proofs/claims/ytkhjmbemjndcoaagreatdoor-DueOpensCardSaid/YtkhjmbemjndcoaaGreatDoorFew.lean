/-
  The law's few; Right of any days. Conditions: the days are there.
-/
import Derived.Test.YtkhjmbemjndcoaaGreatDoorRowsD
import Derived.Test.YtkhjmbemjndcoaaGreatDoorDateA
import Derived.LoopTactic
namespace Go.Proofs.YtkhjmbemjndcoaaGreatDoor
open Go.ChangeShapes Go.WideShapes Go.ChangeAt Go.RowKit

theorem apartHN {w : World} {b1 b2 n1 n2 : Nat} {v1 v2 : Value} {l1 l2 : List Int} (h1 : OwnH w b1 v1 n1 l1) (h2 : OwnN w b2 v2 n2 l2) : v2.ownBlock = Option.none ∨ v2.ownBlock ≠ v1.ownBlock := by
  unfold OwnH at h1
  unfold OwnN at h2
  rcases h1.2 with ⟨rfl, _⟩ | ⟨g1, c1, cur1, rfl, _, e1, _⟩
  · rcases h2.2 with ⟨rfl, _⟩ | ⟨g2, c2, cur2, rfl, _, e2, _⟩
    · exact .inl rfl
    · exact .inr (by simp [Value.ownBlock])
  · rcases h2.2 with ⟨rfl, _⟩ | ⟨g2, c2, cur2, rfl, _, e2, _⟩
    · exact .inl rfl
    · refine .inr fun e => ?_
      simp only [Value.ownBlock, Option.some.injEq] at e
      subst e
      rw [e1] at e2
      simp at e2

theorem apartNH {w : World} {b1 b2 n1 n2 : Nat} {v1 v2 : Value} {l1 l2 : List Int} (h1 : OwnH w b1 v1 n1 l1) (h2 : OwnN w b2 v2 n2 l2) : v1.ownBlock = Option.none ∨ v1.ownBlock ≠ v2.ownBlock := by
  rcases apartHN h1 h2 with h | h
  · rw [h]
    cases v1.ownBlock with
    | none => exact .inl rfl
    | some g => exact .inr (by simp)
  · exact .inr (Ne.symm h)

theorem OwnH.alloc {w : World} {b n : Nat} {v : Value} {l : List Int} (h : OwnH w b v n l) (o : Obj) : OwnH (w.alloc o) b v n l := World.ownsRow.alloc h o
theorem OwnN.alloc {w : World} {b n : Nat} {v : Value} {l : List Int} (h : OwnN w b v n l) (o : Obj) : OwnN (w.alloc o) b v n l := World.ownsRow.alloc h o
theorem OwnN.past {w w' : World} {b1 b2 n1 n2 : Nat} {v1 v2 : Value} {l1 l2 : List Int} (h2 : OwnN w b2 v2 n2 l2) (h1 : OwnH w b1 v1 n1 l1) (hg : w.grownBy w' v1.ownBlock) : OwnN w' b2 v2 n2 l2 := World.ownsRow.kept h2 hg (apartHN h1 h2)
theorem OwnH.past {w w' : World} {b1 b2 n1 n2 : Nat} {v1 v2 : Value} {l1 l2 : List Int} (h1 : OwnH w b1 v1 n1 l1) (h2 : OwnN w b2 v2 n2 l2) (hg : w.grownBy w' v2.ownBlock) : OwnH w' b1 v1 n1 l1 := World.ownsRow.kept h1 hg (apartNH h1 h2)

def FewPost (w : World) (l : List Int) (e : Ending) (w' : World) : Prop :=
  ∃ (A1 A2 : Option Addr) (c1 c2 : Nat), e = .returned (.tuple #[.slice A1 l.length c1, .slice A2 l.length c2]) ∧ l.length ≤ c1 ∧ l.length ≤ c2 ∧ c1 ≤ maxLen ∧ c2 ≤ maxLen ∧ Rv w' w'.heap.size A1 (l.map encH) ∧ Rv w' w'.heap.size A2 (l.map encN) ∧ Below w.heap.size w w'

theorem rv_oneH (w : World) (u : Int) : Rv (w.alloc (.cells #[.int .i32 u] 23)) (w.heap.size + 1) (some ⟨w.heap.size, 0, none⟩) ([u].map encH) := fun _ =>
  ⟨w.heap.size, 0, rfl, by omega, fun j x hx => by
    rcases j with _ | j
    · simp only [List.map_cons, List.map_nil, List.getElem?_cons_zero, Option.some.injEq] at hx
      subst hx
      simp [go_sem, encH]
    · simp at hx⟩
theorem rv_oneN (w : World) (u : Int) : Rv (w.alloc (.cells #[.int .i64 u] 3)) (w.heap.size + 1) (some ⟨w.heap.size, 0, none⟩) ([u].map encN) := fun _ =>
  ⟨w.heap.size, 0, rfl, by omega, fun j x hx => by
    rcases j with _ | j
    · simp only [List.map_cons, List.map_nil, List.getElem?_cons_zero, Option.some.injEq] at hx
      subst hx
      simp [go_sem, encN]
    · simp at hx⟩

set_option maxRecDepth 20000 in
set_option maxHeartbeats 1000000 in
theorem Few_any (A : Option Addr) (n c B : Nat) (l : List Int) (w : World) (hR : Rv w B A (l.map encL)) (hn : l.length = n) (hm : n ≤ 140737488355328) (hB : B ≤ w.heap.size) (hw : ∀ u ∈ l, -2147483648 ≤ u ∧ u ≤ 2147483647) :
    Calls Tryz.prog 7 #[.slice A n c] w (FewPost w (l.take 60)) := by
  subst hn
  have HR := Lib.hid hR
  have HWf := Lib.hid hw
  clear hR hw
  go_enter Tryz.func7, Tryz.ntmps7
  go_wp2_with fail
  go_loopw [4, 5, 10] (fun v x i wr => ∃ k : Nat, k ≤ l.length ∧ i = .int .i64 k ∧ Hid (OwnH wr w.heap.size v (min k 60) (l.take (min k 60))) ∧ Hid (OwnN wr w.heap.size x (min k 60) (l.take (min k 60))) ∧ Hid (Below w.heap.size w wr)) (fun _ _ i _ => l.length - (intOf i).toNat)
  case atStart => exact ⟨0, Nat.zero_le _, rfl, Lib.hid (World.ownsRow_nil w w.heap.size 23 1), Lib.hid (World.ownsRow_nil w w.heap.size 3 1), Lib.hid (Below.refl _ _)⟩
  case round =>
    obtain ⟨k, hk, rfl, HH, HN, HBL⟩ := hrel
    by_cases hlt : k < l.length
    · have hRl : k < (l.map encL).length := by rw [List.length_map]; exact hlt
      obtain ⟨b, o, rfl, hb, hc0⟩ := HR.out.at_ hRl
      have hc := (HBL.out.cell (p := ⟨b, o + k, none⟩) (by exact Nat.lt_of_lt_of_le hb hB)).trans hc0
      rw [List.getElem_map] at hc
      have hwf := HWf.out l[k] (List.getElem_mem hlt)
      obtain ⟨u, hu⟩ : ∃ u, l[k] = u := ⟨_, rfl⟩
      rw [hu] at hc hwf
      simp only [encL] at hc
      obtain ⟨u0, u1⟩ := hwf
      have HU := Lib.hid hu
      clear hc0 hu
      by_cases hmk : k < 60
      · rw [Nat.min_eq_left (by omega : k ≤ 60)] at HH HN
        have hsz := HBL.out.size
        have HO := Lib.hid (HH.out.alloc (.cells #[.int .i32 u] 23))
        have HNA := Lib.hid (HN.out.alloc (.cells #[.int .i32 u] 23))
        have HR1 := Lib.hid (rv_oneH wr u)
        have HT := Lib.hid (show l.take k ++ [u] = l.take (min (k + 1) 60) from by rw [Nat.min_eq_left (by omega), List.take_succ_eq_append_getElem hlt, HU.out])
        have HAL := Lib.hid (HBL.out.alloc hsz (.cells #[.int .i32 u] 23))
        clear HH HN HU
        go_wp2_with (with_reducible refine wpList_appendH (o := ⟨some 20, _, _, _, _, _⟩) rfl (.tmp 17) (.tmp 19) rfl w.heap.size _ k (l.take k) ?h1 HO.out (wr.heap.size + 1) (some ⟨wr.heap.size, 0, none⟩) 1 1 [u] ?h2 HR1.out rfl ?h3 ?h4 ?_)
        try (case h1 => rfl)
        try (case h2 => rfl)
        case h3 => omega
        case h4 => simp; omega
        intro v1 w1 hown1 hg1
        have hN1 := HNA.out.past HO.out hg1
        have hb1 : Below w.heap.size w w1 := HAL.out.grown hg1 HAL.out.size (fun g hg => (World.ownsRow.lt HO.out g hg).1)
        have hz1 : w.heap.size ≤ w1.heap.size := hb1.size
        have HO1 := Lib.hid (hown1.alloc (.cells #[.int .i64 u] 3))
        have HN1 := Lib.hid (hN1.alloc (.cells #[.int .i64 u] 3))
        have HAL1 := Lib.hid (hb1.alloc hz1 (.cells #[.int .i64 u] 3))
        have HR2 := Lib.hid (rv_oneN w1 u)
        clear hown1 hg1 hN1 hb1 HO HNA HR1 HAL
        go_wp2_with (with_reducible refine wpList_appendN (o := ⟨some 25, _, _, _, _, _⟩) rfl (.tmp 21) (.tmp 24) rfl w.heap.size _ k (l.take k) ?h1 HN1.out (w1.heap.size + 1) (some ⟨w1.heap.size, 0, none⟩) 1 1 [u] ?h2 HR2.out rfl ?h3 ?h4 ?_)
        try (case h1 => rfl)
        try (case h2 => rfl)
        case h3 => omega
        case h4 => simp; omega
        intro v2 w2 hown2 hg2
        have hH2 := HO1.out.past HN1.out hg2
        have hb2 : Below w.heap.size w w2 := HAL1.out.grown hg2 HAL1.out.size (fun g hg => (World.ownsRow.lt HN1.out g hg).1)
        have HO2 := Lib.hid hH2
        have HN2 := Lib.hid hown2
        have HB2 := Lib.hid hb2
        clear hown2 hg2 hH2 hb2 HO1 HN1 HAL1 HR2
        go_wp2_with fail
        go_roundw
        case rel => exact ⟨k + 1, by omega, by go_num, Lib.hid (by have h := HO2.out; rw [← HT.out, Nat.min_eq_left (by omega)]; exact h), Lib.hid (by have h := HN2.out; rw [← HT.out, Nat.min_eq_left (by omega)]; exact h), HB2⟩
        case measure => simp [intOf]; omega
      · have e1 : min k 60 = 60 := Nat.min_eq_right (by omega)
        have e2 : min (k + 1) 60 = 60 := Nat.min_eq_right (by omega)
        have HE := Lib.hid (e2.trans e1.symm)
        clear e1 e2
        go_wp2_with fail
        go_roundw
        case rel => exact ⟨k + 1, by omega, by go_num, Lib.hid (by rw [HE.out]; exact HH.out), Lib.hid (by rw [HE.out]; exact HN.out), HBL⟩
        case measure => simp [intOf]; omega
    · have e : l.take (min k 60) = l.take 60 := by
        obtain rfl : k = l.length := by omega
        rcases Nat.le_total l.length 60 with h1 | h1
        · rw [Nat.min_eq_left h1, List.take_of_length_le (Nat.le_refl _), List.take_of_length_le h1]
        · rw [Nat.min_eq_right h1]
      rw [e] at HH HN
      clear e
      go_wp2_with fail
      go_ret2
      have h1 := HH.out
      have h2 := HN.out
      obtain ⟨hl1, A1, c1, hv1, hc1, hm1, hr1⟩ := own_formH h1
      obtain ⟨hl2, A2, c2, hv2, hc2, hm2, hr2⟩ := own_formN h2
      rw [← hl1] at hv1 hc1
      rw [← hl2] at hv2 hc2
      exact ⟨A1, A2, c1, c2, by rw [hv1, hv2]; rfl, hc1, hc2, hm1, hm2, hr1, hr2, HBL.out⟩
end Go.Proofs.YtkhjmbemjndcoaaGreatDoor
