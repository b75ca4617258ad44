/-
The document's Rows. Conditions: the numbers' kinds.
-/
import Derived.Test.YtjcnglkjjhnpbaaGreatDoorLvlP
import Derived.Laws.AppendOwnNone
import Derived.Deep.Slices
import Derived.LoopTactic
namespace Go.Proofs.YtjcnglkjjhnpbaaGreatDoor
open Go.RowKit

/-- Rows of the document's: three cells each. -/
def cell3 (r : Int × Int × Int) : List Value := [.int .i64 r.1, .int .i64 r.2.1, .int .i64 r.2.2]
def flatW (l : List (Int × Int × Int)) : List Value := l.flatMap cell3
theorem flatW_len (l : List (Int × Int × Int)) : (flatW l).length = l.length * 3 := by
  induction l with
  | nil => rfl
  | cons v l ih =>
    unfold flatW at ih ⊢
    simp only [List.flatMap_cons, List.length_append, List.length_cons, ih]
    simp [cell3]
    omega
theorem flatW_at (l : List (Int × Int × Int)) : ∀ (j : Nat) v, l[j]? = some v → (flatW l)[j * 3]? = some (.int .i64 v.1) ∧ (flatW l)[j * 3 + 1]? = some (.int .i64 v.2.1) ∧ (flatW l)[j * 3 + 2]? = some (.int .i64 v.2.2) := by
  induction l with
  | nil => intro j v hv; simp at hv
  | cons a l ih =>
    intro j v hv
    have hc : flatW (a :: l) = cell3 a ++ flatW l := by simp [flatW]
    have h3 : (cell3 a).length = 3 := rfl
    cases j with
    | zero =>
      simp only [List.getElem?_cons_zero, Option.some.injEq] at hv
      subst hv
      rw [hc]
      exact ⟨rfl, rfl, rfl⟩
    | succ j =>
      simp only [List.getElem?_cons_succ] at hv
      obtain ⟨e0, e1, e2⟩ := ih j v hv
      rw [hc]
      refine ⟨?_, ?_, ?_⟩
      · rw [List.getElem?_append_right (by rw [h3]; omega), h3, show (j + 1) * 3 - 3 = j * 3 by omega]; exact e0
      · rw [List.getElem?_append_right (by rw [h3]; omega), h3, show (j + 1) * 3 + 1 - 3 = j * 3 + 1 by omega]; exact e1
      · rw [List.getElem?_append_right (by rw [h3]; omega), h3, show (j + 1) * 3 + 2 - 3 = j * 3 + 2 by omega]; exact e2
theorem flatW_one (l : List (Int × Int × Int)) : ∀ u ∈ flatW l, u.oneCell' = true := by
  intro u hu
  simp only [flatW, List.mem_flatMap] at hu
  obtain ⟨v, _, hu⟩ := hu
  simp only [cell3, List.mem_cons, List.not_mem_nil, or_false] at hu
  rcases hu with rfl | rfl | rfl <;> rfl
theorem infoW : (Tryz.prog.info? 92).map (fun i => (i.zero, i.size, i.bytes)) = some (some (.agg #[.int .i64 0, .int .i64 0, .int .i64 0]), 3, 24) := by kernel_rfl
def OwnW (w : World) (base : Nat) (v : Value) (n : Nat) (l : List (Int × Int × Int)) : Prop := w.ownsRow base 92 3 v n (flatW l)
theorem OwnW.alloc {w : World} {b n : Nat} {v : Value} {l : List (Int × Int × Int)} (h : OwnW w b v n l) (o : Obj) : OwnW (w.alloc o) b v n l := World.ownsRow.alloc h o
theorem OwnW.below {w w' : World} {b n : Nat} {v : Value} {l : List (Int × Int × Int)} (h : OwnW w b v n l) (hb : Below w.heap.size w w') : OwnW w' b v n l := by
  refine ⟨h.1, ?_⟩
  rcases h.2 with h | ⟨g, cap, cur, h1, h2, h3, h4⟩
  · exact Or.inl h
  · exact Or.inr ⟨g, cap, cur, h1, h2, (hb.block g (Array.getElem?_eq_some_iff.1 h3).1).trans h3, h4⟩
theorem wpList_appendW {w : World} {ops : Array Oper} {rest : List Oper} {o : Oper} {a : Act} {Q : Exit → Act → World → Prop} (hgd : o.guard = Option.none) (s x : Operand)
    (ho : o.op = .call { callee := .builtin .append, args := #[s, x], argTypes := #[85, 85] })
    (base : Nat) (v : Value) (n : Nat) (l : List (Int × Int × Int)) (hs : a.eval s = v) (hown : OwnW w base v n l)
    (b : Nat) (u : Int × Int × Int) (hx : a.eval x = .slice (some ⟨b, 0, none⟩) 1 1) (hR : ∀ (i : Nat) y, (cell3 u)[i]? = some y → w.cell? ⟨b, i, none⟩ = some y) (hsz : n ≤ 1000) (hbase : base ≤ w.heap.size)
    (h : ∀ v' w', OwnW w' base v' (n + 1) (l ++ [u]) → w.grownBy w' v.ownBlock → wpList Tryz.prog ops Q rest (a.put o.dst v') w') : wpList Tryz.prog ops Q (o :: rest) a w := by
  refine wpList_plain hgd fun _ hK => ?_
  obtain ⟨i0, hi, hz0, hz1, hz2⟩ := info_parts infoW
  obtain ⟨v', w', hr, h2, h3, _⟩ := run_append_own (P := Tryz.prog) w base 85 o.type 92 i0 (.agg #[.int .i64 0, .int .i64 0, .int .i64 0]) 3 24 Tryz.underlying85 hi hz0 hz1 hz2 rfl (by decide) v n (flatW l) hown
      ⟨b, 0, none⟩ 1 1 (cell3 u) rfl (fun j y hy => by simpa [go_sem] using hR j y hy) (fun y hy => flatW_one [u] y (by simpa [flatW] using hy)) (by unfold maxLen; omega) (by omega) hbase
  unfold Oper.wp execOp
  simp only [ho, resolve, invoke, builtin, Sem.run_bind, Sem.run_pure, Result.andThen_ok, List.map_toArray, List.map_cons, List.map_nil, hs, hx, hr]
  refine hK _ _ (h v' w' ?_ h3)
  unfold OwnW
  rw [show flatW (l ++ [u]) = flatW l ++ cell3 u by simp [flatW]]
  exact h2
/-- A slice that reads as these rows. -/
def Rws3 (w : World) (A : Option Addr) (n : Nat) (F : Nat → Int × Int × Int) : Prop := ∃ b, A = some ⟨b, 0, none⟩ ∧ b < w.heap.size ∧ ∀ k, k < n → w.cell? ⟨b, k * 3, none⟩ = some (.int .i64 (F k).1) ∧ w.cell? ⟨b, k * 3 + 1, none⟩ = some (.int .i64 (F k).2.1) ∧ w.cell? ⟨b, k * 3 + 2, none⟩ = some (.int .i64 (F k).2.2)
theorem own_formW {w : World} {base : Nat} {v : Value} {n : Nat} {F : Nat → Int × Int × Int} (h : OwnW w base v n ((List.range n).map F)) (hn : 0 < n) : ∃ g c, v = .slice (some ⟨g, 0, none⟩) n c ∧ base ≤ g ∧ n ≤ c ∧ c ≤ maxLen ∧ Rws3 w (some ⟨g, 0, none⟩) n F := by
  unfold OwnW at h
  rcases h.2 with ⟨rfl, rfl⟩ | ⟨g, cap, cur, rfl, hbg, hg, hnc, hcm, _⟩
  · omega
  · refine ⟨g, cap, rfl, hbg, hnc, hcm, g, rfl, (Array.getElem?_eq_some_iff.1 hg).1, fun k hk => ?_⟩
    obtain ⟨e0, e1, e2⟩ := flatW_at ((List.range n).map F) k (F k) (by simp [hk])
    have c0 := World.ownsRow.cells h (g := g) rfl (k * 3) _ e0
    have c1 := World.ownsRow.cells h (g := g) rfl (k * 3 + 1) _ e1
    have c2 := World.ownsRow.cells h (g := g) rfl (k * 3 + 2) _ e2
    exact ⟨by simpa [go_sem] using c0, by simpa [go_sem] using c1, by simpa [go_sem] using c2⟩
/-- The payment that counts. -/
def effN (only : Bool) (m y : Nat) : Nat := if only then m else y
set_option maxRecDepth 20000 in
set_option maxHeartbeats 4000000 in
theorem RRows_any {P p n y : Nat} (th only : Bool) (hP : P ≤ 1000000000000) (hp : p ≤ 1000000) (hn : n ≤ 480) (hn0 : 1 ≤ n) (hy : mi p P ≤ y) (hyb : y ≤ 2000000000000) (w : World) :
    Calls Tryz.prog 38 #[.bool only, .int .i64 (P : Int), rr p th, .int .i64 (n : Int), .int .i64 (y : Int)] w fun e w' =>
      ∃ g c, e = .returned (.slice (some ⟨g, 0, none⟩) n c) ∧ n ≤ c ∧ c ≤ maxLen ∧ Below w.heap.size w w' ∧ Rws3 w' (some ⟨g, 0, none⟩) n (rowF p (effN only (mi p P) y) P n) := by
  have hM : ∀ (Q : Nat), Q ≤ 1000000000000 → ∀ W, Calls Tryz.prog 80 #[rr p th, .int .i64 (Q : Int)] W (Ret (.int .i64 ((mi p Q : Nat) : Int)) W) := fun Q hQ W => RMonth_any th hQ hp W
  have HM := Lib.hid hM
  have HPP := Lib.hid hp
  have HY := Lib.hid hy
  have HP := Lib.hid hP
  have HN0 := Lib.hid hn0
  obtain ⟨z, HZ⟩ : ∃ z, Hid (effN only (mi p P) y = z) := ⟨_, Lib.hid rfl⟩
  have HMZ : Hid (mi p P ≤ z) := Lib.hid (by rw [← HZ.out]; unfold effN; split; exact Nat.le_refl _; exact hy)
  have HO1 : Hid (only = true → mi p P = z) := Lib.hid (fun h => by rw [← HZ.out]; unfold effN; rw [if_pos h])
  have HO2 : Hid (only = false → y = z) := Lib.hid (fun h => by rw [← HZ.out]; unfold effN; rw [h]; rfl)
  rw [HZ.out]
  obtain ⟨F, HF⟩ : ∃ F, Hid (rowF p z P n = F) := ⟨_, Lib.hid rfl⟩
  rw [HF.out]
  unfold rr at HM ⊢
  clear hM hp hy hP hn0
  go_enter Tryz.func38, Tryz.ntmps38
  have HQ0 := Lib.hid (Blk.new w 88 #[.int .u32 (p : Int), .bool th])
  have HB0 := Lib.hid (b_alloc w (.cells #[.int .u32 (p : Int), .bool th] 88))
  have HS0 : Hid ((w.alloc (.cells #[.int .u32 (p : Int), .bool th] 88)).heap.size = w.heap.size + 1) := Lib.hid (by simp)
  go_wp2_with fail
  go_loopw [1, 11, 12] (fun x v i wr => ∃ (k K L : Nat), k ≤ n ∧ Hid (K = k + 1) ∧ i = .int .i64 K ∧ x = .int .i64 L ∧ L ≤ 1000000000000 ∧ Hid (k < n → L = mit p z k P) ∧ Hid (OwnW wr (w.heap.size + 1) v k ((List.range k).map F)) ∧ Hid (Below (w.heap.size + 1) (w.alloc (.cells #[.int .u32 (p : Int), .bool th] 88)) wr)) (fun _ _ i _ => n + 1 - (intOf i).toNat)
  case atStart => exact ⟨0, 1, P, Nat.zero_le _, Lib.hid rfl, rfl, rfl, HP.out, Lib.hid (fun _ => rfl), Lib.hid ⟨rfl, Or.inl ⟨rfl, rfl⟩⟩, Lib.hid (Below.refl _ _)⟩
  case round =>
    obtain ⟨k, K, L, hk, HK, rfl, rfl, hLb, HL, HW, HBW⟩ := hrel
    have HK0 := Lib.hid (HQ0.out.below HBW.out (by simp))
    have c0 := HK0.out.cell 0
    have c1 := HK0.out.cell 1
    have z0 := HK0.out.lt
    simp at c0 c1
    by_cases hlt : k < n
    · have hKn : (K : Int) ≤ (n : Int) := by have := HK.out; omega
      have hL := HL.out hlt
      have hLP : L ≤ P := by rw [hL]; exact mit_le HMZ.out k P (Nat.le_refl _)
      have hMQ := fun W => HM.out L hLb W
      have hmb := mi_bd hLb HPP.out
      have hmz : mi p L ≤ z := Nat.le_trans (mi_mono hLP) HMZ.out
      have hf : F k = (((mi p L : Nat) : Int), if k + 1 = n then (L : Int) else (L : Int) - (mst p z L : Nat), if k + 1 = n then 0 else ((mst p z L : Nat) : Int)) := by
        rw [← HF.out]
        unfold rowF
        rw [mit_succ, ← hL]
      have hnx : mit p z (k + 1) P = mst p z L := by rw [mit_succ, ← hL]
      have honly : only = true → L = P ∧ z = mi p P := fun h => by
        have h1 := HO1.out h
        refine ⟨?_, h1.symm⟩
        rw [hL, ← h1]
        exact mit_only p P k
      have hyz := HO2.out
      obtain ⟨m, hm⟩ : ∃ m, mi p L = m := ⟨_, rfl⟩
      have hst : mst p z L = L + m - z := by unfold mst; rw [hm]
      rw [hm] at hMQ hmb hmz hf
      rw [hst] at hf hnx
      have hom : only = true → z = m := fun h => by
        obtain ⟨e1, e2⟩ := honly h
        rw [e2, ← e1, hm]
      obtain ⟨d, hd⟩ : ∃ d, (y : Int) - (m : Int) = d := ⟨_, rfl⟩
      have hd1 : -1000000000000 ≤ d := by omega
      have hd2 : d ≤ 2000000000000 := by omega
      obtain ⟨o, ho⟩ : ∃ o : Int, (if k + 1 = n then (L : Int) else (L : Int) - ((L + m - z : Nat) : Int)) = o := ⟨_, rfl⟩
      obtain ⟨q, hq⟩ : ∃ q : Nat, (if k + 1 = n then 0 else L + m - z) = q := ⟨_, rfl⟩
      have hqi : (if k + 1 = n then (0 : Int) else ((L + m - z : Nat) : Int)) = (q : Int) := by rw [← hq]; split <;> rfl
      rw [ho, hqi] at hf
      have hlo : (L : Int) - o = (q : Int) := by rw [← ho, ← hq]; split <;> omega
      have hqb : q ≤ 1000000000000 := by rw [← hq]; split <;> omega
      have hqn : Hid (k + 1 < n → q = mit p z (k + 1) P) := Lib.hid (fun h => by rw [hnx, ← hq, if_neg (by omega)])
      have HFk := Lib.hid hf
      have HRA : Hid ((List.range (k + 1)).map F = (List.range k).map F ++ [((m : Int), o, (q : Int))]) := Lib.hid (by rw [List.range_succ, List.map_append, ← hf]; rfl)
      by_cases hkn : k + 1 = n
      · have jk : ((K : Int) == (n : Int)) = true := by have := HK.out; rw [beq_iff_eq]; omega
        rw [if_pos hkn] at ho
        subst ho
        clear hf hL hLP hnx honly hyz hst hom hmz hq hqi hmb hm hkn
        cases only
        · obtain rfl : q = 0 := by omega
          clear hlo
          have HRA2 : Hid ((List.range (k + 1)).map F = (List.range k).map F ++ [((m : Int), (L : Int), 0)]) := Lib.hid HRA.out
          clear HRA
          go_wp2_with fail
          refine (hMQ _).mono ?_
          rintro e w2 ⟨rfl, hb2⟩
          have HOW : Hid (OwnW ((w2.alloc (.cells #[.int .i64 (m : Int), .int .i64 (L : Int), .int .i64 0] 92)).alloc (.cells #[.int .i64 (m : Int), .int .i64 (L : Int), .int .i64 0] 92)) (w.heap.size + 1) _ k ((List.range k).map F)) := Lib.hid (((HW.out.below hb2).alloc _).alloc _)
          have HB2 := Lib.hid (((HBW.out.trans (hb2.mono (by have := HBW.out.size; simp at this; omega))).alloc (by have := HBW.out.size; have := hb2.size; simp at *; omega) (.cells #[.int .i64 (m : Int), .int .i64 (L : Int), .int .i64 0] 92)).alloc (by have := HBW.out.size; have := hb2.size; simp at *; omega) (.cells #[.int .i64 (m : Int), .int .i64 (L : Int), .int .i64 0] 92))
          have HCe : Hid (∀ (i : Nat) y, (cell3 ((m : Int), (L : Int), 0))[i]? = some y → ((w2.alloc (.cells #[.int .i64 (m : Int), .int .i64 (L : Int), .int .i64 0] 92)).alloc (.cells #[.int .i64 (m : Int), .int .i64 (L : Int), .int .i64 0] 92)).cell? ⟨w2.heap.size + 1, i, none⟩ = some y) := Lib.hid (fun i y hy => by
            have h := Blk.new (w2.alloc (.cells #[.int .i64 (m : Int), .int .i64 (L : Int), .int .i64 0] 92)) 92 #[.int .i64 (m : Int), .int .i64 (L : Int), .int .i64 0]
            rw [show (w2.alloc (.cells #[.int .i64 (m : Int), .int .i64 (L : Int), .int .i64 0] 92)).heap.size = w2.heap.size + 1 by simp] at h
            rw [h.cell]
            simpa [cell3] using hy)
          have HOL := Lib.hid (HW.out.below hb2)
          have HSZ : Hid (w.heap.size + 1 ≤ w2.heap.size) := Lib.hid (by have := HBW.out.size; have := hb2.size; simp at *; omega)
          clear hb2
          go_wp2_with (with_reducible refine wpList_appendW (o := ⟨some 47, _, _, _, _, _⟩) rfl (.tmp 44) (.tmp 46) rfl (w.heap.size + 1) _ k ((List.range k).map F) ?g1 HOW.out (w2.heap.size + 1) ((m : Int), (L : Int), 0) ?g2 HCe.out ?g3 ?g4 ?_)
          case g1 => rfl
          case g2 => rfl
          case g3 => omega
          case g4 => have := HSZ.out; simp; omega
          intro v' w3 hown' hg
          have HO3 : Hid (OwnW w3 (w.heap.size + 1) v' (k + 1) ((List.range (k + 1)).map F)) := Lib.hid (by rw [HRA2.out]; exact hown')
          have HB3 : Hid (Below (w.heap.size + 1) (w.alloc (.cells #[.int .u32 (p : Int), .bool th] 88)) w3) := Lib.hid (HB2.out.grown hg (by have := HSZ.out; simp; omega) (fun q hq => (World.ownsRow.lt HOW.out q hq).1))
          have HR3 : Hid (w3.cell? ⟨w2.heap.size, 2, none⟩ = some (.int .i64 0)) := Lib.hid (by
            have h1 := ((Blk.new w2 92 #[.int .i64 (m : Int), .int .i64 (L : Int), .int .i64 0]).alloc (.cells #[.int .i64 (m : Int), .int .i64 (L : Int), .int .i64 0] 92))
            have h2 := Blk.grown h1 hg (fun e => by have := (World.ownsRow.lt HOL.out _ e.symm).2; omega)
            rw [h2.cell]; rfl)
          clear hown' hg HOW HCe HB2
          have r3 := HR3.out
          go_wp2_with fail
          go_roundw
          case rel => exact ⟨k + 1, K + 1, 0, by omega, Lib.hid (by rw [HK.out]), by go_num, rfl, hqb, hqn, HO3, HB3⟩
          case measure => have := HK.out; simp [intOf]; omega
        · obtain rfl : q = 0 := by omega
          clear hlo
          have HRA2 : Hid ((List.range (k + 1)).map F = (List.range k).map F ++ [((m : Int), (L : Int), 0)]) := Lib.hid HRA.out
          clear HRA
          go_wp2_with fail
          refine (hMQ _).mono ?_
          rintro e w2 ⟨rfl, hb2⟩
          have HOW : Hid (OwnW ((w2.alloc (.cells #[.int .i64 (m : Int), .int .i64 (L : Int), .int .i64 0] 92)).alloc (.cells #[.int .i64 (m : Int), .int .i64 (L : Int), .int .i64 0] 92)) (w.heap.size + 1) _ k ((List.range k).map F)) := Lib.hid (((HW.out.below hb2).alloc _).alloc _)
          have HB2 := Lib.hid (((HBW.out.trans (hb2.mono (by have := HBW.out.size; simp at this; omega))).alloc (by have := HBW.out.size; have := hb2.size; simp at *; omega) (.cells #[.int .i64 (m : Int), .int .i64 (L : Int), .int .i64 0] 92)).alloc (by have := HBW.out.size; have := hb2.size; simp at *; omega) (.cells #[.int .i64 (m : Int), .int .i64 (L : Int), .int .i64 0] 92))
          have HCe : Hid (∀ (i : Nat) y, (cell3 ((m : Int), (L : Int), 0))[i]? = some y → ((w2.alloc (.cells #[.int .i64 (m : Int), .int .i64 (L : Int), .int .i64 0] 92)).alloc (.cells #[.int .i64 (m : Int), .int .i64 (L : Int), .int .i64 0] 92)).cell? ⟨w2.heap.size + 1, i, none⟩ = some y) := Lib.hid (fun i y hy => by
            have h := Blk.new (w2.alloc (.cells #[.int .i64 (m : Int), .int .i64 (L : Int), .int .i64 0] 92)) 92 #[.int .i64 (m : Int), .int .i64 (L : Int), .int .i64 0]
            rw [show (w2.alloc (.cells #[.int .i64 (m : Int), .int .i64 (L : Int), .int .i64 0] 92)).heap.size = w2.heap.size + 1 by simp] at h
            rw [h.cell]
            simpa [cell3] using hy)
          have HOL := Lib.hid (HW.out.below hb2)
          have HSZ : Hid (w.heap.size + 1 ≤ w2.heap.size) := Lib.hid (by have := HBW.out.size; have := hb2.size; simp at *; omega)
          clear hb2
          go_wp2_with (with_reducible refine wpList_appendW (o := ⟨some 47, _, _, _, _, _⟩) rfl (.tmp 44) (.tmp 46) rfl (w.heap.size + 1) _ k ((List.range k).map F) ?g1 HOW.out (w2.heap.size + 1) ((m : Int), (L : Int), 0) ?g2 HCe.out ?g3 ?g4 ?_)
          case g1 => rfl
          case g2 => rfl
          case g3 => omega
          case g4 => have := HSZ.out; simp; omega
          intro v' w3 hown' hg
          have HO3 : Hid (OwnW w3 (w.heap.size + 1) v' (k + 1) ((List.range (k + 1)).map F)) := Lib.hid (by rw [HRA2.out]; exact hown')
          have HB3 : Hid (Below (w.heap.size + 1) (w.alloc (.cells #[.int .u32 (p : Int), .bool th] 88)) w3) := Lib.hid (HB2.out.grown hg (by have := HSZ.out; simp; omega) (fun q hq => (World.ownsRow.lt HOW.out q hq).1))
          have HR3 : Hid (w3.cell? ⟨w2.heap.size, 2, none⟩ = some (.int .i64 0)) := Lib.hid (by
            have h1 := ((Blk.new w2 92 #[.int .i64 (m : Int), .int .i64 (L : Int), .int .i64 0]).alloc (.cells #[.int .i64 (m : Int), .int .i64 (L : Int), .int .i64 0] 92))
            have h2 := Blk.grown h1 hg (fun e => by have := (World.ownsRow.lt HOL.out _ e.symm).2; omega)
            rw [h2.cell]; rfl)
          clear hown' hg HOW HCe HB2
          have r3 := HR3.out
          go_wp2_with fail
          go_roundw
          case rel => exact ⟨k + 1, K + 1, 0, by omega, Lib.hid (by rw [HK.out]), by go_num, rfl, hqb, hqn, HO3, HB3⟩
          case measure => have := HK.out; simp [intOf]; omega
      · have jk : ((K : Int) == (n : Int)) = false := by have := HK.out; rw [beq_eq_false_iff_ne]; omega
        rw [if_neg hkn] at ho
        cases only
        · replace hyz := hyz rfl
          by_cases hdl : (L : Int) < d
          · obtain rfl : o = (L : Int) := by omega
            clear hf hL hLP hnx honly hyz hst hom hmz hq hqi hmb hm hkn ho
            obtain rfl : q = 0 := by omega
            clear hlo
            have HRA2 : Hid ((List.range (k + 1)).map F = (List.range k).map F ++ [((m : Int), (L : Int), 0)]) := Lib.hid HRA.out
            clear HRA
            go_wp2_with fail
            refine (hMQ _).mono ?_
            rintro e w2 ⟨rfl, hb2⟩
            have HOW : Hid (OwnW ((w2.alloc (.cells #[.int .i64 (m : Int), .int .i64 (L : Int), .int .i64 0] 92)).alloc (.cells #[.int .i64 (m : Int), .int .i64 (L : Int), .int .i64 0] 92)) (w.heap.size + 1) _ k ((List.range k).map F)) := Lib.hid (((HW.out.below hb2).alloc _).alloc _)
            have HB2 := Lib.hid (((HBW.out.trans (hb2.mono (by have := HBW.out.size; simp at this; omega))).alloc (by have := HBW.out.size; have := hb2.size; simp at *; omega) (.cells #[.int .i64 (m : Int), .int .i64 (L : Int), .int .i64 0] 92)).alloc (by have := HBW.out.size; have := hb2.size; simp at *; omega) (.cells #[.int .i64 (m : Int), .int .i64 (L : Int), .int .i64 0] 92))
            have HCe : Hid (∀ (i : Nat) y, (cell3 ((m : Int), (L : Int), 0))[i]? = some y → ((w2.alloc (.cells #[.int .i64 (m : Int), .int .i64 (L : Int), .int .i64 0] 92)).alloc (.cells #[.int .i64 (m : Int), .int .i64 (L : Int), .int .i64 0] 92)).cell? ⟨w2.heap.size + 1, i, none⟩ = some y) := Lib.hid (fun i y hy => by
              have h := Blk.new (w2.alloc (.cells #[.int .i64 (m : Int), .int .i64 (L : Int), .int .i64 0] 92)) 92 #[.int .i64 (m : Int), .int .i64 (L : Int), .int .i64 0]
              rw [show (w2.alloc (.cells #[.int .i64 (m : Int), .int .i64 (L : Int), .int .i64 0] 92)).heap.size = w2.heap.size + 1 by simp] at h
              rw [h.cell]
              simpa [cell3] using hy)
            have HOL := Lib.hid (HW.out.below hb2)
            have HSZ : Hid (w.heap.size + 1 ≤ w2.heap.size) := Lib.hid (by have := HBW.out.size; have := hb2.size; simp at *; omega)
            clear hb2
            go_wp2_with (with_reducible refine wpList_appendW (o := ⟨some 47, _, _, _, _, _⟩) rfl (.tmp 44) (.tmp 46) rfl (w.heap.size + 1) _ k ((List.range k).map F) ?g1 HOW.out (w2.heap.size + 1) ((m : Int), (L : Int), 0) ?g2 HCe.out ?g3 ?g4 ?_)
            case g1 => rfl
            case g2 => rfl
            case g3 => omega
            case g4 => have := HSZ.out; simp; omega
            intro v' w3 hown' hg
            have HO3 : Hid (OwnW w3 (w.heap.size + 1) v' (k + 1) ((List.range (k + 1)).map F)) := Lib.hid (by rw [HRA2.out]; exact hown')
            have HB3 : Hid (Below (w.heap.size + 1) (w.alloc (.cells #[.int .u32 (p : Int), .bool th] 88)) w3) := Lib.hid (HB2.out.grown hg (by have := HSZ.out; simp; omega) (fun q hq => (World.ownsRow.lt HOW.out q hq).1))
            have HR3 : Hid (w3.cell? ⟨w2.heap.size, 2, none⟩ = some (.int .i64 0)) := Lib.hid (by
              have h1 := ((Blk.new w2 92 #[.int .i64 (m : Int), .int .i64 (L : Int), .int .i64 0]).alloc (.cells #[.int .i64 (m : Int), .int .i64 (L : Int), .int .i64 0] 92))
              have h2 := Blk.grown h1 hg (fun e => by have := (World.ownsRow.lt HOL.out _ e.symm).2; omega)
              rw [h2.cell]; rfl)
            clear hown' hg HOW HCe HB2
            have r3 := HR3.out
            go_wp2_with fail
            go_roundw
            case rel => exact ⟨k + 1, K + 1, 0, by omega, Lib.hid (by rw [HK.out]), by go_num, rfl, hqb, hqn, HO3, HB3⟩
            case measure => have := HK.out; simp [intOf]; omega
          · obtain rfl : d = o := by omega
            clear hf hL hLP hnx honly hyz hst hom hmz hq hqi hmb hm hkn ho
            skip
            have HRA2 : Hid ((List.range (k + 1)).map F = (List.range k).map F ++ [((m : Int), d, (q : Int))]) := Lib.hid HRA.out
            clear HRA
            go_wp2_with fail
            refine (hMQ _).mono ?_
            rintro e w2 ⟨rfl, hb2⟩
            have HOW : Hid (OwnW ((w2.alloc (.cells #[.int .i64 (m : Int), .int .i64 d, .int .i64 (q : Int)] 92)).alloc (.cells #[.int .i64 (m : Int), .int .i64 d, .int .i64 (q : Int)] 92)) (w.heap.size + 1) _ k ((List.range k).map F)) := Lib.hid (((HW.out.below hb2).alloc _).alloc _)
            have HB2 := Lib.hid (((HBW.out.trans (hb2.mono (by have := HBW.out.size; simp at this; omega))).alloc (by have := HBW.out.size; have := hb2.size; simp at *; omega) (.cells #[.int .i64 (m : Int), .int .i64 d, .int .i64 (q : Int)] 92)).alloc (by have := HBW.out.size; have := hb2.size; simp at *; omega) (.cells #[.int .i64 (m : Int), .int .i64 d, .int .i64 (q : Int)] 92))
            have HCe : Hid (∀ (i : Nat) y, (cell3 ((m : Int), d, (q : Int)))[i]? = some y → ((w2.alloc (.cells #[.int .i64 (m : Int), .int .i64 d, .int .i64 (q : Int)] 92)).alloc (.cells #[.int .i64 (m : Int), .int .i64 d, .int .i64 (q : Int)] 92)).cell? ⟨w2.heap.size + 1, i, none⟩ = some y) := Lib.hid (fun i y hy => by
              have h := Blk.new (w2.alloc (.cells #[.int .i64 (m : Int), .int .i64 d, .int .i64 (q : Int)] 92)) 92 #[.int .i64 (m : Int), .int .i64 d, .int .i64 (q : Int)]
              rw [show (w2.alloc (.cells #[.int .i64 (m : Int), .int .i64 d, .int .i64 (q : Int)] 92)).heap.size = w2.heap.size + 1 by simp] at h
              rw [h.cell]
              simpa [cell3] using hy)
            have HOL := Lib.hid (HW.out.below hb2)
            have HSZ : Hid (w.heap.size + 1 ≤ w2.heap.size) := Lib.hid (by have := HBW.out.size; have := hb2.size; simp at *; omega)
            clear hb2
            go_wp2_with (with_reducible refine wpList_appendW (o := ⟨some 47, _, _, _, _, _⟩) rfl (.tmp 44) (.tmp 46) rfl (w.heap.size + 1) _ k ((List.range k).map F) ?g1 HOW.out (w2.heap.size + 1) ((m : Int), d, (q : Int)) ?g2 HCe.out ?g3 ?g4 ?_)
            case g1 => rfl
            case g2 => rfl
            case g3 => omega
            case g4 => have := HSZ.out; simp; omega
            intro v' w3 hown' hg
            have HO3 : Hid (OwnW w3 (w.heap.size + 1) v' (k + 1) ((List.range (k + 1)).map F)) := Lib.hid (by rw [HRA2.out]; exact hown')
            have HB3 : Hid (Below (w.heap.size + 1) (w.alloc (.cells #[.int .u32 (p : Int), .bool th] 88)) w3) := Lib.hid (HB2.out.grown hg (by have := HSZ.out; simp; omega) (fun q hq => (World.ownsRow.lt HOW.out q hq).1))
            have HR3 : Hid (w3.cell? ⟨w2.heap.size, 2, none⟩ = some (.int .i64 (q : Int))) := Lib.hid (by
              have h1 := ((Blk.new w2 92 #[.int .i64 (m : Int), .int .i64 d, .int .i64 (q : Int)]).alloc (.cells #[.int .i64 (m : Int), .int .i64 d, .int .i64 (q : Int)] 92))
              have h2 := Blk.grown h1 hg (fun e => by have := (World.ownsRow.lt HOL.out _ e.symm).2; omega)
              rw [h2.cell]; rfl)
            clear hown' hg HOW HCe HB2
            have r3 := HR3.out
            go_wp2_with fail
            go_roundw
            case rel => exact ⟨k + 1, K + 1, q, by omega, Lib.hid (by rw [HK.out]), by go_num, rfl, hqb, hqn, HO3, HB3⟩
            case measure => have := HK.out; simp [intOf]; omega
        · replace hom := hom rfl
          obtain rfl : o = 0 := by omega
          clear hf hL hLP hnx honly hyz hst hom hmz hq hqi hmb hm hkn ho
          obtain rfl : L = q := by omega
          clear hlo
          have HRA2 : Hid ((List.range (k + 1)).map F = (List.range k).map F ++ [((m : Int), 0, (L : Int))]) := Lib.hid HRA.out
          clear HRA
          go_wp2_with fail
          refine (hMQ _).mono ?_
          rintro e w2 ⟨rfl, hb2⟩
          have HOW : Hid (OwnW ((w2.alloc (.cells #[.int .i64 (m : Int), .int .i64 0, .int .i64 (L : Int)] 92)).alloc (.cells #[.int .i64 (m : Int), .int .i64 0, .int .i64 (L : Int)] 92)) (w.heap.size + 1) _ k ((List.range k).map F)) := Lib.hid (((HW.out.below hb2).alloc _).alloc _)
          have HB2 := Lib.hid (((HBW.out.trans (hb2.mono (by have := HBW.out.size; simp at this; omega))).alloc (by have := HBW.out.size; have := hb2.size; simp at *; omega) (.cells #[.int .i64 (m : Int), .int .i64 0, .int .i64 (L : Int)] 92)).alloc (by have := HBW.out.size; have := hb2.size; simp at *; omega) (.cells #[.int .i64 (m : Int), .int .i64 0, .int .i64 (L : Int)] 92))
          have HCe : Hid (∀ (i : Nat) y, (cell3 ((m : Int), 0, (L : Int)))[i]? = some y → ((w2.alloc (.cells #[.int .i64 (m : Int), .int .i64 0, .int .i64 (L : Int)] 92)).alloc (.cells #[.int .i64 (m : Int), .int .i64 0, .int .i64 (L : Int)] 92)).cell? ⟨w2.heap.size + 1, i, none⟩ = some y) := Lib.hid (fun i y hy => by
            have h := Blk.new (w2.alloc (.cells #[.int .i64 (m : Int), .int .i64 0, .int .i64 (L : Int)] 92)) 92 #[.int .i64 (m : Int), .int .i64 0, .int .i64 (L : Int)]
            rw [show (w2.alloc (.cells #[.int .i64 (m : Int), .int .i64 0, .int .i64 (L : Int)] 92)).heap.size = w2.heap.size + 1 by simp] at h
            rw [h.cell]
            simpa [cell3] using hy)
          have HOL := Lib.hid (HW.out.below hb2)
          have HSZ : Hid (w.heap.size + 1 ≤ w2.heap.size) := Lib.hid (by have := HBW.out.size; have := hb2.size; simp at *; omega)
          clear hb2
          go_wp2_with (with_reducible refine wpList_appendW (o := ⟨some 47, _, _, _, _, _⟩) rfl (.tmp 44) (.tmp 46) rfl (w.heap.size + 1) _ k ((List.range k).map F) ?g1 HOW.out (w2.heap.size + 1) ((m : Int), 0, (L : Int)) ?g2 HCe.out ?g3 ?g4 ?_)
          case g1 => rfl
          case g2 => rfl
          case g3 => omega
          case g4 => have := HSZ.out; simp; omega
          intro v' w3 hown' hg
          have HO3 : Hid (OwnW w3 (w.heap.size + 1) v' (k + 1) ((List.range (k + 1)).map F)) := Lib.hid (by rw [HRA2.out]; exact hown')
          have HB3 : Hid (Below (w.heap.size + 1) (w.alloc (.cells #[.int .u32 (p : Int), .bool th] 88)) w3) := Lib.hid (HB2.out.grown hg (by have := HSZ.out; simp; omega) (fun q hq => (World.ownsRow.lt HOW.out q hq).1))
          have HR3 : Hid (w3.cell? ⟨w2.heap.size, 2, none⟩ = some (.int .i64 (L : Int))) := Lib.hid (by
            have h1 := ((Blk.new w2 92 #[.int .i64 (m : Int), .int .i64 0, .int .i64 (L : Int)]).alloc (.cells #[.int .i64 (m : Int), .int .i64 0, .int .i64 (L : Int)] 92))
            have h2 := Blk.grown h1 hg (fun e => by have := (World.ownsRow.lt HOL.out _ e.symm).2; omega)
            rw [h2.cell]; rfl)
          clear hown' hg HOW HCe HB2
          have r3 := HR3.out
          go_wp2_with fail
          go_roundw
          case rel => exact ⟨k + 1, K + 1, L, by omega, Lib.hid (by rw [HK.out]), by go_num, rfl, hqb, hqn, HO3, HB3⟩
          case measure => have := HK.out; simp [intOf]; omega
    · have hkn : k = n := by omega
      subst hkn
      have hKn : ¬ (K : Int) ≤ (k : Int) := by have := HK.out; omega
      obtain ⟨g, c, rfl, hg, hc1, hc2, hr⟩ := own_formW HW.out HN0.out
      go_wp2_with fail
      go_ret
      exact ⟨g, c, rfl, hc1, hc2, HB0.out.trans (HBW.out.mono (by simp)), hr⟩
end Go.Proofs.YtjcnglkjjhnpbaaGreatDoor
