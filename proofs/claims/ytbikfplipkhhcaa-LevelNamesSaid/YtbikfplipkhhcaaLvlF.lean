/-
  LevelNames: the walk. Conditions: the numbers' kinds.
-/
import Derived.Test.YtbikfplipkhhcaaLvlE
import Derived.StillTailTactics
namespace Go.Proofs.Ytbikfplipkhhcaa
open Go.RowKit

/-- A still walk, behind a wall: nothing looks into it. -/
structure St (P : Program) (ops : Array Oper) (w : World) (Q : Act → Prop) (l : List Oper) (a : Act) : Prop where
  out : wpStill P ops w Q l a
theorem St.step {P : Program} {ops : Array Oper} {w : World} {Q : Act → Prop} {a : Act} {o : Oper} {rest : List Oper}
    (h : ∀ K : Act → Prop, (∀ a, St P ops w Q rest a → K a) → if Region.wanted o (yielded ops a.tmps) then o.still P a w K else K (a.put o.dst undef)) : St P ops w Q (o :: rest) a :=
  ⟨wpStill_step fun K hK => h K fun a ha => hK a ha.out⟩
theorem St.nil {P : Program} {ops : Array Oper} {w : World} {Q : Act → Prop} {a : Act} (h : Q a) : St P ops w Q [] a := ⟨wpStill_nil h⟩
theorem flip_same {f : FuncId} {args : Array Value} {w : World} {v : Value} (h : Calls Try.prog f args w fun e w' => e = .returned v ∧ w = w') : Calls Try.prog f args w fun e w' => e = .returned v ∧ w' = w :=
  h.mono fun _ _ h => ⟨h.1, h.2.symm⟩
theorem names_at {W : World} {g kd x : Nat} (h : Blk W g 9 #[.string ⟨#[]⟩, .string ⟨#[108, 101, 118, 101, 108]⟩, .string ⟨#[111, 110, 108, 121]⟩, .string ⟨#[]⟩]) (hx : min kd 3 = x) : W.cell? ⟨g, x, none⟩ = some (.string (nameB kd)) := by
  rw [h.cell]
  rcases (show kd = 0 ∨ kd = 1 ∨ kd = 2 ∨ 3 ≤ kd by omega) with e | e | e | e
  · subst e; subst hx; rfl
  · subst e; subst hx; rfl
  · subst e; subst hx; rfl
  · obtain rfl : x = 3 := by omega
    unfold nameB
    rw [if_neg (by omega), if_neg (by omega)]
    rfl
set_option maxRecDepth 20000 in
set_option maxHeartbeats 4000000 in
theorem LNames_any (kd : Nat) (s : ByteArray) (w : World) : Calls Try.prog 5 #[.int .u8 (kd : Int), .string s] w (Ret (.bool true) w) := by
  have hN := fun W => flip_same (Name_any kd W)
  have hK := fun W => Kind_any s W
  obtain ⟨x, hx⟩ : ∃ x : Nat, min kd 3 = x := ⟨_, rfl⟩
  have i1 : min (kd : Int) 3 = (x : Int) := by omega
  have i2 : x < 4 := by omega
  have i3 : (x : Int) < 4 := by omega
  have i4 : (0 : Int) ≤ (x : Int) := by omega
  have HX := Lib.hid hx
  obtain ⟨T, hT⟩ : ∃ T, nameB kd = T := ⟨_, rfl⟩
  have HT := Lib.hid hT
  rw [hT] at hN
  have HN := Lib.hid hN
  clear hx hT hN
  by_cases h1 : s = levelS
  · subst h1
    replace hK : ∀ W, Calls Try.prog 13 #[.string ⟨#[108, 101, 118, 101, 108]⟩] W fun e w' => e = .returned (.int .u8 1) ∧ W = w' := hK
    unfold levelS
    go_enter Try.func5, Try.ntmps5
    go_wp2_with fail
    refine (awake10 _).mono ?_
    rintro e w1 ⟨rfl, hb1⟩
    have HB1 := Lib.hid hb1
    clear hb1
    go_wp2_with fail
    refine (hK _).mono ?_
    rintro e w99 ⟨rfl, rfl⟩
    clear hK
    go_wp2_with fail
    have HS := Lib.hid (Blk.new w1 9 #[.string ⟨#[]⟩, .string ⟨#[108, 101, 118, 101, 108]⟩, .string ⟨#[111, 110, 108, 121]⟩, .string ⟨#[]⟩])
    obtain ⟨W2, hW2⟩ : ∃ W, (w1.alloc (.cells #[.string ⟨#[]⟩, .string ⟨#[108, 101, 118, 101, 108]⟩, .string ⟨#[111, 110, 108, 121]⟩, .string ⟨#[]⟩] 9)).drew = W := ⟨_, rfl⟩
    have HB2 : Hid (Below w.heap.size w W2) := Lib.hid (by rw [← hW2]; exact (HB1.out.alloc HB1.out.size _).drew)
    have hc : W2.cell? ⟨w1.heap.size, x, none⟩ = some (.string T) := by rw [← hW2, ← HT.out]; exact names_at HS.out.drew HX.out
    have hNW := HN.out W2
    clear HS HB1 HN
    have hN1 := flip_same (Name_any 1 W2)
    replace hN1 : Calls Try.prog 14 #[.int .u8 1] W2 fun e w' => e = .returned (.string ⟨#[108, 101, 118, 101, 108]⟩) ∧ w' = W2 := hN1
    refine wp_region_still_tail 31 (by kernel_rfl) (by kernel_rfl) ?_
    simp only [List.take_succ_cons, List.take_zero, List.drop_succ_cons, List.drop_zero]
    change wpStill _ _ (w1.alloc (.cells #[.string ⟨#[]⟩, .string ⟨#[108, 101, 118, 101, 108]⟩, .string ⟨#[111, 110, 108, 121]⟩, .string ⟨#[]⟩] 9)).drew _ _ _
    rw [hW2]
    change wpStill _ _ W2 (fun a' => wpList _ _ _ _ a' (w1.alloc (.cells #[.string ⟨#[]⟩, .string ⟨#[108, 101, 118, 101, 108]⟩, .string ⟨#[111, 110, 108, 121]⟩, .string ⟨#[]⟩] 9)).drew) _ _
    rw [hW2]
    clear hW2
    refine St.out ?_
    (refine St.step (fun K hK => ?_); go_simp; refine hK _ ?_; clear hK K)
    (refine St.step (fun K hK => ?_); go_simp; refine ⟨_, hNW, hK _ ?_⟩; clear hK K)
    
    iterate 22 (refine St.step (fun K hK => ?_); go_simp; refine hK _ ?_; clear hK K)
    (refine St.step (fun K hK => ?_); go_simp; refine ⟨_, hN1, hK _ ?_⟩; clear hK K)
    iterate 6 (refine St.step (fun K hK => ?_); go_simp; refine hK _ ?_; clear hK K)
    refine St.nil ?_
    go_wp2_with fail
    refine (Sums_nil _).mono ?_
    rintro e w4 ⟨⟨g, rfl⟩, hb4⟩
    have HB4 := Lib.hid (HB2.out.trans (hb4.mono HB2.out.size))
    clear hb4
    go_wp2_with fail
    go_ret
    exact ⟨by first | rfl | simp, HB4.out⟩
  · by_cases h2 : s = onlyS
    · subst h2
      replace hK : ∀ W, Calls Try.prog 13 #[.string ⟨#[111, 110, 108, 121]⟩] W fun e w' => e = .returned (.int .u8 2) ∧ W = w' := hK
      unfold onlyS
      clear h1
      go_enter Try.func5, Try.ntmps5
      go_wp2_with fail
      refine (awake10 _).mono ?_
      rintro e w1 ⟨rfl, hb1⟩
      have HB1 := Lib.hid hb1
      clear hb1
      go_wp2_with fail
      refine (hK _).mono ?_
      rintro e w99 ⟨rfl, rfl⟩
      clear hK
      go_wp2_with fail
      have HS := Lib.hid (Blk.new w1 9 #[.string ⟨#[]⟩, .string ⟨#[108, 101, 118, 101, 108]⟩, .string ⟨#[111, 110, 108, 121]⟩, .string ⟨#[]⟩])
      obtain ⟨W2, hW2⟩ : ∃ W, (w1.alloc (.cells #[.string ⟨#[]⟩, .string ⟨#[108, 101, 118, 101, 108]⟩, .string ⟨#[111, 110, 108, 121]⟩, .string ⟨#[]⟩] 9)).drew = W := ⟨_, rfl⟩
      have HB2 : Hid (Below w.heap.size w W2) := Lib.hid (by rw [← hW2]; exact (HB1.out.alloc HB1.out.size _).drew)
      have hc : W2.cell? ⟨w1.heap.size, x, none⟩ = some (.string T) := by rw [← hW2, ← HT.out]; exact names_at HS.out.drew HX.out
      have hNW := HN.out W2
      clear HS HB1 HN
      have hN1 := flip_same (Name_any 2 W2)
      replace hN1 : Calls Try.prog 14 #[.int .u8 2] W2 fun e w' => e = .returned (.string ⟨#[111, 110, 108, 121]⟩) ∧ w' = W2 := hN1
      refine wp_region_still_tail 31 (by kernel_rfl) (by kernel_rfl) ?_
      simp only [List.take_succ_cons, List.take_zero, List.drop_succ_cons, List.drop_zero]
      change wpStill _ _ (w1.alloc (.cells #[.string ⟨#[]⟩, .string ⟨#[108, 101, 118, 101, 108]⟩, .string ⟨#[111, 110, 108, 121]⟩, .string ⟨#[]⟩] 9)).drew _ _ _
      rw [hW2]
      change wpStill _ _ W2 (fun a' => wpList _ _ _ _ a' (w1.alloc (.cells #[.string ⟨#[]⟩, .string ⟨#[108, 101, 118, 101, 108]⟩, .string ⟨#[111, 110, 108, 121]⟩, .string ⟨#[]⟩] 9)).drew) _ _
      rw [hW2]
      clear hW2
      refine St.out ?_
      (refine St.step (fun K hK => ?_); go_simp; refine hK _ ?_; clear hK K)
      (refine St.step (fun K hK => ?_); go_simp; refine ⟨_, hNW, hK _ ?_⟩; clear hK K)
      
      iterate 22 (refine St.step (fun K hK => ?_); go_simp; refine hK _ ?_; clear hK K)
      (refine St.step (fun K hK => ?_); go_simp; refine ⟨_, hN1, hK _ ?_⟩; clear hK K)
      iterate 6 (refine St.step (fun K hK => ?_); go_simp; refine hK _ ?_; clear hK K)
      refine St.nil ?_
      go_wp2_with fail
      refine (Sums_nil _).mono ?_
      rintro e w4 ⟨⟨g, rfl⟩, hb4⟩
      have HB4 := Lib.hid (HB2.out.trans (hb4.mono HB2.out.size))
      clear hb4
      go_wp2_with fail
      go_ret
      exact ⟨by first | rfl | simp, HB4.out⟩
    · have hk : kindB s = 0 := by unfold kindB; rw [if_neg h1, if_neg h2]
      rw [hk] at hK
      replace hK : ∀ W, Calls Try.prog 13 #[.string s] W fun e w' => e = .returned (.int .u8 0) ∧ W = w' := hK
      have j1 : (s.toList == [108, 101, 118, 101, 108]) = false := ba_ne h1
      have j2 : (s.toList == [111, 110, 108, 121]) = false := ba_ne h2
      clear h1 h2 hk
      go_enter Try.func5, Try.ntmps5
      go_wp2_with fail
      refine (awake10 _).mono ?_
      rintro e w1 ⟨rfl, hb1⟩
      have HB1 := Lib.hid hb1
      clear hb1
      go_wp2_with fail
      refine (hK _).mono ?_
      rintro e w99 ⟨rfl, rfl⟩
      clear hK
      go_wp2_with fail
      have HS := Lib.hid (Blk.new w1 9 #[.string ⟨#[]⟩, .string ⟨#[108, 101, 118, 101, 108]⟩, .string ⟨#[111, 110, 108, 121]⟩, .string ⟨#[]⟩])
      obtain ⟨W2, hW2⟩ : ∃ W, (w1.alloc (.cells #[.string ⟨#[]⟩, .string ⟨#[108, 101, 118, 101, 108]⟩, .string ⟨#[111, 110, 108, 121]⟩, .string ⟨#[]⟩] 9)).drew = W := ⟨_, rfl⟩
      have HB2 : Hid (Below w.heap.size w W2) := Lib.hid (by rw [← hW2]; exact (HB1.out.alloc HB1.out.size _).drew)
      have hc : W2.cell? ⟨w1.heap.size, x, none⟩ = some (.string T) := by rw [← hW2, ← HT.out]; exact names_at HS.out.drew HX.out
      have hNW := HN.out W2
      clear HS HB1 HN
      skip
      refine wp_region_still_tail 31 (by kernel_rfl) (by kernel_rfl) ?_
      simp only [List.take_succ_cons, List.take_zero, List.drop_succ_cons, List.drop_zero]
      change wpStill _ _ (w1.alloc (.cells #[.string ⟨#[]⟩, .string ⟨#[108, 101, 118, 101, 108]⟩, .string ⟨#[111, 110, 108, 121]⟩, .string ⟨#[]⟩] 9)).drew _ _ _
      rw [hW2]
      change wpStill _ _ W2 (fun a' => wpList _ _ _ _ a' (w1.alloc (.cells #[.string ⟨#[]⟩, .string ⟨#[108, 101, 118, 101, 108]⟩, .string ⟨#[111, 110, 108, 121]⟩, .string ⟨#[]⟩] 9)).drew) _ _
      rw [hW2]
      clear hW2
      refine St.out ?_
      (refine St.step (fun K hK => ?_); go_simp; refine hK _ ?_; clear hK K)
      (refine St.step (fun K hK => ?_); go_simp; refine ⟨_, hNW, hK _ ?_⟩; clear hK K)
      
      iterate 29 (refine St.step (fun K hK => ?_); go_simp; refine hK _ ?_; clear hK K)
      refine St.nil ?_
      go_wp2_with fail
      refine (Sums_nil _).mono ?_
      rintro e w4 ⟨⟨g, rfl⟩, hb4⟩
      have HB4 := Lib.hid (HB2.out.trans (hb4.mono HB2.out.size))
      clear hb4
      go_wp2_with fail
      go_ret
      exact ⟨by first | rfl | simp, HB4.out⟩
end Go.Proofs.Ytbikfplipkhhcaa
