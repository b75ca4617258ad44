/-
TermsRise: the walk. Conditions: the laid variables' cells.
-/
import Derived.Test.YtpnoecjpplaicaaGreatDoorTrmH
import Derived.Test.YtpnoecjpplaicaaGreatDoorTrmJ
namespace Go.Proofs.YtpnoecjpplaicaaGreatDoor
open Go.ChangeShapes Go.WideShapes Go.ChangeAt Go.RowKit

/-- An operation whose guard was itself passed over. -/
theorem step_undef {P : Program} {ops : Array Oper} {ds : List (Option Tmp)} {F : Nat → Flw} {a0 : Act} {w0 : World} {i : Nat} {o : Oper} (j : Nat) (d : Tmp) {want : Bool} (hg : o.guard = some (j, want)) (hd : (ops[j]?).bind (·.dst) = some d)
    (hF : ∀ a w, seeS ds F a0 a w d → a.eval (.tmp d) = undef) (h : ∀ w, (F i).p undef w) : stepF P ops ds F a0 w0 i o := fun a w hs hb => by
  obtain ⟨h1, h2⟩ := seesS_app hs
  simp only [hg, hd, Option.toList] at h2
  have he := hF a w h2.1
  have hy : yielded ops a.tmps j = none := by
    unfold yielded
    rw [hd]
    simp only [Act.eval, Array.getD_eq_getD_getElem?] at he
    simp only [Option.bind_some]
    cases e : a.tmps[d]? with
    | none => rfl
    | some v => rw [e] at he; simp only [Option.getD_some] at he; subst he; rfl
  have hw : ¬ Region.wanted o (yielded ops a.tmps) = true := by
    unfold Region.wanted
    simp only [hg, hy]
    cases want <;> decide
  rw [if_neg hw]
  exact h w
set_option maxRecDepth 100000 in
set_option maxHeartbeats 4000000 in
theorem TRise_no {t : Trm} (hi : t.In) (h : ¬ t.Right) (A : Option Addr) (n c : Nat) (w : World)
    (cA : ∀ W, Below w.heap.size w W → Calls Tryz.prog 8 #[] W (Ret (.bool true) W)) :
    Calls Tryz.prog 6 #[t.v, .slice A n c] w (Ret (.bool true) w) := by
  have cO := fun W => own16_any hi W
  have cQ := fun W => QRight_false hi h W
  obtain ⟨K, P, R, B, M, S, F, G⟩ := t
  unfold Trm.v Trm.r at *
  dsimp only at cO cQ ⊢
  clear hi h
  have HQ0 := Lib.hid (Blk.new w 28 #[.int .u8 (K : Int), .int .i64 P, .int .u32 (R : Int), .int .u8 (B : Int), .int .i64 M, .int .i32 S, .int .i64 F, .int .i64 G])
  have HB0 := Lib.hid (b_alloc w (.cells #[.int .u8 (K : Int), .int .i64 P, .int .u32 (R : Int), .int .u8 (B : Int), .int .i64 M, .int .i32 S, .int .i64 F, .int .i64 G] 28))
  have cA1 := cA _ HB0.out
  clear cA
  go_enter Tryz.func6, Tryz.ntmps6
  go_wp2_with fail
  refine cA1.mono ?_
  rintro e w1 ⟨rfl, hb⟩
  have HQ1 := Lib.hid (HQ0.out.below hb HQ0.out.lt)
  have HB1 := Lib.hid (HB0.out.trans (hb.mono HB0.out.size))
  obtain ⟨c0, c1, c2, c3, c4, c5, c6, c7⟩ := blk8 HQ1.out
  clear hb cA1
  go_wp2_with fail
  refine (cO _).mono ?_
  rintro e w2 ⟨rfl, hb⟩
  have HB2 := Lib.hid (HB1.out.trans (hb.mono HB1.out.size))
  clear hb c0 c1 c2 c3 c4 c5 c6 c7
  go_wp2_with fail
  refine (cQ _).mono ?_
  rintro e w3 ⟨rfl, hb⟩
  have HB3 := Lib.hid (HB2.out.trans (hb.mono HB2.out.size))
  clear hb
  go_wp2_with fail
  go_ret
  exact ⟨by first | rfl | simp, HB3.out⟩
set_option maxRecDepth 100000 in
set_option maxHeartbeats 4000000 in
theorem TRise_yes {K P R B M : Nat} {S F G : Int} (hi : Trm.In ⟨K, P, R, B, M, S, F, G⟩) (h : Trm.Right ⟨K, P, R, B, M, S, F, G⟩) (A : Option Addr) (n c : Nat) (l : List UInt8) (w : World) (hR : Rd w w.heap.size A l) (hn : l.length = n) (hm : n ≤ 140737488355328) (hw : Lens w)
    (cA : ∀ W, Below w.heap.size w W → Calls Tryz.prog 8 #[] W (Ret (.bool true) W)) :
    Calls Tryz.prog 6 #[.agg #[.int .u8 (K : Int), .int .i64 (P : Int), .int .u32 (R : Int), .int .u8 (B : Int), .int .i64 (M : Int), .int .i32 S, .int .i64 F, .int .i64 G], .slice A n c] w (Ret (.bool true) w) := by
  have cO := fun W => own16_any hi W
  have cQ := fun W => QRight_true hi h W
  unfold Trm.v at cO
  unfold Trm.r at cO cQ
  dsimp only at cO cQ
  have hM := h.M
  have hS := h.S
  dsimp only at hM hS
  obtain ⟨y, hy⟩ := lstK_any (K := K) (R := R) (M := M) (P := P) (by omega)
  have cF := fun W (hW : Below w.heap.size w W) => Few16_any A n c w.heap.size l S hS.1 hS.2 W (hR.below hW) hn hm hW.size
  obtain ⟨q, hq⟩ : ∃ q, min n 40 = q := ⟨_, rfl⟩
  rw [hq] at cF
  have hq40 : q ≤ 40 := by omega
  obtain ⟨L, hL⟩ : ∃ L, fewD l S q = L := ⟨_, rfl⟩
  have hLl : L.length = q := by rw [← hL, fewD_len]
  have hLr : rightL L = true := by rw [← hL]; exact few_right l hS.1 hS.2 hq40
  have hLi : ∀ v ∈ L, -2147483648 ≤ v ∧ v ≤ 2147483647 := by rw [← hL]; exact few_in l hS.1 hS.2 hq40
  rw [hL] at cF
  have cD := fun (A1 : Option Addr) (c1 : Nat) (W : World) (hW : Lens W) (hR1 : Rv W W.heap.size A1 (L.map encH)) (hc1 : L.length ≤ c1) => Dues_any h hy A1 L.length c1 L W hW hR1 rfl hc1 hLi hLr
  unfold Trm.v at cD
  dsimp only at cD
  have hD0 : ∀ k, k < M → S < dueD L S k := fun k hk => due_after hS.1 hS.2 (by omega) (by omega)
  have hD1 : ∀ k, k + 1 < M → dueD L S k ≤ dueD L S (k + 1) := fun k hk => due_rise hS.1 hS.2 (by omega) (by omega)
  have hQ1 : ∀ k, paysTo (rowF R y P M) (k + 1) ≤ paysTo (rowF R y P M) (k + 1 + 1) := fun k => sum_rise R y P M (k + 1)
  have hQ2 : (P : Int) ≤ paysTo (rowF R y P M) (M - 1 + 1) := by
    rw [show M - 1 + 1 = M by omega]
    exact sum_all R y P M (by omega)
  obtain ⟨D, hD⟩ : ∃ D, dueD L S = D := ⟨_, rfl⟩
  obtain ⟨Q, hQ⟩ : ∃ Q : Nat → Int, (fun k => paysTo (rowF R y P M) (k + 1)) = Q := ⟨_, rfl⟩
  have hQk : ∀ k, paysTo (rowF R y P M) (k + 1) = Q k := fun k => congrFun hQ k
  rw [hD, hQ] at cD
  rw [hD] at hD0 hD1
  simp only [hQk] at hQ1 hQ2
  unfold FewPost at cF
  unfold DuesPost at cD
  have HD0 := Lib.hid hD0
  have HD1 := Lib.hid hD1
  have HQ1 := Lib.hid hQ1
  have HQ2 := Lib.hid hQ2
  have HM := Lib.hid hM
  have HW := Lib.hid hw
  have HQ0 := Lib.hid (Blk.new w 28 #[.int .u8 (K : Int), .int .i64 (P : Int), .int .u32 (R : Int), .int .u8 (B : Int), .int .i64 (M : Int), .int .i32 S, .int .i64 F, .int .i64 G])
  have HB0 := Lib.hid (b_alloc w (.cells #[.int .u8 (K : Int), .int .i64 (P : Int), .int .u32 (R : Int), .int .u8 (B : Int), .int .i64 (M : Int), .int .i32 S, .int .i64 F, .int .i64 G] 28))
  have cA1 := cA _ HB0.out
  clear cA hi h hR hn hm hw hS hM hy hq hq40 hL hLl hLr hLi hD hQ hQk hD0 hD1 hQ1 hQ2
  go_enter Tryz.func6, Tryz.ntmps6
  go_wp2_with fail
  refine cA1.mono ?_
  rintro e w1 ⟨rfl, hb⟩
  have HT1 := Lib.hid (HQ0.out.below hb HQ0.out.lt)
  have HB1 := Lib.hid (HB0.out.trans (hb.mono HB0.out.size))
  obtain ⟨c0, c1, c2, c3, c4, c5, c6, c7⟩ := blk8 HT1.out
  clear hb cA1 HQ0 HB0
  go_wp2_with fail
  refine (cO _).mono ?_
  rintro e w2 ⟨rfl, hb⟩
  have HT2 := Lib.hid (HT1.out.below hb HT1.out.lt)
  have HB2 := Lib.hid (HB1.out.trans (hb.mono HB1.out.size))
  clear hb c0 c1 c2 c3 c4 c5 c6 c7 HT1 HB1 cO
  go_wp2_with fail
  refine (cQ _).mono ?_
  rintro e w3 ⟨rfl, hb⟩
  have HT3 := Lib.hid (HT2.out.below hb HT2.out.lt)
  have HB3 := Lib.hid (HB2.out.trans (hb.mono HB2.out.size))
  obtain ⟨c0, c1, c2, c3, c4, c5, c6, c7⟩ := blk8 HT3.out
  clear hb HT2 HB2 cQ
  have cF1 := cF _ HB3.out
  clear cF
  go_wp2_with fail
  refine cF1.mono ?_
  rintro e w4 ⟨A1, A2, e1, e2, rfl, he1, -, -, -, hr1, -, hb⟩
  have HT4 := Lib.hid (HT3.out.below hb HT3.out.lt)
  have HB4 := Lib.hid (HB3.out.trans (hb.mono HB3.out.size))
  have cD1 := cD A1 e1 _ (HW.out.below HB4.out) hr1 he1
  clear hb c0 c1 c2 c3 c4 c5 c6 c7 HT3 HB3 cF1 cD hr1
  obtain ⟨c0, c1, c2, c3, c4, c5, c6, c7⟩ := blk8 HT4.out
  go_wp2_with fail
  refine cD1.mono ?_
  rintro e w5 ⟨g, rfl, hg, hb, hk⟩
  have HT5 := Lib.hid (HT4.out.below hb HT4.out.lt)
  have HB5 := Lib.hid (HB4.out.trans (hb.mono HB4.out.size))
  have HG5 := Lib.hid hk
  clear hb c0 c1 c2 c3 c4 c5 c6 c7 HT4 HB4 cD1 hk hg
  obtain ⟨c0, c1, c2, c3, c4, c5, c6, c7⟩ := blk8 HT5.out
  obtain ⟨b, hb⟩ : ∃ b, w.heap.size = b := ⟨_, rfl⟩
  rw [hb] at HT5 c0 c1 c2 c3 c4 c5 c6 c7 ⊢
  have HBE := Lib.hid hb
  clear hb
  go_wp2_with fail
  clear c0 c1 c2 c3 c4 c5 c6 c7
  go_loopw [41] (fun i wr => ∃ (k : Nat), k ≤ M ∧ i = .int .i64 k ∧ Hid (Blk wr g 50 (pairA (fun k => (D k, Q k)) M)) ∧ Hid (Blk wr b 28 #[.int .u8 (K : Int), .int .i64 (P : Int), .int .u32 (R : Int), .int .u8 (B : Int), .int .i64 (M : Int), .int .i32 S, .int .i64 F, .int .i64 G]) ∧ Hid (Below w.heap.size w wr)) (fun i _ => M - (intOf i).toNat)
  case atStart => exact ⟨0, Nat.zero_le _, rfl, HG5, HT5, HB5⟩
  case round =>
    obtain ⟨k, hk, rfl, HGk, HTk, HBk⟩ := hrel
    by_cases hlt : k < M
    · obtain ⟨g0, g1⟩ := pairA_at (fun k => (D k, Q k)) hlt
      have d0 : _ = some (Value.int .i32 (D k)) := (HGk.out.cell (k * 2)).trans g0
      have d1 : _ = some (Value.int .i64 (Q k)) := (HGk.out.cell (k * 2 + 1)).trans g1
      have hXS : ¬ D k ≤ S := by have := HD0.out k hlt; omega
      have HP : Hid (∀ j, k = j + 1 → ¬ D k < D j ∧ ¬ Q k < Q j ∧ j < M) := Lib.hid (fun j e => by
        have h1 := HD1.out j (by omega)
        have h2 := HQ1.out j
        subst e
        refine ⟨by omega, by omega, by omega⟩)
      obtain ⟨X, hX⟩ : ∃ X, D k = X := ⟨_, rfl⟩
      obtain ⟨Y, hY⟩ : ∃ Y, Q k = Y := ⟨_, rfl⟩
      rw [hX] at d0 hXS HP
      rw [hY] at d1 HP
      have HN := Lib.hid (Blk.new wr 50 #[.int .i32 X, .int .i64 Y])
      have HGa := Lib.hid (HGk.out.alloc (.cells #[.int .i32 X, .int .i64 Y] 50))
      have HTa := Lib.hid (HTk.out.alloc (.cells #[.int .i32 X, .int .i64 Y] 50))
      have HBa := Lib.hid (HBk.out.alloc HBk.out.size (.cells #[.int .i32 X, .int .i64 Y] 50))
      clear g0 g1 hX hY
      go_wp2_with fail
      obtain ⟨W, hW⟩ : ∃ W, wr.alloc (.cells #[.int .i32 X, .int .i64 Y] 50) = W := ⟨_, rfl⟩
      obtain ⟨z, hz⟩ : ∃ z, wr.heap.size = z := ⟨_, rfl⟩
      rw [hW] at HN HGa HTa HBa ⊢
      rw [hz] at HN ⊢
      clear hW hz d0 d1
      have L0 : ∀ W', Below W.heap.size W W' → (Instr.loadAt 26 (.pointer (some ⟨z, 0, none⟩))).run Tryz.prog W' = .ok (.int .i32 X) W' := fun W' hb => by
        have c0 := (HN.out.below hb HN.out.lt).cell 0
        simp at c0
        go_simp
      have L5 : ∀ W', Below W.heap.size W W' → (Instr.loadAt 26 (.pointer (some ⟨b, 5, none⟩))).run Tryz.prog W' = .ok (.int .i32 S) W' := fun W' hb => by
        have c0 := (blk8 (HTa.out.below hb HTa.out.lt)).2.2.2.2.2.1
        go_simp
      by_cases hk0 : k = 0
      · subst hk0
        refine wp_region_flow [some 46, some 47, some 48, some 49, some 50, some 51, some 52, some 53, some 54, some 55, some 56, some 57, some 58, some 59, some 60, some 61, some 62, some 63, some 64, some 65, some 66, some 67, some 68, some 69, some 70, some 71, some 72, some 73, some 74, some 75, some 76] (fun i => ([.is (.pointer (some ⟨z, 0, none⟩)), .is (.int .i32 X), .is (.pointer (some ⟨b, 5, none⟩)), .is (.int .i32 S), .is (.bool false), .is (.bool false), .is (.int .i64 ((0 : Nat) : Int)), .is (.bool false), .is (.bool false), .is undef, .is undef, .is undef, .is undef, .is undef, .is undef, .is undef, .is undef, .is undef, .is undef, .is undef, .is undef, .is undef, .is undef, .is undef, .is undef, .is undef, .is undef, .is undef, .is undef, .is (.bool false), .is (.bool false)] : List Flw).getD i .any) (by kernel_rfl) (by kernel_rfl) rfl ?_ ?_
        · clear HGk HTk HBk HP
          refine ⟨step_free rfl (fun aF wF hs hb => ?_), ?_⟩
          · obtain ⟨x0, -⟩ := hs
            have e0 : aF.eval (.tmp 10) = .pointer (some ⟨z, 0, none⟩) := x0
            refine opC_value (v := .pointer (some ⟨z, 0, none⟩)) ?_ ⟨rfl, below_same wF⟩
            have t0 := ev_of e0
            simp [execOp, go_sem, t0]
          refine ⟨step_free rfl (fun aF wF hs hb => ?_), ?_⟩
          · obtain ⟨x0, -⟩ := hs
            have e0 : aF.eval (.tmp 46) = .pointer (some ⟨z, 0, none⟩) := x0
            exact opC_load e0 (L0 wF hb) ⟨rfl, below_same wF⟩
          refine ⟨step_free rfl (fun aF wF hs hb => ?_), ?_⟩
          · obtain ⟨x0, -⟩ := hs
            have e0 : aF.eval (.tmp 2) = .pointer (some ⟨b, 0, none⟩) := x0
            refine opC_value (v := .pointer (some ⟨b, 5, none⟩)) ?_ ⟨rfl, below_same wF⟩
            have t0 := ev_of e0
            simp [execOp, go_sem, t0]
          refine ⟨step_free rfl (fun aF wF hs hb => ?_), ?_⟩
          · obtain ⟨x0, -⟩ := hs
            have e0 : aF.eval (.tmp 48) = .pointer (some ⟨b, 5, none⟩) := x0
            exact opC_load e0 (L5 wF hb) ⟨rfl, below_same wF⟩
          refine ⟨step_free rfl (fun aF wF hs hb => ?_), ?_⟩
          · obtain ⟨x0, x1, -⟩ := hs
            have e0 : aF.eval (.tmp 47) = .int .i32 X := x0
            have e1 : aF.eval (.tmp 49) = .int .i32 S := x1
            refine opC_value (v := .bool false) ?_ ⟨rfl, below_same wF⟩
            have t0 := ev_of e0
            have t1 := ev_of e1
            simp [execOp, go_sem, t0, t1, hXS]
          refine ⟨step_free rfl (fun aF wF hs hb => ?_), ?_⟩
          · obtain ⟨x0, -⟩ := hs
            have e0 : aF.eval (.tmp 50) = .bool false := x0
            exact opC_move e0 ⟨rfl, below_same wF⟩
          refine ⟨step_yes 5 51 rfl rfl (fun _ _ h => h) (fun aF wF hs hb => ?_), ?_⟩
          · obtain ⟨x0, -⟩ := hs
            have e0 : aF.eval (.tmp 9) = .int .i64 ((0 : Nat) : Int) := x0
            exact opC_move e0 ⟨rfl, below_same wF⟩
          refine ⟨step_yes 5 51 rfl rfl (fun _ _ h => h) (fun aF wF hs hb => ?_), ?_⟩
          · obtain ⟨x0, -⟩ := hs
            have e0 : aF.eval (.tmp 52) = .int .i64 ((0 : Nat) : Int) := x0
            refine opC_value (v := .bool false) ?_ ⟨rfl, below_same wF⟩
            have t0 := ev_of e0
            simp [execOp, go_sem, t0]
          refine ⟨step_yes 5 51 rfl rfl (fun _ _ h => h) (fun aF wF hs hb => ?_), ?_⟩
          · obtain ⟨x0, -⟩ := hs
            have e0 : aF.eval (.tmp 53) = .bool false := x0
            exact opC_move e0 ⟨rfl, below_same wF⟩
          refine ⟨step_no 8 54 rfl rfl (fun _ _ h => h) (fun _ => rfl), ?_⟩
          refine ⟨step_no 8 54 rfl rfl (fun _ _ h => h) (fun _ => rfl), ?_⟩
          refine ⟨step_no 8 54 rfl rfl (fun _ _ h => h) (fun _ => rfl), ?_⟩
          refine ⟨step_no 8 54 rfl rfl (fun _ _ h => h) (fun _ => rfl), ?_⟩
          refine ⟨step_no 8 54 rfl rfl (fun _ _ h => h) (fun _ => rfl), ?_⟩
          refine ⟨step_no 8 54 rfl rfl (fun _ _ h => h) (fun _ => rfl), ?_⟩
          refine ⟨step_no 8 54 rfl rfl (fun _ _ h => h) (fun _ => rfl), ?_⟩
          refine ⟨step_no 8 54 rfl rfl (fun _ _ h => h) (fun _ => rfl), ?_⟩
          refine ⟨step_no 8 54 rfl rfl (fun _ _ h => h) (fun _ => rfl), ?_⟩
          refine ⟨step_no 8 54 rfl rfl (fun _ _ h => h) (fun _ => rfl), ?_⟩
          refine ⟨step_undef 18 64 rfl rfl (fun _ _ h => h) (fun _ => rfl), ?_⟩
          refine ⟨step_undef 18 64 rfl rfl (fun _ _ h => h) (fun _ => rfl), ?_⟩
          refine ⟨step_undef 18 64 rfl rfl (fun _ _ h => h) (fun _ => rfl), ?_⟩
          refine ⟨step_undef 18 64 rfl rfl (fun _ _ h => h) (fun _ => rfl), ?_⟩
          refine ⟨step_undef 18 64 rfl rfl (fun _ _ h => h) (fun _ => rfl), ?_⟩
          refine ⟨step_undef 18 64 rfl rfl (fun _ _ h => h) (fun _ => rfl), ?_⟩
          refine ⟨step_undef 18 64 rfl rfl (fun _ _ h => h) (fun _ => rfl), ?_⟩
          refine ⟨step_undef 18 64 rfl rfl (fun _ _ h => h) (fun _ => rfl), ?_⟩
          refine ⟨step_undef 18 64 rfl rfl (fun _ _ h => h) (fun _ => rfl), ?_⟩
          refine ⟨step_no 8 54 rfl rfl (fun _ _ h => h) (fun _ => rfl), ?_⟩
          refine ⟨step_yes 5 51 rfl rfl (fun _ _ h => h) (fun aF wF hs hb => ?_), ?_⟩
          · obtain ⟨x0, x1, -⟩ := hs
            have e0 : aF.eval (.tmp 54) = .bool false := x0
            have e1 : aF.eval (.tmp 74) = undef := x1
            refine opC_value (v := .bool false) ?_ ⟨rfl, below_same wF⟩
            have t0 := ev_of e0
            have t1 := ev_of e1
            simp [execOp, go_sem, t0, t1]
          refine ⟨step_free rfl (fun aF wF hs hb => ?_), ?_⟩
          · obtain ⟨x0, x1, -⟩ := hs
            have e0 : aF.eval (.tmp 51) = .bool false := x0
            have e1 : aF.eval (.tmp 75) = .bool false := x1
            refine opC_value (v := .bool false) ?_ ⟨rfl, below_same wF⟩
            have t0 := ev_of e0
            have t1 := ev_of e1
            simp [execOp, go_sem, t0, t1]
          exact trivial
        · intro f w6 hf hb6
          have h76 : f 30 = .bool false := hf 30 76 rfl
          have HG6 := Lib.hid (HGa.out.below hb6 HGa.out.lt)
          have HT6 := Lib.hid (HTa.out.below hb6 HTa.out.lt)
          have HB6 := Lib.hid (HBa.out.trans (hb6.mono HBa.out.size))
          simp only [putF, Act.put, List.setIfInBounds_toArray, List.set_cons_zero, List.set_cons_succ]
          rw [h76]
          clear hf h76 hb6 L0 L5 HGk HTk HBk HP HN HGa HTa HBa hXS
          go_wp2_with fail
          go_roundw
          case rel => exact ⟨1, by omega, by go_num, HG6, HT6, HB6⟩
          case measure => simp [intOf]; omega
      · obtain ⟨j, rfl⟩ : ∃ j, k = j + 1 := ⟨k - 1, by omega⟩
        obtain ⟨hX1, hY1, hjM⟩ := HP.out j rfl
        obtain ⟨X1, e1⟩ : ∃ X1, D j = X1 := ⟨_, rfl⟩
        obtain ⟨Y1, e2⟩ : ∃ Y1, Q j = Y1 := ⟨_, rfl⟩
        rw [e1] at hX1
        rw [e2] at hY1
        have L1 : ∀ W', Below W.heap.size W W' → (Instr.loadAt 22 (.pointer (some ⟨z, 1, none⟩))).run Tryz.prog W' = .ok (.int .i64 Y) W' := fun W' hb => by
          have c0 := (HN.out.below hb HN.out.lt).cell 1
          simp at c0
          go_simp
        have LX : ∀ W', Below W.heap.size W W' → (Instr.loadAt 26 (.pointer (some ⟨g, j * 2, none⟩))).run Tryz.prog W' = .ok (.int .i32 X1) W' := fun W' hb => by
          have c0 : _ = some (Value.int .i32 (D j)) := ((HGa.out.below hb HGa.out.lt).cell (j * 2)).trans (pairA_at (fun k => (D k, Q k)) hjM).1
          rw [e1] at c0
          go_simp
        have LY : ∀ W', Below W.heap.size W W' → (Instr.loadAt 22 (.pointer (some ⟨g, j * 2 + 1, none⟩))).run Tryz.prog W' = .ok (.int .i64 Y1) W' := fun W' hb => by
          have c0 : _ = some (Value.int .i64 (Q j)) := ((HGa.out.below hb HGa.out.lt).cell (j * 2 + 1)).trans (pairA_at (fun k => (D k, Q k)) hjM).2
          rw [e2] at c0
          go_simp
        have hj480 : j < 480 := by have := HM.out; omega
        have hjw : IntKind.i64.wrap (j : Int) = (j : Int) := by rw [IntKind.wrap_i64]; omega
        clear e1 e2
        refine wp_region_flow [some 46, some 47, some 48, some 49, some 50, some 51, some 52, some 53, some 54, some 55, some 56, some 57, some 58, some 59, some 60, some 61, some 62, some 63, some 64, some 65, some 66, some 67, some 68, some 69, some 70, some 71, some 72, some 73, some 74, some 75, some 76] (fun i => ([.is (.pointer (some ⟨z, 0, none⟩)), .is (.int .i32 X), .is (.pointer (some ⟨b, 5, none⟩)), .is (.int .i32 S), .is (.bool false), .is (.bool false), .is (.int .i64 ((j + 1 : Nat) : Int)), .is (.bool true), .is (.bool true), .is (.pointer (some ⟨z, 0, none⟩)), .is (.int .i32 X), .is (.slice (some ⟨g, 0, none⟩) M M), .is (.int .i64 ((j + 1 : Nat) : Int)), .is (.int .i64 (j : Int)), .is (.pointer (some ⟨g, j * 2, none⟩)), .is (.pointer (some ⟨g, j * 2, none⟩)), .is (.int .i32 X1), .is (.bool false), .is (.bool false), .is (.pointer (some ⟨z, 1, none⟩)), .is (.int .i64 Y), .is (.slice (some ⟨g, 0, none⟩) M M), .is (.int .i64 ((j + 1 : Nat) : Int)), .is (.int .i64 (j : Int)), .is (.pointer (some ⟨g, j * 2, none⟩)), .is (.pointer (some ⟨g, j * 2 + 1, none⟩)), .is (.int .i64 Y1), .is (.bool false), .is (.bool false), .is (.bool false), .is (.bool false)] : List Flw).getD i .any) (by kernel_rfl) (by kernel_rfl) rfl ?_ ?_
        · clear HGk HTk HBk HP HGa HTa HBa HN
          refine ⟨step_free rfl (fun aF wF hs hb => ?_), ?_⟩
          · obtain ⟨x0, -⟩ := hs
            have e0 : aF.eval (.tmp 10) = .pointer (some ⟨z, 0, none⟩) := x0
            refine opC_value (v := .pointer (some ⟨z, 0, none⟩)) ?_ ⟨rfl, below_same wF⟩
            have t0 := ev_of e0
            simp [execOp, go_sem, t0]
          refine ⟨step_free rfl (fun aF wF hs hb => ?_), ?_⟩
          · obtain ⟨x0, -⟩ := hs
            have e0 : aF.eval (.tmp 46) = .pointer (some ⟨z, 0, none⟩) := x0
            exact opC_load e0 (L0 wF hb) ⟨rfl, below_same wF⟩
          refine ⟨step_free rfl (fun aF wF hs hb => ?_), ?_⟩
          · obtain ⟨x0, -⟩ := hs
            have e0 : aF.eval (.tmp 2) = .pointer (some ⟨b, 0, none⟩) := x0
            refine opC_value (v := .pointer (some ⟨b, 5, none⟩)) ?_ ⟨rfl, below_same wF⟩
            have t0 := ev_of e0
            simp [execOp, go_sem, t0]
          refine ⟨step_free rfl (fun aF wF hs hb => ?_), ?_⟩
          · obtain ⟨x0, -⟩ := hs
            have e0 : aF.eval (.tmp 48) = .pointer (some ⟨b, 5, none⟩) := x0
            exact opC_load e0 (L5 wF hb) ⟨rfl, below_same wF⟩
          refine ⟨step_free rfl (fun aF wF hs hb => ?_), ?_⟩
          · obtain ⟨x0, x1, -⟩ := hs
            have e0 : aF.eval (.tmp 47) = .int .i32 X := x0
            have e1 : aF.eval (.tmp 49) = .int .i32 S := x1
            refine opC_value (v := .bool false) ?_ ⟨rfl, below_same wF⟩
            have t0 := ev_of e0
            have t1 := ev_of e1
            simp [execOp, go_sem, t0, t1, hXS]
          refine ⟨step_free rfl (fun aF wF hs hb => ?_), ?_⟩
          · obtain ⟨x0, -⟩ := hs
            have e0 : aF.eval (.tmp 50) = .bool false := x0
            exact opC_move e0 ⟨rfl, below_same wF⟩
          refine ⟨step_yes 5 51 rfl rfl (fun _ _ h => h) (fun aF wF hs hb => ?_), ?_⟩
          · obtain ⟨x0, -⟩ := hs
            have e0 : aF.eval (.tmp 9) = .int .i64 ((j + 1 : Nat) : Int) := x0
            exact opC_move e0 ⟨rfl, below_same wF⟩
          refine ⟨step_yes 5 51 rfl rfl (fun _ _ h => h) (fun aF wF hs hb => ?_), ?_⟩
          · obtain ⟨x0, -⟩ := hs
            have e0 : aF.eval (.tmp 52) = .int .i64 ((j + 1 : Nat) : Int) := x0
            refine opC_value (v := .bool true) ?_ ⟨rfl, below_same wF⟩
            have t0 := ev_of e0
            simp [execOp, go_sem, t0]
          refine ⟨step_yes 5 51 rfl rfl (fun _ _ h => h) (fun aF wF hs hb => ?_), ?_⟩
          · obtain ⟨x0, -⟩ := hs
            have e0 : aF.eval (.tmp 53) = .bool true := x0
            exact opC_move e0 ⟨rfl, below_same wF⟩
          refine ⟨step_yes 8 54 rfl rfl (fun _ _ h => h) (fun aF wF hs hb => ?_), ?_⟩
          · obtain ⟨x0, -⟩ := hs
            have e0 : aF.eval (.tmp 10) = .pointer (some ⟨z, 0, none⟩) := x0
            refine opC_value (v := .pointer (some ⟨z, 0, none⟩)) ?_ ⟨rfl, below_same wF⟩
            have t0 := ev_of e0
            simp [execOp, go_sem, t0]
          refine ⟨step_yes 8 54 rfl rfl (fun _ _ h => h) (fun aF wF hs hb => ?_), ?_⟩
          · obtain ⟨x0, -⟩ := hs
            have e0 : aF.eval (.tmp 55) = .pointer (some ⟨z, 0, none⟩) := x0
            exact opC_load e0 (L0 wF hb) ⟨rfl, below_same wF⟩
          refine ⟨step_yes 8 54 rfl rfl (fun _ _ h => h) (fun aF wF hs hb => ?_), ?_⟩
          · obtain ⟨x0, -⟩ := hs
            have e0 : aF.eval (.tmp 7) = .slice (some ⟨g, 0, none⟩) M M := x0
            exact opC_move e0 ⟨rfl, below_same wF⟩
          refine ⟨step_yes 8 54 rfl rfl (fun _ _ h => h) (fun aF wF hs hb => ?_), ?_⟩
          · obtain ⟨x0, -⟩ := hs
            have e0 : aF.eval (.tmp 9) = .int .i64 ((j + 1 : Nat) : Int) := x0
            exact opC_move e0 ⟨rfl, below_same wF⟩
          refine ⟨step_yes 8 54 rfl rfl (fun _ _ h => h) (fun aF wF hs hb => ?_), ?_⟩
          · obtain ⟨x0, -⟩ := hs
            have e0 : aF.eval (.tmp 58) = .int .i64 ((j + 1 : Nat) : Int) := x0
            refine opC_value (v := .int .i64 (j : Int)) ?_ ⟨rfl, below_same wF⟩
            have t0 := ev_of e0
            simp [execOp, go_sem, t0, hjw]
          refine ⟨step_yes 8 54 rfl rfl (fun _ _ h => h) (fun aF wF hs hb => ?_), ?_⟩
          · obtain ⟨x0, x1, -⟩ := hs
            have e0 : aF.eval (.tmp 57) = .slice (some ⟨g, 0, none⟩) M M := x0
            have e1 : aF.eval (.tmp 59) = .int .i64 (j : Int) := x1
            refine opC_value (v := .pointer (some ⟨g, j * 2, none⟩)) ?_ ⟨rfl, below_same wF⟩
            have t0 := ev_of e0
            have t1 := ev_of e1
            simp [execOp, go_sem, t0, t1]
            exact fun hx => absurd hx (by omega)
          refine ⟨step_yes 8 54 rfl rfl (fun _ _ h => h) (fun aF wF hs hb => ?_), ?_⟩
          · obtain ⟨x0, -⟩ := hs
            have e0 : aF.eval (.tmp 60) = .pointer (some ⟨g, j * 2, none⟩) := x0
            refine opC_value (v := .pointer (some ⟨g, j * 2, none⟩)) ?_ ⟨rfl, below_same wF⟩
            have t0 := ev_of e0
            simp [execOp, go_sem, t0]
          refine ⟨step_yes 8 54 rfl rfl (fun _ _ h => h) (fun aF wF hs hb => ?_), ?_⟩
          · obtain ⟨x0, -⟩ := hs
            have e0 : aF.eval (.tmp 61) = .pointer (some ⟨g, j * 2, none⟩) := x0
            exact opC_load e0 (LX wF hb) ⟨rfl, below_same wF⟩
          refine ⟨step_yes 8 54 rfl rfl (fun _ _ h => h) (fun aF wF hs hb => ?_), ?_⟩
          · obtain ⟨x0, x1, -⟩ := hs
            have e0 : aF.eval (.tmp 56) = .int .i32 X := x0
            have e1 : aF.eval (.tmp 62) = .int .i32 X1 := x1
            refine opC_value (v := .bool false) ?_ ⟨rfl, below_same wF⟩
            have t0 := ev_of e0
            have t1 := ev_of e1
            simp [execOp, go_sem, t0, t1, hX1]
          refine ⟨step_yes 8 54 rfl rfl (fun _ _ h => h) (fun aF wF hs hb => ?_), ?_⟩
          · obtain ⟨x0, -⟩ := hs
            have e0 : aF.eval (.tmp 63) = .bool false := x0
            exact opC_move e0 ⟨rfl, below_same wF⟩
          refine ⟨step_yes 18 64 rfl rfl (fun _ _ h => h) (fun aF wF hs hb => ?_), ?_⟩
          · obtain ⟨x0, -⟩ := hs
            have e0 : aF.eval (.tmp 10) = .pointer (some ⟨z, 0, none⟩) := x0
            refine opC_value (v := .pointer (some ⟨z, 1, none⟩)) ?_ ⟨rfl, below_same wF⟩
            have t0 := ev_of e0
            simp [execOp, go_sem, t0]
          refine ⟨step_yes 18 64 rfl rfl (fun _ _ h => h) (fun aF wF hs hb => ?_), ?_⟩
          · obtain ⟨x0, -⟩ := hs
            have e0 : aF.eval (.tmp 65) = .pointer (some ⟨z, 1, none⟩) := x0
            exact opC_load e0 (L1 wF hb) ⟨rfl, below_same wF⟩
          refine ⟨step_yes 18 64 rfl rfl (fun _ _ h => h) (fun aF wF hs hb => ?_), ?_⟩
          · obtain ⟨x0, -⟩ := hs
            have e0 : aF.eval (.tmp 7) = .slice (some ⟨g, 0, none⟩) M M := x0
            exact opC_move e0 ⟨rfl, below_same wF⟩
          refine ⟨step_yes 18 64 rfl rfl (fun _ _ h => h) (fun aF wF hs hb => ?_), ?_⟩
          · obtain ⟨x0, -⟩ := hs
            have e0 : aF.eval (.tmp 9) = .int .i64 ((j + 1 : Nat) : Int) := x0
            exact opC_move e0 ⟨rfl, below_same wF⟩
          refine ⟨step_yes 18 64 rfl rfl (fun _ _ h => h) (fun aF wF hs hb => ?_), ?_⟩
          · obtain ⟨x0, -⟩ := hs
            have e0 : aF.eval (.tmp 68) = .int .i64 ((j + 1 : Nat) : Int) := x0
            refine opC_value (v := .int .i64 (j : Int)) ?_ ⟨rfl, below_same wF⟩
            have t0 := ev_of e0
            simp [execOp, go_sem, t0, hjw]
          refine ⟨step_yes 18 64 rfl rfl (fun _ _ h => h) (fun aF wF hs hb => ?_), ?_⟩
          · obtain ⟨x0, x1, -⟩ := hs
            have e0 : aF.eval (.tmp 67) = .slice (some ⟨g, 0, none⟩) M M := x0
            have e1 : aF.eval (.tmp 69) = .int .i64 (j : Int) := x1
            refine opC_value (v := .pointer (some ⟨g, j * 2, none⟩)) ?_ ⟨rfl, below_same wF⟩
            have t0 := ev_of e0
            have t1 := ev_of e1
            simp [execOp, go_sem, t0, t1]
            exact fun hx => absurd hx (by omega)
          refine ⟨step_yes 18 64 rfl rfl (fun _ _ h => h) (fun aF wF hs hb => ?_), ?_⟩
          · obtain ⟨x0, -⟩ := hs
            have e0 : aF.eval (.tmp 70) = .pointer (some ⟨g, j * 2, none⟩) := x0
            refine opC_value (v := .pointer (some ⟨g, j * 2 + 1, none⟩)) ?_ ⟨rfl, below_same wF⟩
            have t0 := ev_of e0
            simp [execOp, go_sem, t0]
          refine ⟨step_yes 18 64 rfl rfl (fun _ _ h => h) (fun aF wF hs hb => ?_), ?_⟩
          · obtain ⟨x0, -⟩ := hs
            have e0 : aF.eval (.tmp 71) = .pointer (some ⟨g, j * 2 + 1, none⟩) := x0
            exact opC_load e0 (LY wF hb) ⟨rfl, below_same wF⟩
          refine ⟨step_yes 18 64 rfl rfl (fun _ _ h => h) (fun aF wF hs hb => ?_), ?_⟩
          · obtain ⟨x0, x1, -⟩ := hs
            have e0 : aF.eval (.tmp 66) = .int .i64 Y := x0
            have e1 : aF.eval (.tmp 72) = .int .i64 Y1 := x1
            refine opC_value (v := .bool false) ?_ ⟨rfl, below_same wF⟩
            have t0 := ev_of e0
            have t1 := ev_of e1
            simp [execOp, go_sem, t0, t1, hY1]
          refine ⟨step_yes 8 54 rfl rfl (fun _ _ h => h) (fun aF wF hs hb => ?_), ?_⟩
          · obtain ⟨x0, x1, -⟩ := hs
            have e0 : aF.eval (.tmp 64) = .bool false := x0
            have e1 : aF.eval (.tmp 73) = .bool false := x1
            refine opC_value (v := .bool false) ?_ ⟨rfl, below_same wF⟩
            have t0 := ev_of e0
            have t1 := ev_of e1
            simp [execOp, go_sem, t0, t1]
          refine ⟨step_yes 5 51 rfl rfl (fun _ _ h => h) (fun aF wF hs hb => ?_), ?_⟩
          · obtain ⟨x0, x1, -⟩ := hs
            have e0 : aF.eval (.tmp 54) = .bool true := x0
            have e1 : aF.eval (.tmp 74) = .bool false := x1
            refine opC_value (v := .bool false) ?_ ⟨rfl, below_same wF⟩
            have t0 := ev_of e0
            have t1 := ev_of e1
            simp [execOp, go_sem, t0, t1]
          refine ⟨step_free rfl (fun aF wF hs hb => ?_), ?_⟩
          · obtain ⟨x0, x1, -⟩ := hs
            have e0 : aF.eval (.tmp 51) = .bool false := x0
            have e1 : aF.eval (.tmp 75) = .bool false := x1
            refine opC_value (v := .bool false) ?_ ⟨rfl, below_same wF⟩
            have t0 := ev_of e0
            have t1 := ev_of e1
            simp [execOp, go_sem, t0, t1]
          exact trivial
        · intro f w6 hf hb6
          have h76 : f 30 = .bool false := hf 30 76 rfl
          have HG6 := Lib.hid (HGa.out.below hb6 HGa.out.lt)
          have HT6 := Lib.hid (HTa.out.below hb6 HTa.out.lt)
          have HB6 := Lib.hid (HBa.out.trans (hb6.mono HBa.out.size))
          simp only [putF, Act.put, List.setIfInBounds_toArray, List.set_cons_zero, List.set_cons_succ]
          rw [h76]
          clear hf h76 hb6 L0 L5 L1 LX LY HGk HTk HBk HP HN HGa HTa HBa hXS hX1 hY1 hjw
          go_wp2_with fail
          go_roundw
          case rel => exact ⟨j + 1 + 1, by omega, by go_num, HG6, HT6, HB6⟩
          case measure => simp [intOf]; omega
    · have hkM : k = M := by omega
      obtain ⟨N, rfl⟩ : ∃ N, M = N + 1 := ⟨M - 1, by have := HM.out; omega⟩
      subst hkM
      have hq := HQ2.out
      rw [show N + 1 - 1 = N from rfl] at hq
      obtain ⟨Y, hY⟩ : ∃ Y, Q N = Y := ⟨_, rfl⟩
      rw [hY] at hq
      have hN480 : N < 480 := by have := HM.out; omega
      have hnw : IntKind.i64.wrap (N : Int) = (N : Int) := by rw [IntKind.wrap_i64]; omega
      have hPY : (P : Int) ≤ Y := hq
      go_wp2_with fail
      have LY : ∀ W', Below wr.heap.size wr W' → (Instr.loadAt 22 (.pointer (some ⟨g, N * 2 + 1, none⟩))).run Tryz.prog W' = .ok (.int .i64 Y) W' := fun W' hb => by
        have c0 : _ = some (Value.int .i64 (Q N)) := ((HGk.out.below hb HGk.out.lt).cell (N * 2 + 1)).trans (pairA_at (fun k => (D k, Q k)) (Nat.lt_succ_self N)).2
        rw [hY] at c0
        go_simp
      have LP : ∀ W', Below wr.heap.size wr W' → (Instr.loadAt 22 (.pointer (some ⟨b, 1, none⟩))).run Tryz.prog W' = .ok (.int .i64 (P : Int)) W' := fun W' hb => by
        have c0 := (blk8 (HTk.out.below hb HTk.out.lt)).2.1
        go_simp
      refine wp_region_flow [some 78, some 79, some 80, some 81, some 82, some 83, some 84, some 85, some 86, some 87, some 4] (fun i => ([.is (.slice (some ⟨g, 0, none⟩) (N + 1) (N + 1)), .is (.slice (some ⟨g, 0, none⟩) (N + 1) (N + 1)), .is (.int .i64 ((N + 1 : Nat) : Int)), .is (.int .i64 (N : Int)), .is (.pointer (some ⟨g, N * 2, none⟩)), .is (.pointer (some ⟨g, N * 2 + 1, none⟩)), .is (.int .i64 Y), .is (.pointer (some ⟨b, 1, none⟩)), .is (.int .i64 (P : Int)), .is (.bool true), .is (.bool true)] : List Flw).getD i .any) (by kernel_rfl) (by kernel_rfl) rfl ?_ ?_
      · clear HGk HTk HBk hY
        refine ⟨step_free rfl (fun aF wF hs hb => ?_), ?_⟩
        · obtain ⟨x0, -⟩ := hs
          have e0 : aF.eval (.tmp 7) = .slice (some ⟨g, 0, none⟩) (N + 1) (N + 1) := x0
          exact opC_move e0 ⟨rfl, below_same wF⟩
        refine ⟨step_free rfl (fun aF wF hs hb => ?_), ?_⟩
        · obtain ⟨x0, -⟩ := hs
          have e0 : aF.eval (.tmp 7) = .slice (some ⟨g, 0, none⟩) (N + 1) (N + 1) := x0
          exact opC_move e0 ⟨rfl, below_same wF⟩
        refine ⟨step_free rfl (fun aF wF hs hb => ?_), ?_⟩
        · obtain ⟨x0, -⟩ := hs
          have e0 : aF.eval (.tmp 79) = .slice (some ⟨g, 0, none⟩) (N + 1) (N + 1) := x0
          refine opC_value (v := .int .i64 ((N + 1 : Nat) : Int)) ?_ ⟨rfl, below_same wF⟩
          have t0 := ev_of e0
          simp [execOp, go_sem, t0]
        refine ⟨step_free rfl (fun aF wF hs hb => ?_), ?_⟩
        · obtain ⟨x0, -⟩ := hs
          have e0 : aF.eval (.tmp 80) = .int .i64 ((N + 1 : Nat) : Int) := x0
          refine opC_value (v := .int .i64 (N : Int)) ?_ ⟨rfl, below_same wF⟩
          have t0 := ev_of e0
          simp [execOp, go_sem, t0, hnw]
        refine ⟨step_free rfl (fun aF wF hs hb => ?_), ?_⟩
        · obtain ⟨x0, x1, -⟩ := hs
          have e0 : aF.eval (.tmp 78) = .slice (some ⟨g, 0, none⟩) (N + 1) (N + 1) := x0
          have e1 : aF.eval (.tmp 81) = .int .i64 (N : Int) := x1
          refine opC_value (v := .pointer (some ⟨g, N * 2, none⟩)) ?_ ⟨rfl, below_same wF⟩
          have t0 := ev_of e0
          have t1 := ev_of e1
          simp [execOp, go_sem, t0, t1]
          exact fun hx => absurd hx (by omega)
        refine ⟨step_free rfl (fun aF wF hs hb => ?_), ?_⟩
        · obtain ⟨x0, -⟩ := hs
          have e0 : aF.eval (.tmp 82) = .pointer (some ⟨g, N * 2, none⟩) := x0
          refine opC_value (v := .pointer (some ⟨g, N * 2 + 1, none⟩)) ?_ ⟨rfl, below_same wF⟩
          have t0 := ev_of e0
          simp [execOp, go_sem, t0]
        refine ⟨step_free rfl (fun aF wF hs hb => ?_), ?_⟩
        · obtain ⟨x0, -⟩ := hs
          have e0 : aF.eval (.tmp 83) = .pointer (some ⟨g, N * 2 + 1, none⟩) := x0
          exact opC_load e0 (LY wF hb) ⟨rfl, below_same wF⟩
        refine ⟨step_free rfl (fun aF wF hs hb => ?_), ?_⟩
        · obtain ⟨x0, -⟩ := hs
          have e0 : aF.eval (.tmp 2) = .pointer (some ⟨b, 0, none⟩) := x0
          refine opC_value (v := .pointer (some ⟨b, 1, none⟩)) ?_ ⟨rfl, below_same wF⟩
          have t0 := ev_of e0
          simp [execOp, go_sem, t0]
        refine ⟨step_free rfl (fun aF wF hs hb => ?_), ?_⟩
        · obtain ⟨x0, -⟩ := hs
          have e0 : aF.eval (.tmp 85) = .pointer (some ⟨b, 1, none⟩) := x0
          exact opC_load e0 (LP wF hb) ⟨rfl, below_same wF⟩
        refine ⟨step_free rfl (fun aF wF hs hb => ?_), ?_⟩
        · obtain ⟨x0, x1, -⟩ := hs
          have e0 : aF.eval (.tmp 84) = .int .i64 Y := x0
          have e1 : aF.eval (.tmp 86) = .int .i64 (P : Int) := x1
          refine opC_value (v := .bool true) ?_ ⟨rfl, below_same wF⟩
          have t0 := ev_of e0
          have t1 := ev_of e1
          simp [execOp, go_sem, t0, t1, hPY]
        refine ⟨step_free rfl (fun aF wF hs hb => ?_), ?_⟩
        · obtain ⟨x0, -⟩ := hs
          have e0 : aF.eval (.tmp 87) = .bool true := x0
          exact opC_assign e0 ⟨rfl, below_same wF⟩
        exact trivial
      · intro f w6 hf hb6
        have h4 : f 10 = .bool true := hf 10 4 rfl
        have HB6 := Lib.hid (HBk.out.trans (hb6.mono HBk.out.size))
        have HBE2 := HBE
        simp only [putF, Act.put, List.setIfInBounds_toArray, List.set_cons_zero, List.set_cons_succ]
        rw [h4]
        clear hf h4 hb6 LY LP hq hY hPY hnw
        go_wp2_with fail
        go_ret
        exact ⟨rfl, HB6.out⟩
end Go.Proofs.YtpnoecjpplaicaaGreatDoor
