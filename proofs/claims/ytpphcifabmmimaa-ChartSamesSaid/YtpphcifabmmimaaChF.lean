/-
  The document's Make. Conditions: the rows are there.
-/
import Derived.Test.YtpphcifabmmimaaChE
namespace Go.Proofs.Ytpphcifabmmimaa
open Go.ChangeShapes Go.WideShapes Go.ChangeAt Go.RowKit

def RMakePost (y : Ky) (L : List (Nat × Int)) (w : World) (e : Ending) (w' : World) : Prop :=
  ∃ (A : Option Addr) (c : Nat), e = .returned (entV y (.slice A (mkL L).length c)) ∧ OwnS legT 67 w' w.heap.size (.slice A (mkL L).length c) (mkL L).length (mkL L) ∧ Below w.heap.size w w'
set_option maxRecDepth 100000 in
theorem fin_rmake {w W : World} {T : Array Value} {y : Ky} {L : List (Nat × Int)} {A : Option Addr} {c g : Nat} (hB : Below w.heap.size w W) (hQ : Blk W g 36 (entC y (.slice A (mkL L).length c)))
    (hO : OwnS legT 67 W w.heap.size (.slice A (mkL L).length c) (mkL L).length (mkL L)) (h2 : T[4]? = some (.pointer (some ⟨g, 0, none⟩))) :
    bodyPost Try.prog Try.f10 (RMakePost y L w) Exit.ret { tmps := T, defers := [] } W := by
  unfold entC at hQ
  have c0 := hQ.cell 0
  have c1 := hQ.cell 1
  have c2 := hQ.cell 2
  have c3 := hQ.cell 3
  have c4 := hQ.cell 4
  simp at c0 c1 c2 c3 c4
  refine bodyPost_ret (v := entV y (.slice A (mkL L).length c)) ?_ rfl ⟨A, c, rfl, hO, hB⟩
  unfold entV entC
  simp [results, Try.results10, go_sem, h2, c0, c1, c2, c3, c4, Result.andThen]
/-- All accounts up to n are within. -/
def okTo (L : List (Nat × Int)) (n : Nat) : Prop := ∀ a, a < n → accs L a ≠ none
theorem rkeyNe : (33 : TypeId) ≠ 67 := by decide
theorem okTo_all {L : List (Nat × Int)} (h : okTo L 256) (hI : ∀ u ∈ L, LegIn u) : okL L := fun a e => by
  rcases Nat.lt_or_ge a 256 with ha | ha
  · exact h a ha e
  · have : hasA L a = false := by
      rw [Bool.eq_false_iff]
      intro hh
      simp only [hasA, List.any_eq_true, beq_iff_eq] at hh
      obtain ⟨g, hg, rfl⟩ := hh
      have := (hI g hg).1
      omega
    rw [accs_no this] at e
    cases e
def rowsTo (L : List (Nat × Int)) (n : Nat) : List (Nat × Int) := (keysTo L n).map (rowA L)
theorem rowsTo_yes {L : List (Nat × Int)} {n : Nat} (h : hasA L n = true) : rowsTo L (n + 1) = rowsTo L n ++ [(n, sumA L n)] := by unfold rowsTo; rw [keysTo_succ, if_pos h]; simp [rowA]
theorem rowsTo_no {L : List (Nat × Int)} {n : Nat} (h : hasA L n = false) : rowsTo L (n + 1) = rowsTo L n := by unfold rowsTo; rw [keysTo_succ, if_neg (by rw [h]; decide)]
theorem rowsTo_len (L : List (Nat × Int)) (n : Nat) : (rowsTo L n).length ≤ n := by unfold rowsTo; rw [List.length_map]; exact keysTo_len L n
theorem accs_step {L : List (Nat × Int)} {k a : Nat} (h : k < L.length) : accs (L.take (k + 1)) a = if (L[k]).1 = a then addO (accs (L.take k) a) (L[k]).2 else accs (L.take k) a := by
  rw [List.take_succ_eq_append_getElem h, accs_snoc]
  rfl
theorem has_step {L : List (Nat × Int)} {k a : Nat} (h : k < L.length) : hasA (L.take (k + 1)) a = (hasA (L.take k) a || (L[k]).1 == a) := by
  rw [List.take_succ_eq_append_getElem h, hasA_snoc]
set_option maxRecDepth 100000 in
set_option maxHeartbeats 4000000 in
theorem RMake_any (y : Ky) (A : Option Addr) (n c B : Nat) (L : List (Nat × Int)) (w : World) (hR : Rs legT w B A L) (hn : L.length = n) (hm : n ≤ 1000) (hB : B ≤ w.heap.size) (hI : ∀ u ∈ L, LegIn u) :
    Calls Try.prog 10 #[y.v, .slice A n c] w (RMakePost y L w) := by
  subst hn
  have HR := Lib.hid hR
  have HI := Lib.hid hI
  clear hR hI
  unfold Ky.v
  have HQ0 := Lib.hid ((Blk.new w 33 #[.int .u32 (y.a : Int), .int .i32 y.d, .int .u8 (y.k : Int), .int .u32 (y.s : Int)]).alloc (.cells #[.int .u32 0, .int .i32 0, .int .u8 0, .int .u32 0, .slice Option.none 0 0] 36))
  have HE0 : Hid (Blk ((w.alloc (.cells #[.int .u32 (y.a : Int), .int .i32 y.d, .int .u8 (y.k : Int), .int .u32 (y.s : Int)] 33)).alloc (.cells #[.int .u32 0, .int .i32 0, .int .u8 0, .int .u32 0, .slice Option.none 0 0] 36)) (w.heap.size + 1) 36 #[.int .u32 0, .int .i32 0, .int .u8 0, .int .u32 0, .slice Option.none 0 0]) := Lib.hid (by
    have h := Blk.new (w.alloc (.cells #[.int .u32 (y.a : Int), .int .i32 y.d, .int .u8 (y.k : Int), .int .u32 (y.s : Int)] 33)) 36 #[.int .u32 0, .int .i32 0, .int .u8 0, .int .u32 0, .slice Option.none 0 0]
    rw [show (w.alloc (.cells #[.int .u32 (y.a : Int), .int .i32 y.d, .int .u8 (y.k : Int), .int .u32 (y.s : Int)] 33)).heap.size = w.heap.size + 1 by simp] at h
    exact h)
  have HB0 := Lib.hid ((b_alloc w (.cells #[.int .u32 (y.a : Int), .int .i32 y.d, .int .u8 (y.k : Int), .int .u32 (y.s : Int)] 33)).alloc (by simp) (.cells #[.int .u32 0, .int .i32 0, .int .u8 0, .int .u32 0, .slice Option.none 0 0] 36))
  have hz0 : ((w.alloc (.cells #[.int .u32 (y.a : Int), .int .i32 y.d, .int .u8 (y.k : Int), .int .u32 (y.s : Int)] 33)).alloc (.cells #[.int .u32 0, .int .i32 0, .int .u8 0, .int .u32 0, .slice Option.none 0 0] 36)).heap.size = w.heap.size + 2 := by simp
  obtain ⟨W0, hW0⟩ : ∃ W, (w.alloc (.cells #[.int .u32 (y.a : Int), .int .i32 y.d, .int .u8 (y.k : Int), .int .u32 (y.s : Int)] 33)).alloc (.cells #[.int .u32 0, .int .i32 0, .int .u8 0, .int .u32 0, .slice Option.none 0 0] 36) = W := ⟨_, rfl⟩
  rw [hW0] at HQ0 HE0 HB0 hz0
  have HQ2 := Lib.hid (HQ0.out.alloc (.cells #[.int .u32 (y.a : Int), .int .i32 y.d, .int .u8 (y.k : Int), .int .u32 (y.s : Int), .slice Option.none 0 0] 36))
  have HE2 := Lib.hid (HE0.out.alloc (.cells #[.int .u32 (y.a : Int), .int .i32 y.d, .int .u8 (y.k : Int), .int .u32 (y.s : Int), .slice Option.none 0 0] 36))
  have HN2 := Lib.hid (Blk.new W0 36 #[.int .u32 (y.a : Int), .int .i32 y.d, .int .u8 (y.k : Int), .int .u32 (y.s : Int), .slice Option.none 0 0])
  rw [hz0] at HN2
  have HB2 := Lib.hid (HB0.out.alloc HB0.out.size (.cells #[.int .u32 (y.a : Int), .int .i32 y.d, .int .u8 (y.k : Int), .int .u32 (y.s : Int), .slice Option.none 0 0] 36))
  rw [← hW0] at HQ2 HE2 HN2 HB2
  clear hW0 hz0 HQ0 HE0 HB0
  go_enter Try.func10, Try.ntmps10
  go_wp2_with fail
  go_loopw [6, 7, 8, 10, 11, 12, 19, 20, 21] (fun i _ _ _ _ _ _ _ _ wr => ∃ (a : Nat) (v : Value), a ≤ 256 ∧ i = .int .i64 a ∧ Hid (okTo L a) ∧ Hid (Blk wr w.heap.size 33 #[.int .u32 (y.a : Int), .int .i32 y.d, .int .u8 (y.k : Int), .int .u32 (y.s : Int)]) ∧ Hid (Blk wr (w.heap.size + 2) 36 #[.int .u32 (y.a : Int), .int .i32 y.d, .int .u8 (y.k : Int), .int .u32 (y.s : Int), v]) ∧ Hid (Blk wr (w.heap.size + 1) 36 #[.int .u32 0, .int .i32 0, .int .u8 0, .int .u32 0, .slice Option.none 0 0]) ∧ Hid (OwnS legT 67 wr w.heap.size v (rowsTo L a).length (rowsTo L a)) ∧ Hid (Below w.heap.size w wr)) (fun i _ _ _ _ _ _ _ _ _ => 256 - (intOf i).toNat)
  case atStart => exact ⟨0, .slice Option.none 0 0, Nat.zero_le _, rfl, Lib.hid (fun a h => absurd h (by omega)), HQ2, HN2, HE2, Lib.hid (OwnS.nil_ _ _ _), HB2⟩
  case round =>
    obtain ⟨a, v, ha, rfl, HOK, HQ, HN, HE, HO, HBL⟩ := hrel
    by_cases hlt : a < 256
    · have hltI : (a : Int) < 256 := by omega
      go_wp2_with fail
      obtain ⟨w5, hw5⟩ : ∃ W, wr = W := ⟨_, rfl⟩
      rw [hw5] at HQ HN HE HO HBL ⊢
      clear hw5
      go_loopw [7, 8, 10, 11, 12, 21] (fun s q _ _ _ i wr => ∃ (k : Nat) (z : Int), k ≤ L.length ∧ i = .int .i64 k ∧ s = .int .i64 z ∧ q = .bool (hasA (L.take k) a) ∧ Hid (accs (L.take k) a = some z) ∧ Hid (Below w5.heap.size w5 wr)) (fun _ _ _ _ _ i _ => L.length - (intOf i).toNat)
      case atStart => exact ⟨0, 0, Nat.zero_le _, rfl, rfl, rfl, Lib.hid rfl, Lib.hid (Below.refl _ _)⟩
      case round =>
        obtain ⟨k, z, hk, rfl, rfl, rfl, HAC, HW⟩ := hrel
        by_cases hkl : k < L.length
        · obtain ⟨b1, o1, rfl, hb1, d0, d1⟩ := HR.out.leg hkl
          have hbw := HBL.out.trans (HW.out.mono HBL.out.size)
          have d0 := (hbw.cell (p := ⟨b1, o1 + k * 2, none⟩) (by exact Nat.lt_of_lt_of_le hb1 hB)).trans d0
          have d1 := (hbw.cell (p := ⟨b1, o1 + k * 2 + 1, none⟩) (by exact Nat.lt_of_lt_of_le hb1 hB)).trans d1
          obtain ⟨x0, y0, y1⟩ := HI.out _ (List.getElem_mem hkl)
          have hs := accs_step (a := a) hkl
          have hh := has_step (a := a) hkl
          obtain ⟨x, hx⟩ : ∃ x, (L[k]).1 = x := ⟨_, rfl⟩
          obtain ⟨u, hu⟩ : ∃ u, (L[k]).2 = u := ⟨_, rfl⟩
          rw [hx] at d0 x0 hs hh
          rw [hu] at d1 y0 y1 hs
          have HS := Lib.hid hs
          have HH := Lib.hid hh
          have hz := accs_fit HAC.out
          have HW4 := Lib.hid (HW.out.alloc HW.out.size (.cells #[.int .u8 (x : Int), .int .i64 u] 67))
          clear hx hu hs hh hbw
          by_cases hxa : x = a
          · obtain rfl : a = x := hxa.symm
            have hC := fun W => RefCAdd_any z u hz ⟨y0, y1⟩ W
            cases hf : fitB (z + u)
            · have hnf : ¬ Fits (z + u) := fun h => by
                rw [fitB_iff.2 h] at hf
                cases hf
              simp only [if_neg hnf] at hC
              have HNO := Lib.hid (show mkL L = [] from mkL_no (fun h => okL_take h (k + 1) a (by
                rw [HS.out, if_pos rfl, HAC.out]
                unfold addO
                simp only
                rw [if_neg (by rw [hf]; decide)])))
              have HQ9 := Lib.hid ((HQ.out.below HW.out HQ.out.lt).alloc (.cells #[.int .u8 (a : Int), .int .i64 u] 67))
              have HE9 := Lib.hid ((HE.out.below HW.out HE.out.lt).alloc (.cells #[.int .u8 (a : Int), .int .i64 u] 67))
              have HB9 := Lib.hid (HBL.out.trans (HW4.out.mono HBL.out.size))
              clear hf hnf
              go_wp2_with fail
              refine (hC _).mono ?_
              rintro e w2 ⟨rfl, rfl⟩
              clear hC d0 d1
              have r0 := HQ9.out.cell 0
              have r1 := HQ9.out.cell 1
              have r2 := HQ9.out.cell 2
              have r3 := HQ9.out.cell 3
              simp at r0 r1 r2 r3
              have e0 := HE9.out.cell 0
              have e1 := HE9.out.cell 1
              have e2 := HE9.out.cell 2
              have e3 := HE9.out.cell 3
              have e4 := HE9.out.cell 4
              have ef0 := HE9.out.frozen 0
              have ef1 := HE9.out.frozen 1
              have ef2 := HE9.out.frozen 2
              have ef3 := HE9.out.frozen 3
              have ef4 := HE9.out.frozen 4
              simp at e0 e1 e2 e3 e4 ef0 ef1 ef2 ef3 ef4
              go_wp2_with fail
              refine fin_rmake (A := Option.none) (c := 0) (g := w.heap.size + 1) ?_ ?_ ?_ rfl
              · exact below_set5c HB9.out (by omega) _ _ _ _ _
              · rw [HNO.out]
                exact set5c HE9.out _ _ _ _ _
              · rw [HNO.out]
                exact OwnS.nil_ _ _ _
            · have hfi := fitB_iff.1 hf
              have hnf : Fits (z + u) := hfi
              simp only [if_pos hnf] at hC
              have HAC2 := Lib.hid (show accs (L.take (k + 1)) a = some (z + u) by
                rw [HS.out, if_pos rfl, HAC.out]
                unfold addO
                simp only
                rw [if_pos hf])
              have HH2 := Lib.hid (show hasA (L.take (k + 1)) a = true by rw [HH.out]; simp)
              clear hf hnf hfi
              go_wp2_with fail
              refine (hC _).mono ?_
              rintro e w2 ⟨rfl, rfl⟩
              clear hC d0 d1
              go_wp2_with fail
              go_roundw
              case rel => exact ⟨k + 1, z + u, by omega, by go_num, rfl, by rw [HH2.out], HAC2, HW4⟩
              case measure => simp [intOf]; omega
          · have HAC2 := Lib.hid (show accs (L.take (k + 1)) a = some z by rw [HS.out, if_neg hxa, HAC.out])
            have HH2 := Lib.hid (show hasA (L.take (k + 1)) a = hasA (L.take k) a by rw [HH.out]; simp [hxa])
            have hxb : ((x : Int) == (a : Int)) = false := by rw [beq_eq_false_iff_ne]; omega
            have hxc : ¬ x = a := hxa
            go_wp2_with fail
            go_roundw
            case rel => exact ⟨k + 1, z, by omega, by go_num, rfl, by rw [HH2.out], HAC2, HW4⟩
            case measure => simp [intOf]; omega
        · obtain rfl : k = L.length := by omega
          rw [List.take_length] at HAC
          rw [List.take_length]
          have HQ9 := Lib.hid (HQ.out.below HW.out HQ.out.lt)
          have HE9 := Lib.hid (HE.out.below HW.out HE.out.lt)
          have HN9 := Lib.hid (HN.out.below HW.out HN.out.lt)
          have HO9 := Lib.hid (HO.out.below HW.out)
          have HB9 := Lib.hid (HBL.out.trans (HW.out.mono HBL.out.size))
          have HOK9 := Lib.hid (show okTo L (a + 1) from fun b hb => by
            rcases Nat.lt_or_ge b a with h | h
            · exact HOK.out b h
            · obtain rfl : b = a := by omega
              rw [HAC.out]
              exact fun h => by cases h)
          have hsum : sumA L a = z := by unfold sumA; rw [HAC.out]; rfl
          have HSU := Lib.hid hsum
          have hlen := rowsTo_len L a
          have n4 := HN9.out.cell 4
          simp at n4
          clear hsum HQ HE HN HO
          cases hha : hasA L a
          · have HT := Lib.hid (rowsTo_no hha)
            clear hha hlen
            go_wp2_with fail
            go_roundw
            case rel => exact ⟨a + 1, v, by omega, by go_num, HOK9, HQ9, HN9, HE9, Lib.hid (by rw [HT.out]; exact HO9.out), HB9⟩
            case measure => simp [intOf]; omega
          · have HT := Lib.hid (show rowsTo L a ++ [(a, z)] = rowsTo L (a + 1) by rw [rowsTo_yes hha, HSU.out])
            obtain ⟨ln, hln⟩ : ∃ ln, (rowsTo L a).length = ln := ⟨_, rfl⟩
            rw [hln] at hlen HO9
            have HLN := Lib.hid (show (rowsTo L (a + 1)).length = ln + 1 by rw [← HT.out, List.length_append, hln]; rfl)
            have hwa : IntKind.u8.wrap (a : Int) = (a : Int) := by rw [show IntKind.u8.wrap (a : Int) = (a : Int) % 256 by simp [IntKind.wrap, IntKind.signed, IntKind.bits]]; omega
            have HO4 := Lib.hid (HO9.out.alloc (.cells #[.int .u8 (a : Int), .int .i64 z] 67))
            have HN4 := Lib.hid (HN9.out.alloc (.cells #[.int .u8 (a : Int), .int .i64 z] 67))
            have HE4 := Lib.hid (HE9.out.alloc (.cells #[.int .u8 (a : Int), .int .i64 z] 67))
            have HQ4 := Lib.hid (HQ9.out.alloc (.cells #[.int .u8 (a : Int), .int .i64 z] 67))
            have HB4 := Lib.hid (HB9.out.alloc HB9.out.size (.cells #[.int .u8 (a : Int), .int .i64 z] 67))
            have HL := Lib.hid (Rs.block (T := legT) (u := (a, z)) (Blk.new wr 67 #[.int .u8 (a : Int), .int .i64 z]))
            have hsz := HB9.out.size
            clear hha hln HO9 HN9 HE9 HQ9 HB9
            go_wp2_with (with_reducible refine wpList_appendS (o := ⟨some 51, _, _, _, _, _⟩) rfl rowRLeg (.tmp 45) (.tmp 50) rfl w.heap.size _ ln (rowsTo L a) ?h1 HO4.out _ (some ⟨wr.heap.size, 0, none⟩) 1 1 [(a, z)] ?h2 HL.out rfl ?h3 ?h4 ?h5 ?_)
            try (case h1 => rfl)
            try (case h2 => rfl)
            try (case h3 => unfold maxLen; omega)
            try (case h4 => omega)
            try (case h5 => first | omega | (simp; omega))
            intro v5 w6 ho5 hg5 _ _
            rw [HT.out] at ho5
            obtain ⟨_, A5, c5, rfl, _, _, _⟩ := ho5.form (by decide)
            have hN5 := HN4.out.grown hg5 (fun e => HO4.out.ne_blk HN4.out rentNe e.symm)
            have hE5 := HE4.out.grown hg5 (fun e => HO4.out.ne_blk HE4.out rentNe e.symm)
            have hQ5 := HQ4.out.grown hg5 (fun e => HO4.out.ne_blk HQ4.out rkeyNe e.symm)
            have hb5 := HB4.out.grown hg5 HB4.out.size (fun j hj => (HO4.out.lt j hj).1)
            have hne5 := ho5.ne_blk hN5 rentNe
            have HO5 := Lib.hid (ho5.grown (grown_set w6 (w.heap.size + 2) 4 (.slice A5 (ln + 1) c5)) (.inl (fun e => hne5 e.symm)))
            have HN5 := Lib.hid (hN5.set_ 4 (.slice A5 (ln + 1) c5))
            have HE5 := Lib.hid (hE5.grown (grown_set w6 (w.heap.size + 2) 4 (.slice A5 (ln + 1) c5)) (fun e => by injection e with e; omega))
            have HQ5 := Lib.hid (hQ5.grown (grown_set w6 (w.heap.size + 2) 4 (.slice A5 (ln + 1) c5)) (fun e => by injection e with e; omega))
            have HB5 := Lib.hid (hb5.setCell (by show w.heap.size ≤ w.heap.size + 2; omega) (.slice A5 (ln + 1) c5) (p := ⟨w.heap.size + 2, 4, none⟩))
            have p4 := hN5.cell 4
            have q4 := hN5.frozen 4
            simp at p4 q4
            clear ho5 hg5 hN5 hE5 hQ5 hb5 hne5 n4 HO4 HN4 HE4 HQ4 HB4 HL
            go_wp2_with fail
            go_roundw
            case rel => exact ⟨a + 1, _, by omega, by go_num, HOK9, HQ5, HN5, HE5, Lib.hid (by rw [HLN.out]; exact HO5.out), HB5⟩
            case measure => simp [intOf]; omega
    · obtain rfl : a = 256 := by omega
      have HOKL := Lib.hid (mkL_ok (okTo_all HOK.out HI.out))
      have HKK := Lib.hid (show rowsTo L 256 = mkL L by rw [HOKL.out]; rfl)
      rw [HKK.out] at HO
      obtain ⟨_, A5, c5, rfl, _, _, _⟩ := HO.out.form (by decide)
      have HEE := Lib.hid (HO.out.ne_blk HE.out rentNe)
      have d0 := HN.out.cell 0
      have d1 := HN.out.cell 1
      have d2 := HN.out.cell 2
      have d3 := HN.out.cell 3
      have d4 := HN.out.cell 4
      simp at d0 d1 d2 d3 d4
      have e0 := HE.out.cell 0
      have e1 := HE.out.cell 1
      have e2 := HE.out.cell 2
      have e3 := HE.out.cell 3
      have e4 := HE.out.cell 4
      have ef0 := HE.out.frozen 0
      have ef1 := HE.out.frozen 1
      have ef2 := HE.out.frozen 2
      have ef3 := HE.out.frozen 3
      have ef4 := HE.out.frozen 4
      simp at e0 e1 e2 e3 e4 ef0 ef1 ef2 ef3 ef4
      go_wp2_with fail
      refine fin_rmake (A := A5) (c := c5) (g := w.heap.size + 1) ?_ ?_ ?_ rfl
      · exact below_set5c HBL.out (by omega) _ _ _ _ _
      · exact set5c HE.out _ _ _ _ _
      · exact OwnS.set5 HO.out HEE.out _ _ _ _ _
end Go.Proofs.Ytpphcifabmmimaa
