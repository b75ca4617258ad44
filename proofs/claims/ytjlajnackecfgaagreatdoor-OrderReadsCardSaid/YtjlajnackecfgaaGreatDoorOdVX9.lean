/-
The document's words of an order. Conditions: an order that may be.
-/
import Derived.Test.YtjlajnackecfgaaGreatDoorOdPX9
import Derived.Test.YtjlajnackecfgaaGreatDoorOdTX9
import Derived.Test.YtjlajnackecfgaaGreatDoorTrmYX9
namespace Go.Proofs.YtjlajnackecfgaaGreatDoor
open Go.ChangeShapes Go.WideShapes Go.ChangeAt Go.RowKit Go.Shelf
theorem rowRT : RowT Tryz.prog 40 8 := ⟨_, Tryz.underlying40, rfl, by kernel_rfl⟩
def cellF (_ i : Nat) (cs : Array Value) : Flw := ⟨fun v W => ∃ g, v = .pointer (some ⟨g, i, none⟩) ∧ Blk W g 9 cs, fun ⟨g, h1, h2⟩ hb => ⟨g, h1, h2.below hb h2.lt⟩⟩
theorem cRTextO {t : Trm} (h : t.Right) (w : World) : Calls Tryz.prog 49 #[t.r] w (Ret (.string t.text) w) := by
  obtain ⟨K, P, R, B, M, S, F, G⟩ := t
  have hM := h.M
  have hG := h.G
  dsimp only at hM hG
  obtain ⟨M, rfl⟩ : ∃ n : Nat, M = n := ⟨M.toNat, by omega⟩
  obtain ⟨G, rfl⟩ : ∃ n : Nat, G = n := ⟨G.toNat, by omega⟩
  have h9 := RText_nat h w
  have e : Trm.text ⟨K, P, R, B, (M : Int), S, F, (G : Int)⟩ = sps [nameB K, textC P, dec R, spanB (B : Int), dec M, dayText S, textC F, dec G] := by
    unfold Trm.text Trm.l
    dsimp only
    rw [itS_dec, itS_dec]
  rw [e]
  exact h9
theorem rdec (n : Nat) (hn : n < 4294967296) (W : World) : Calls Tryz.prog 48 #[.int .u64 (n : Int)] W (Ret (.string (dec n)) W) := (RDec_any n (by omega) W).mono fun e w' ⟨h1, h2⟩ => ⟨h1, by rw [← h2]; exact Below.refl _ _⟩
theorem sps3 (b0 s1 s2 : ByteArray) : (((b0 ++ (⟨#[32]⟩ : ByteArray)) ++ s1) ++ (⟨#[32]⟩ : ByteArray)) ++ s2 = sps [b0, s1, s2] := by
  apply bytes_inj
  simp [sps, Lib.join_cons, Lib.joinTail, ByteArray.data_append]
theorem sps4 (b0 s1 s2 s3 : ByteArray) : (((((b0 ++ (⟨#[32]⟩ : ByteArray)) ++ s1) ++ (⟨#[32]⟩ : ByteArray)) ++ s2) ++ (⟨#[32]⟩ : ByteArray)) ++ s3 = sps [b0, s1, s2, s3] := by
  apply bytes_inj
  simp [sps, Lib.join_cons, Lib.joinTail, ByteArray.data_append]
theorem sps5 (b0 s1 s2 s3 s4 : ByteArray) : ((((((b0 ++ (⟨#[32]⟩ : ByteArray)) ++ s1) ++ (⟨#[32]⟩ : ByteArray)) ++ s2) ++ (⟨#[32]⟩ : ByteArray)) ++ s3) ++ ((⟨#[32]⟩ : ByteArray) ++ s4) = sps [b0, s1, s2, s3, s4] := by
  apply bytes_inj
  simp [sps, Lib.join_cons, Lib.joinTail, ByteArray.data_append]
set_option maxRecDepth 100000 in
set_option maxHeartbeats 4000000 in
theorem RT20_1 {a K R B s ek : Nat} {P M S F G d m : Int} {tx : ByteArray} (htx : tx.size ≤ 300) (cT : ∀ W, Calls Tryz.prog 49 #[.agg #[.int .u8 (K : Int), .int .i64 P, .int .u32 (R : Int), .int .u8 (B : Int), .int .i64 M, .int .i64 S, .int .i64 F, .int .i64 G]] W (Ret (.string tx) W)) (ha : a < 4294967296) (hs : s < 4294967296) (w : World) : Calls Tryz.prog 21 #[.agg #[.int .u8 1, .int .u32 (a : Int), .int .u8 (K : Int), .int .i64 P, .int .u32 (R : Int), .int .u8 (B : Int), .int .i64 M, .int .i64 S, .int .i64 F, .int .i64 G, .int .u32 (s : Int), .int .i64 d, .int .u8 (ek : Int), .int .i64 m]] w (Ret (.string (sps [boardS, dec a, tx])) w) := by
  have HQ0 := Lib.hid (Blk.new w 44 #[.int .u8 1, .int .u32 (a : Int), .int .u8 (K : Int), .int .i64 P, .int .u32 (R : Int), .int .u8 (B : Int), .int .i64 M, .int .i64 S, .int .i64 F, .int .i64 G, .int .u32 (s : Int), .int .i64 d, .int .u8 (ek : Int), .int .i64 m])
  have HB0 := Lib.hid (b_alloc w (.cells #[.int .u8 1, .int .u32 (a : Int), .int .u8 (K : Int), .int .i64 P, .int .u32 (R : Int), .int .u8 (B : Int), .int .i64 M, .int .i64 S, .int .i64 F, .int .i64 G, .int .u32 (s : Int), .int .i64 d, .int .u8 (ek : Int), .int .i64 m] 44))
  have za : (dec a).size ≤ 30 := by rw [Lib.size_eq]; exact dec_len a (by omega)
  have zb : (dec s).size ≤ 30 := by rw [Lib.size_eq]; exact dec_len s (by omega)
  have wa : IntKind.u64.wrap (a : Int) = (a : Int) := by rw [IntKind.wrap_u64]; omega
  have ws : IntKind.u64.wrap (s : Int) = (s : Int) := by rw [IntKind.wrap_u64]; omega
  have CA := fun W => rdec a ha W
  have CB := fun W => rdec s hs W
  obtain ⟨s1, q1⟩ : ∃ x, dec a = x := ⟨_, rfl⟩
  obtain ⟨s2, q2⟩ : ∃ x, dec s = x := ⟨_, rfl⟩
  rw [q1] at CA za
  rw [q2] at CB zb
  rw [q1]
  obtain ⟨W0, hW⟩ : ∃ W, w.alloc (.cells #[.int .u8 1, .int .u32 (a : Int), .int .u8 (K : Int), .int .i64 P, .int .u32 (R : Int), .int .u8 (B : Int), .int .i64 M, .int .i64 S, .int .i64 F, .int .i64 G, .int .u32 (s : Int), .int .i64 d, .int .u8 (ek : Int), .int .i64 m] 44) = W := ⟨_, rfl⟩
  obtain ⟨b, hb⟩ : ∃ b, w.heap.size = b := ⟨_, rfl⟩
  rw [hW, hb] at HQ0 HB0
  have HW := Lib.hid (And.intro hW hb)
  clear hW hb q1 q2 ha hs
  have LDa : ∀ W, Below W0.heap.size W0 W → (Instr.loadAt 22 (.pointer (some ⟨b, 1, none⟩))).run Tryz.prog W = .ok (.int .u32 (a : Int)) W := fun W hb => by
    obtain ⟨_, c1, -⟩ := blk14 (HQ0.out.below hb HQ0.out.lt)
    go_simp
  have LDs : ∀ W, Below W0.heap.size W0 W → (Instr.loadAt 22 (.pointer (some ⟨b, 10, none⟩))).run Tryz.prog W = .ok (.int .u32 (s : Int)) W := fun W hb => by
    obtain ⟨_, _, _, _, _, _, _, _, _, _, c1, -⟩ := blk14 (HQ0.out.below hb HQ0.out.lt)
    go_simp
  go_enter Tryz.func21, Tryz.ntmps21
  go_upto_region 1 with (fail)
  rw [HW.out.1, HW.out.2]
  refine wp_region_flow [some 6, some 7, some 8, some 9, some 10, some 11, some 12, some 13, some 14, some 3, some 4] (fun i => ([.is (.pointer (some ⟨b, 1, none⟩)), .is (.int .u32 (a : Int)), .is (.int .u64 (a : Int)), .is (.string s1), .is (.pointer (some ⟨b, 10, none⟩)), .is (.pointer (some ⟨b, 10, none⟩)), .is (.int .u32 (s : Int)), .is (.int .u64 (s : Int)), .is (.string s2), .is (.string s1), .is (.string s2)] : List Flw).getD i .any) (by kernel_rfl) (by kernel_rfl) rfl ?_ ?_
  · skip
    refine ⟨step_free rfl (fun aF wF hs hb => ?_), ?_⟩
    · obtain ⟨x0, -⟩ := hs
      have e0 : aF.eval (.tmp 1) = .pointer (some ⟨b, 0, none⟩) := x0
      refine opC_value (v := .pointer (some ⟨b, 1, none⟩)) ?_ ⟨rfl, below_same wF⟩
      have t0 := ev_of e0
      simp [execOp, go_sem, t0]
    refine ⟨step_free rfl (fun aF wF hs hb => ?_), ?_⟩
    · obtain ⟨x0, -⟩ := hs
      have e0 : aF.eval (.tmp 6) = .pointer (some ⟨b, 1, none⟩) := x0
      exact opC_load e0 (LDa wF hb) ⟨rfl, below_same wF⟩
    refine ⟨step_free rfl (fun aF wF hs hb => ?_), ?_⟩
    · obtain ⟨x0, -⟩ := hs
      have e0 : aF.eval (.tmp 7) = .int .u32 (a : Int) := x0
      refine opC_value (v := .int .u64 (a : Int)) ?_ ⟨rfl, below_same wF⟩
      simp [execOp, go_sem, ev_of e0, wa]
    refine ⟨step_free rfl (fun aF wF hs hb => ?_), ?_⟩
    · obtain ⟨x0, -⟩ := hs
      have e0 : aF.eval (.tmp 8) = .int .u64 (a : Int) := x0
      exact opC_call (args := #[.int .u64 (a : Int)]) (enters9 Tryz.func48 (by kernel_rfl) rfl) (by simp [e0]) (CA wF) (fun _ h => ⟨rfl, h⟩)
    refine ⟨step_free rfl (fun aF wF hs hb => ?_), ?_⟩
    · obtain ⟨x0, -⟩ := hs
      have e0 : aF.eval (.tmp 1) = .pointer (some ⟨b, 0, none⟩) := x0
      refine opC_value (v := .pointer (some ⟨b, 10, none⟩)) ?_ ⟨rfl, below_same wF⟩
      have t0 := ev_of e0
      simp [execOp, go_sem, t0]
    refine ⟨step_free rfl (fun aF wF hs hb => ?_), ?_⟩
    · obtain ⟨x0, -⟩ := hs
      have e0 : aF.eval (.tmp 10) = .pointer (some ⟨b, 10, none⟩) := x0
      refine opC_value (v := .pointer (some ⟨b, 10, none⟩)) ?_ ⟨rfl, below_same wF⟩
      have t0 := ev_of e0
      simp [execOp, go_sem, t0]
    refine ⟨step_free rfl (fun aF wF hs hb => ?_), ?_⟩
    · obtain ⟨x0, -⟩ := hs
      have e0 : aF.eval (.tmp 11) = .pointer (some ⟨b, 10, none⟩) := x0
      exact opC_load e0 (LDs wF hb) ⟨rfl, below_same wF⟩
    refine ⟨step_free rfl (fun aF wF hs hb => ?_), ?_⟩
    · obtain ⟨x0, -⟩ := hs
      have e0 : aF.eval (.tmp 12) = .int .u32 (s : Int) := x0
      refine opC_value (v := .int .u64 (s : Int)) ?_ ⟨rfl, below_same wF⟩
      simp [execOp, go_sem, ev_of e0, ws]
    refine ⟨step_free rfl (fun aF wF hs hb => ?_), ?_⟩
    · obtain ⟨x0, -⟩ := hs
      have e0 : aF.eval (.tmp 13) = .int .u64 (s : Int) := x0
      exact opC_call (args := #[.int .u64 (s : Int)]) (enters9 Tryz.func48 (by kernel_rfl) rfl) (by simp [e0]) (CB wF) (fun _ h => ⟨rfl, h⟩)
    refine ⟨step_free rfl (fun aF wF hs hb => ?_), ?_⟩
    · obtain ⟨x0, -⟩ := hs
      have e0 : aF.eval (.tmp 9) = .string s1 := x0
      exact opC_assign e0 ⟨rfl, below_same wF⟩
    refine ⟨step_free rfl (fun aF wF hs hb => ?_), ?_⟩
    · obtain ⟨x0, -⟩ := hs
      have e0 : aF.eval (.tmp 14) = .string s2 := x0
      exact opC_assign e0 ⟨rfl, below_same wF⟩
    exact trivial
  intro fv w6 hf hb6
  have p3 : fv 9 = .string s1 := hf 9 3 rfl
  have p4 : fv 10 = .string s2 := hf 10 4 rfl
  have HQ6 := Lib.hid (HQ0.out.below hb6 HQ0.out.lt)
  have HB6 := Lib.hid (HB0.out.trans (hb6.mono (by have := HQ0.out.lt; omega)))
  simp only [putF, Act.put, List.setIfInBounds_toArray, List.set_cons_zero, List.set_cons_succ]
  rw [p3, p4]
  clear p3 p4 hf hb6 LDa LDs CA CB HQ0 HB0 wa ws
  obtain ⟨z0, z1, z2, z3, z4, z5, z6, z7, z8, z9, z10, z11, z12, z13⟩ := blk14 HQ6.out
  have y1 : ((⟨#[98, 111, 97, 114, 100, 32]⟩ : ByteArray) ++ s1).size ≤ 60 := by rw [ByteArray.size_append]; have e : (⟨#[98, 111, 97, 114, 100, 32]⟩ : ByteArray).size = 6 := rfl; omega
  obtain ⟨u1, h1⟩ : ∃ x, (⟨#[98, 111, 97, 114, 100, 32]⟩ : ByteArray) ++ s1 = x := ⟨_, rfl⟩
  rw [h1] at y1
  have y2 : (u1 ++ (⟨#[32]⟩ : ByteArray)).size ≤ 61 := by rw [ByteArray.size_append]; have e : (⟨#[32]⟩ : ByteArray).size = 1 := rfl; omega
  obtain ⟨u2, h2⟩ : ∃ x, u1 ++ (⟨#[32]⟩ : ByteArray) = x := ⟨_, rfl⟩
  rw [h2] at y2
  have y3 : (u2 ++ tx).size ≤ 400 := by rw [ByteArray.size_append]; omega
  have x8 : (⟨#[98, 111, 97, 114, 100, 32]⟩ : ByteArray).size = 6 := rfl
  have x1 : (⟨#[32]⟩ : ByteArray).size = 1 := rfl
  have hR : u2 ++ tx = sps [boardS, s1, tx] := by
    rw [← sps3, ← h2, ← h1]
    rfl
  have HR := Lib.hid hR
  clear hR
  go_wp2_with fail
  refine (cT _).mono ?_
  rintro e w7 ⟨rfl, hb⟩
  have HB7 := Lib.hid (HB6.out.trans (hb.mono (by have := HB6.out.size; have := HW.out.2; omega)))
  clear hb cT
  go_wp2_with fail
  go_ret
  exact ⟨by rw [← HR.out]; first | rfl | simp, by rw [HW.out.2]; exact HB7.out⟩
set_option maxRecDepth 100000 in
set_option maxHeartbeats 4000000 in
theorem RT20_3 {a K R B s ek : Nat} {P M S F G d m : Int} (ha : a < 4294967296) (hs : s < 4294967296) (w : World) : Calls Tryz.prog 21 #[.agg #[.int .u8 3, .int .u32 (a : Int), .int .u8 (K : Int), .int .i64 P, .int .u32 (R : Int), .int .u8 (B : Int), .int .i64 M, .int .i64 S, .int .i64 F, .int .i64 G, .int .u32 (s : Int), .int .i64 d, .int .u8 (ek : Int), .int .i64 m]] w (Ret (.string (sps [revS, dec a, dec s])) w) := by
  have HQ0 := Lib.hid (Blk.new w 44 #[.int .u8 3, .int .u32 (a : Int), .int .u8 (K : Int), .int .i64 P, .int .u32 (R : Int), .int .u8 (B : Int), .int .i64 M, .int .i64 S, .int .i64 F, .int .i64 G, .int .u32 (s : Int), .int .i64 d, .int .u8 (ek : Int), .int .i64 m])
  have HB0 := Lib.hid (b_alloc w (.cells #[.int .u8 3, .int .u32 (a : Int), .int .u8 (K : Int), .int .i64 P, .int .u32 (R : Int), .int .u8 (B : Int), .int .i64 M, .int .i64 S, .int .i64 F, .int .i64 G, .int .u32 (s : Int), .int .i64 d, .int .u8 (ek : Int), .int .i64 m] 44))
  have za : (dec a).size ≤ 30 := by rw [Lib.size_eq]; exact dec_len a (by omega)
  have zb : (dec s).size ≤ 30 := by rw [Lib.size_eq]; exact dec_len s (by omega)
  have wa : IntKind.u64.wrap (a : Int) = (a : Int) := by rw [IntKind.wrap_u64]; omega
  have ws : IntKind.u64.wrap (s : Int) = (s : Int) := by rw [IntKind.wrap_u64]; omega
  have CA := fun W => rdec a ha W
  have CB := fun W => rdec s hs W
  obtain ⟨s1, q1⟩ : ∃ x, dec a = x := ⟨_, rfl⟩
  obtain ⟨s2, q2⟩ : ∃ x, dec s = x := ⟨_, rfl⟩
  rw [q1] at CA za
  rw [q2] at CB zb
  rw [q1, q2]
  obtain ⟨W0, hW⟩ : ∃ W, w.alloc (.cells #[.int .u8 3, .int .u32 (a : Int), .int .u8 (K : Int), .int .i64 P, .int .u32 (R : Int), .int .u8 (B : Int), .int .i64 M, .int .i64 S, .int .i64 F, .int .i64 G, .int .u32 (s : Int), .int .i64 d, .int .u8 (ek : Int), .int .i64 m] 44) = W := ⟨_, rfl⟩
  obtain ⟨b, hb⟩ : ∃ b, w.heap.size = b := ⟨_, rfl⟩
  rw [hW, hb] at HQ0 HB0
  have HW := Lib.hid (And.intro hW hb)
  clear hW hb q1 q2 ha hs
  have LDa : ∀ W, Below W0.heap.size W0 W → (Instr.loadAt 22 (.pointer (some ⟨b, 1, none⟩))).run Tryz.prog W = .ok (.int .u32 (a : Int)) W := fun W hb => by
    obtain ⟨_, c1, -⟩ := blk14 (HQ0.out.below hb HQ0.out.lt)
    go_simp
  have LDs : ∀ W, Below W0.heap.size W0 W → (Instr.loadAt 22 (.pointer (some ⟨b, 10, none⟩))).run Tryz.prog W = .ok (.int .u32 (s : Int)) W := fun W hb => by
    obtain ⟨_, _, _, _, _, _, _, _, _, _, c1, -⟩ := blk14 (HQ0.out.below hb HQ0.out.lt)
    go_simp
  go_enter Tryz.func21, Tryz.ntmps21
  go_upto_region 1 with (fail)
  rw [HW.out.1, HW.out.2]
  refine wp_region_flow [some 6, some 7, some 8, some 9, some 10, some 11, some 12, some 13, some 14, some 3, some 4] (fun i => ([.is (.pointer (some ⟨b, 1, none⟩)), .is (.int .u32 (a : Int)), .is (.int .u64 (a : Int)), .is (.string s1), .is (.pointer (some ⟨b, 10, none⟩)), .is (.pointer (some ⟨b, 10, none⟩)), .is (.int .u32 (s : Int)), .is (.int .u64 (s : Int)), .is (.string s2), .is (.string s1), .is (.string s2)] : List Flw).getD i .any) (by kernel_rfl) (by kernel_rfl) rfl ?_ ?_
  · skip
    refine ⟨step_free rfl (fun aF wF hs hb => ?_), ?_⟩
    · obtain ⟨x0, -⟩ := hs
      have e0 : aF.eval (.tmp 1) = .pointer (some ⟨b, 0, none⟩) := x0
      refine opC_value (v := .pointer (some ⟨b, 1, none⟩)) ?_ ⟨rfl, below_same wF⟩
      have t0 := ev_of e0
      simp [execOp, go_sem, t0]
    refine ⟨step_free rfl (fun aF wF hs hb => ?_), ?_⟩
    · obtain ⟨x0, -⟩ := hs
      have e0 : aF.eval (.tmp 6) = .pointer (some ⟨b, 1, none⟩) := x0
      exact opC_load e0 (LDa wF hb) ⟨rfl, below_same wF⟩
    refine ⟨step_free rfl (fun aF wF hs hb => ?_), ?_⟩
    · obtain ⟨x0, -⟩ := hs
      have e0 : aF.eval (.tmp 7) = .int .u32 (a : Int) := x0
      refine opC_value (v := .int .u64 (a : Int)) ?_ ⟨rfl, below_same wF⟩
      simp [execOp, go_sem, ev_of e0, wa]
    refine ⟨step_free rfl (fun aF wF hs hb => ?_), ?_⟩
    · obtain ⟨x0, -⟩ := hs
      have e0 : aF.eval (.tmp 8) = .int .u64 (a : Int) := x0
      exact opC_call (args := #[.int .u64 (a : Int)]) (enters9 Tryz.func48 (by kernel_rfl) rfl) (by simp [e0]) (CA wF) (fun _ h => ⟨rfl, h⟩)
    refine ⟨step_free rfl (fun aF wF hs hb => ?_), ?_⟩
    · obtain ⟨x0, -⟩ := hs
      have e0 : aF.eval (.tmp 1) = .pointer (some ⟨b, 0, none⟩) := x0
      refine opC_value (v := .pointer (some ⟨b, 10, none⟩)) ?_ ⟨rfl, below_same wF⟩
      have t0 := ev_of e0
      simp [execOp, go_sem, t0]
    refine ⟨step_free rfl (fun aF wF hs hb => ?_), ?_⟩
    · obtain ⟨x0, -⟩ := hs
      have e0 : aF.eval (.tmp 10) = .pointer (some ⟨b, 10, none⟩) := x0
      refine opC_value (v := .pointer (some ⟨b, 10, none⟩)) ?_ ⟨rfl, below_same wF⟩
      have t0 := ev_of e0
      simp [execOp, go_sem, t0]
    refine ⟨step_free rfl (fun aF wF hs hb => ?_), ?_⟩
    · obtain ⟨x0, -⟩ := hs
      have e0 : aF.eval (.tmp 11) = .pointer (some ⟨b, 10, none⟩) := x0
      exact opC_load e0 (LDs wF hb) ⟨rfl, below_same wF⟩
    refine ⟨step_free rfl (fun aF wF hs hb => ?_), ?_⟩
    · obtain ⟨x0, -⟩ := hs
      have e0 : aF.eval (.tmp 12) = .int .u32 (s : Int) := x0
      refine opC_value (v := .int .u64 (s : Int)) ?_ ⟨rfl, below_same wF⟩
      simp [execOp, go_sem, ev_of e0, ws]
    refine ⟨step_free rfl (fun aF wF hs hb => ?_), ?_⟩
    · obtain ⟨x0, -⟩ := hs
      have e0 : aF.eval (.tmp 13) = .int .u64 (s : Int) := x0
      exact opC_call (args := #[.int .u64 (s : Int)]) (enters9 Tryz.func48 (by kernel_rfl) rfl) (by simp [e0]) (CB wF) (fun _ h => ⟨rfl, h⟩)
    refine ⟨step_free rfl (fun aF wF hs hb => ?_), ?_⟩
    · obtain ⟨x0, -⟩ := hs
      have e0 : aF.eval (.tmp 9) = .string s1 := x0
      exact opC_assign e0 ⟨rfl, below_same wF⟩
    refine ⟨step_free rfl (fun aF wF hs hb => ?_), ?_⟩
    · obtain ⟨x0, -⟩ := hs
      have e0 : aF.eval (.tmp 14) = .string s2 := x0
      exact opC_assign e0 ⟨rfl, below_same wF⟩
    exact trivial
  intro fv w6 hf hb6
  have p3 : fv 9 = .string s1 := hf 9 3 rfl
  have p4 : fv 10 = .string s2 := hf 10 4 rfl
  have HQ6 := Lib.hid (HQ0.out.below hb6 HQ0.out.lt)
  have HB6 := Lib.hid (HB0.out.trans (hb6.mono (by have := HQ0.out.lt; omega)))
  simp only [putF, Act.put, List.setIfInBounds_toArray, List.set_cons_zero, List.set_cons_succ]
  rw [p3, p4]
  clear p3 p4 hf hb6 LDa LDs CA CB HQ0 HB0 wa ws
  obtain ⟨z0, z1, z2, z3, z4, z5, z6, z7, z8, z9, z10, z11, z12, z13⟩ := blk14 HQ6.out
  have y1 : ((⟨#[114, 101, 118, 101, 114, 115, 101, 32]⟩ : ByteArray) ++ s1).size ≤ 60 := by rw [ByteArray.size_append]; have e : (⟨#[114, 101, 118, 101, 114, 115, 101, 32]⟩ : ByteArray).size = 8 := rfl; omega
  obtain ⟨u1, h1⟩ : ∃ x, (⟨#[114, 101, 118, 101, 114, 115, 101, 32]⟩ : ByteArray) ++ s1 = x := ⟨_, rfl⟩
  rw [h1] at y1
  have y2 : (u1 ++ (⟨#[32]⟩ : ByteArray)).size ≤ 61 := by rw [ByteArray.size_append]; have e : (⟨#[32]⟩ : ByteArray).size = 1 := rfl; omega
  obtain ⟨u2, h2⟩ : ∃ x, u1 ++ (⟨#[32]⟩ : ByteArray) = x := ⟨_, rfl⟩
  rw [h2] at y2
  have y3 : (u2 ++ s2).size ≤ 120 := by rw [ByteArray.size_append]; omega
  have x8 : (⟨#[114, 101, 118, 101, 114, 115, 101, 32]⟩ : ByteArray).size = 8 := rfl
  have x1 : (⟨#[32]⟩ : ByteArray).size = 1 := rfl
  have hR : u2 ++ s2 = sps [revS, s1, s2] := by
    rw [← sps3, ← h2, ← h1]
    rfl
  have HR := Lib.hid hR
  clear hR
  go_wp2_with fail
  go_ret
  exact ⟨by rw [← HR.out]; first | rfl | simp, by rw [HW.out.2]; exact HB6.out⟩
set_option maxRecDepth 100000 in
set_option maxHeartbeats 4000000 in
theorem RT20_4 {a K R B s ek : Nat} {P M S F G d m : Int} (ha : a < 4294967296) (hs : s < 4294967296) (w : World) : Calls Tryz.prog 21 #[.agg #[.int .u8 4, .int .u32 (a : Int), .int .u8 (K : Int), .int .i64 P, .int .u32 (R : Int), .int .u8 (B : Int), .int .i64 M, .int .i64 S, .int .i64 F, .int .i64 G, .int .u32 (s : Int), .int .i64 d, .int .u8 (ek : Int), .int .i64 m]] w (Ret (.string (stepS)) w) := by
  have HQ0 := Lib.hid (Blk.new w 44 #[.int .u8 4, .int .u32 (a : Int), .int .u8 (K : Int), .int .i64 P, .int .u32 (R : Int), .int .u8 (B : Int), .int .i64 M, .int .i64 S, .int .i64 F, .int .i64 G, .int .u32 (s : Int), .int .i64 d, .int .u8 (ek : Int), .int .i64 m])
  have HB0 := Lib.hid (b_alloc w (.cells #[.int .u8 4, .int .u32 (a : Int), .int .u8 (K : Int), .int .i64 P, .int .u32 (R : Int), .int .u8 (B : Int), .int .i64 M, .int .i64 S, .int .i64 F, .int .i64 G, .int .u32 (s : Int), .int .i64 d, .int .u8 (ek : Int), .int .i64 m] 44))
  have za : (dec a).size ≤ 30 := by rw [Lib.size_eq]; exact dec_len a (by omega)
  have zb : (dec s).size ≤ 30 := by rw [Lib.size_eq]; exact dec_len s (by omega)
  have wa : IntKind.u64.wrap (a : Int) = (a : Int) := by rw [IntKind.wrap_u64]; omega
  have ws : IntKind.u64.wrap (s : Int) = (s : Int) := by rw [IntKind.wrap_u64]; omega
  have CA := fun W => rdec a ha W
  have CB := fun W => rdec s hs W
  obtain ⟨s1, q1⟩ : ∃ x, dec a = x := ⟨_, rfl⟩
  obtain ⟨s2, q2⟩ : ∃ x, dec s = x := ⟨_, rfl⟩
  rw [q1] at CA za
  rw [q2] at CB zb
  obtain ⟨W0, hW⟩ : ∃ W, w.alloc (.cells #[.int .u8 4, .int .u32 (a : Int), .int .u8 (K : Int), .int .i64 P, .int .u32 (R : Int), .int .u8 (B : Int), .int .i64 M, .int .i64 S, .int .i64 F, .int .i64 G, .int .u32 (s : Int), .int .i64 d, .int .u8 (ek : Int), .int .i64 m] 44) = W := ⟨_, rfl⟩
  obtain ⟨b, hb⟩ : ∃ b, w.heap.size = b := ⟨_, rfl⟩
  rw [hW, hb] at HQ0 HB0
  have HW := Lib.hid (And.intro hW hb)
  clear hW hb q1 q2 ha hs
  have LDa : ∀ W, Below W0.heap.size W0 W → (Instr.loadAt 22 (.pointer (some ⟨b, 1, none⟩))).run Tryz.prog W = .ok (.int .u32 (a : Int)) W := fun W hb => by
    obtain ⟨_, c1, -⟩ := blk14 (HQ0.out.below hb HQ0.out.lt)
    go_simp
  have LDs : ∀ W, Below W0.heap.size W0 W → (Instr.loadAt 22 (.pointer (some ⟨b, 10, none⟩))).run Tryz.prog W = .ok (.int .u32 (s : Int)) W := fun W hb => by
    obtain ⟨_, _, _, _, _, _, _, _, _, _, c1, -⟩ := blk14 (HQ0.out.below hb HQ0.out.lt)
    go_simp
  go_enter Tryz.func21, Tryz.ntmps21
  go_upto_region 1 with (fail)
  rw [HW.out.1, HW.out.2]
  refine wp_region_flow [some 6, some 7, some 8, some 9, some 10, some 11, some 12, some 13, some 14, some 3, some 4] (fun i => ([.is (.pointer (some ⟨b, 1, none⟩)), .is (.int .u32 (a : Int)), .is (.int .u64 (a : Int)), .is (.string s1), .is (.pointer (some ⟨b, 10, none⟩)), .is (.pointer (some ⟨b, 10, none⟩)), .is (.int .u32 (s : Int)), .is (.int .u64 (s : Int)), .is (.string s2), .is (.string s1), .is (.string s2)] : List Flw).getD i .any) (by kernel_rfl) (by kernel_rfl) rfl ?_ ?_
  · skip
    refine ⟨step_free rfl (fun aF wF hs hb => ?_), ?_⟩
    · obtain ⟨x0, -⟩ := hs
      have e0 : aF.eval (.tmp 1) = .pointer (some ⟨b, 0, none⟩) := x0
      refine opC_value (v := .pointer (some ⟨b, 1, none⟩)) ?_ ⟨rfl, below_same wF⟩
      have t0 := ev_of e0
      simp [execOp, go_sem, t0]
    refine ⟨step_free rfl (fun aF wF hs hb => ?_), ?_⟩
    · obtain ⟨x0, -⟩ := hs
      have e0 : aF.eval (.tmp 6) = .pointer (some ⟨b, 1, none⟩) := x0
      exact opC_load e0 (LDa wF hb) ⟨rfl, below_same wF⟩
    refine ⟨step_free rfl (fun aF wF hs hb => ?_), ?_⟩
    · obtain ⟨x0, -⟩ := hs
      have e0 : aF.eval (.tmp 7) = .int .u32 (a : Int) := x0
      refine opC_value (v := .int .u64 (a : Int)) ?_ ⟨rfl, below_same wF⟩
      simp [execOp, go_sem, ev_of e0, wa]
    refine ⟨step_free rfl (fun aF wF hs hb => ?_), ?_⟩
    · obtain ⟨x0, -⟩ := hs
      have e0 : aF.eval (.tmp 8) = .int .u64 (a : Int) := x0
      exact opC_call (args := #[.int .u64 (a : Int)]) (enters9 Tryz.func48 (by kernel_rfl) rfl) (by simp [e0]) (CA wF) (fun _ h => ⟨rfl, h⟩)
    refine ⟨step_free rfl (fun aF wF hs hb => ?_), ?_⟩
    · obtain ⟨x0, -⟩ := hs
      have e0 : aF.eval (.tmp 1) = .pointer (some ⟨b, 0, none⟩) := x0
      refine opC_value (v := .pointer (some ⟨b, 10, none⟩)) ?_ ⟨rfl, below_same wF⟩
      have t0 := ev_of e0
      simp [execOp, go_sem, t0]
    refine ⟨step_free rfl (fun aF wF hs hb => ?_), ?_⟩
    · obtain ⟨x0, -⟩ := hs
      have e0 : aF.eval (.tmp 10) = .pointer (some ⟨b, 10, none⟩) := x0
      refine opC_value (v := .pointer (some ⟨b, 10, none⟩)) ?_ ⟨rfl, below_same wF⟩
      have t0 := ev_of e0
      simp [execOp, go_sem, t0]
    refine ⟨step_free rfl (fun aF wF hs hb => ?_), ?_⟩
    · obtain ⟨x0, -⟩ := hs
      have e0 : aF.eval (.tmp 11) = .pointer (some ⟨b, 10, none⟩) := x0
      exact opC_load e0 (LDs wF hb) ⟨rfl, below_same wF⟩
    refine ⟨step_free rfl (fun aF wF hs hb => ?_), ?_⟩
    · obtain ⟨x0, -⟩ := hs
      have e0 : aF.eval (.tmp 12) = .int .u32 (s : Int) := x0
      refine opC_value (v := .int .u64 (s : Int)) ?_ ⟨rfl, below_same wF⟩
      simp [execOp, go_sem, ev_of e0, ws]
    refine ⟨step_free rfl (fun aF wF hs hb => ?_), ?_⟩
    · obtain ⟨x0, -⟩ := hs
      have e0 : aF.eval (.tmp 13) = .int .u64 (s : Int) := x0
      exact opC_call (args := #[.int .u64 (s : Int)]) (enters9 Tryz.func48 (by kernel_rfl) rfl) (by simp [e0]) (CB wF) (fun _ h => ⟨rfl, h⟩)
    refine ⟨step_free rfl (fun aF wF hs hb => ?_), ?_⟩
    · obtain ⟨x0, -⟩ := hs
      have e0 : aF.eval (.tmp 9) = .string s1 := x0
      exact opC_assign e0 ⟨rfl, below_same wF⟩
    refine ⟨step_free rfl (fun aF wF hs hb => ?_), ?_⟩
    · obtain ⟨x0, -⟩ := hs
      have e0 : aF.eval (.tmp 14) = .string s2 := x0
      exact opC_assign e0 ⟨rfl, below_same wF⟩
    exact trivial
  intro fv w6 hf hb6
  have p3 : fv 9 = .string s1 := hf 9 3 rfl
  have p4 : fv 10 = .string s2 := hf 10 4 rfl
  have HQ6 := Lib.hid (HQ0.out.below hb6 HQ0.out.lt)
  have HB6 := Lib.hid (HB0.out.trans (hb6.mono (by have := HQ0.out.lt; omega)))
  simp only [putF, Act.put, List.setIfInBounds_toArray, List.set_cons_zero, List.set_cons_succ]
  rw [p3, p4]
  clear p3 p4 hf hb6 LDa LDs CA CB HQ0 HB0 wa ws
  obtain ⟨z0, z1, z2, z3, z4, z5, z6, z7, z8, z9, z10, z11, z12, z13⟩ := blk14 HQ6.out
  go_wp2_with fail
  go_ret
  exact ⟨by first | rfl | simp, by rw [HW.out.2]; exact HB6.out⟩
set_option maxRecDepth 100000 in
set_option maxHeartbeats 4000000 in
theorem RT20_24 {a K R B s : Nat} {P M S F G d m : Int} (hd : 0 ≤ d ∧ d ≤ 3652058) (hm : -9223372036854775808 ≤ m ∧ m ≤ 9223372036854775807) (ha : a < 4294967296) (hs : s < 4294967296) (w : World) : Calls Tryz.prog 21 #[.agg #[.int .u8 2, .int .u32 (a : Int), .int .u8 (K : Int), .int .i64 P, .int .u32 (R : Int), .int .u8 (B : Int), .int .i64 M, .int .i64 S, .int .i64 F, .int .i64 G, .int .u32 (s : Int), .int .i64 d, .int .u8 4, .int .i64 m]] w (Ret (.string (sps [kindS 4, dec a, dec s, dayText d, textC m])) w) := by
  have HQ0 := Lib.hid (Blk.new w 44 #[.int .u8 2, .int .u32 (a : Int), .int .u8 (K : Int), .int .i64 P, .int .u32 (R : Int), .int .u8 (B : Int), .int .i64 M, .int .i64 S, .int .i64 F, .int .i64 G, .int .u32 (s : Int), .int .i64 d, .int .u8 4, .int .i64 m])
  have HB0 := Lib.hid (b_alloc w (.cells #[.int .u8 2, .int .u32 (a : Int), .int .u8 (K : Int), .int .i64 P, .int .u32 (R : Int), .int .u8 (B : Int), .int .i64 M, .int .i64 S, .int .i64 F, .int .i64 G, .int .u32 (s : Int), .int .i64 d, .int .u8 4, .int .i64 m] 44))
  have za : (dec a).size ≤ 30 := by rw [Lib.size_eq]; exact dec_len a (by omega)
  have zb : (dec s).size ≤ 30 := by rw [Lib.size_eq]; exact dec_len s (by omega)
  have wa : IntKind.u64.wrap (a : Int) = (a : Int) := by rw [IntKind.wrap_u64]; omega
  have ws : IntKind.u64.wrap (s : Int) = (s : Int) := by rw [IntKind.wrap_u64]; omega
  have CA := fun W => rdec a ha W
  have CB := fun W => rdec s hs W
  obtain ⟨s1, q1⟩ : ∃ x, dec a = x := ⟨_, rfl⟩
  obtain ⟨s2, q2⟩ : ∃ x, dec s = x := ⟨_, rfl⟩
  rw [q1] at CA za
  rw [q2] at CB zb
  rw [q1, q2]
  obtain ⟨W0, hW⟩ : ∃ W, w.alloc (.cells #[.int .u8 2, .int .u32 (a : Int), .int .u8 (K : Int), .int .i64 P, .int .u32 (R : Int), .int .u8 (B : Int), .int .i64 M, .int .i64 S, .int .i64 F, .int .i64 G, .int .u32 (s : Int), .int .i64 d, .int .u8 4, .int .i64 m] 44) = W := ⟨_, rfl⟩
  obtain ⟨b, hb⟩ : ∃ b, w.heap.size = b := ⟨_, rfl⟩
  rw [hW, hb] at HQ0 HB0
  have HW := Lib.hid (And.intro hW hb)
  clear hW hb q1 q2 ha hs
  have LDa : ∀ W, Below W0.heap.size W0 W → (Instr.loadAt 22 (.pointer (some ⟨b, 1, none⟩))).run Tryz.prog W = .ok (.int .u32 (a : Int)) W := fun W hb => by
    obtain ⟨_, c1, -⟩ := blk14 (HQ0.out.below hb HQ0.out.lt)
    go_simp
  have LDs : ∀ W, Below W0.heap.size W0 W → (Instr.loadAt 22 (.pointer (some ⟨b, 10, none⟩))).run Tryz.prog W = .ok (.int .u32 (s : Int)) W := fun W hb => by
    obtain ⟨_, _, _, _, _, _, _, _, _, _, c1, -⟩ := blk14 (HQ0.out.below hb HQ0.out.lt)
    go_simp
  go_enter Tryz.func21, Tryz.ntmps21
  go_upto_region 1 with (fail)
  rw [HW.out.1, HW.out.2]
  refine wp_region_flow [some 6, some 7, some 8, some 9, some 10, some 11, some 12, some 13, some 14, some 3, some 4] (fun i => ([.is (.pointer (some ⟨b, 1, none⟩)), .is (.int .u32 (a : Int)), .is (.int .u64 (a : Int)), .is (.string s1), .is (.pointer (some ⟨b, 10, none⟩)), .is (.pointer (some ⟨b, 10, none⟩)), .is (.int .u32 (s : Int)), .is (.int .u64 (s : Int)), .is (.string s2), .is (.string s1), .is (.string s2)] : List Flw).getD i .any) (by kernel_rfl) (by kernel_rfl) rfl ?_ ?_
  · skip
    refine ⟨step_free rfl (fun aF wF hs hb => ?_), ?_⟩
    · obtain ⟨x0, -⟩ := hs
      have e0 : aF.eval (.tmp 1) = .pointer (some ⟨b, 0, none⟩) := x0
      refine opC_value (v := .pointer (some ⟨b, 1, none⟩)) ?_ ⟨rfl, below_same wF⟩
      have t0 := ev_of e0
      simp [execOp, go_sem, t0]
    refine ⟨step_free rfl (fun aF wF hs hb => ?_), ?_⟩
    · obtain ⟨x0, -⟩ := hs
      have e0 : aF.eval (.tmp 6) = .pointer (some ⟨b, 1, none⟩) := x0
      exact opC_load e0 (LDa wF hb) ⟨rfl, below_same wF⟩
    refine ⟨step_free rfl (fun aF wF hs hb => ?_), ?_⟩
    · obtain ⟨x0, -⟩ := hs
      have e0 : aF.eval (.tmp 7) = .int .u32 (a : Int) := x0
      refine opC_value (v := .int .u64 (a : Int)) ?_ ⟨rfl, below_same wF⟩
      simp [execOp, go_sem, ev_of e0, wa]
    refine ⟨step_free rfl (fun aF wF hs hb => ?_), ?_⟩
    · obtain ⟨x0, -⟩ := hs
      have e0 : aF.eval (.tmp 8) = .int .u64 (a : Int) := x0
      exact opC_call (args := #[.int .u64 (a : Int)]) (enters9 Tryz.func48 (by kernel_rfl) rfl) (by simp [e0]) (CA wF) (fun _ h => ⟨rfl, h⟩)
    refine ⟨step_free rfl (fun aF wF hs hb => ?_), ?_⟩
    · obtain ⟨x0, -⟩ := hs
      have e0 : aF.eval (.tmp 1) = .pointer (some ⟨b, 0, none⟩) := x0
      refine opC_value (v := .pointer (some ⟨b, 10, none⟩)) ?_ ⟨rfl, below_same wF⟩
      have t0 := ev_of e0
      simp [execOp, go_sem, t0]
    refine ⟨step_free rfl (fun aF wF hs hb => ?_), ?_⟩
    · obtain ⟨x0, -⟩ := hs
      have e0 : aF.eval (.tmp 10) = .pointer (some ⟨b, 10, none⟩) := x0
      refine opC_value (v := .pointer (some ⟨b, 10, none⟩)) ?_ ⟨rfl, below_same wF⟩
      have t0 := ev_of e0
      simp [execOp, go_sem, t0]
    refine ⟨step_free rfl (fun aF wF hs hb => ?_), ?_⟩
    · obtain ⟨x0, -⟩ := hs
      have e0 : aF.eval (.tmp 11) = .pointer (some ⟨b, 10, none⟩) := x0
      exact opC_load e0 (LDs wF hb) ⟨rfl, below_same wF⟩
    refine ⟨step_free rfl (fun aF wF hs hb => ?_), ?_⟩
    · obtain ⟨x0, -⟩ := hs
      have e0 : aF.eval (.tmp 12) = .int .u32 (s : Int) := x0
      refine opC_value (v := .int .u64 (s : Int)) ?_ ⟨rfl, below_same wF⟩
      simp [execOp, go_sem, ev_of e0, ws]
    refine ⟨step_free rfl (fun aF wF hs hb => ?_), ?_⟩
    · obtain ⟨x0, -⟩ := hs
      have e0 : aF.eval (.tmp 13) = .int .u64 (s : Int) := x0
      exact opC_call (args := #[.int .u64 (s : Int)]) (enters9 Tryz.func48 (by kernel_rfl) rfl) (by simp [e0]) (CB wF) (fun _ h => ⟨rfl, h⟩)
    refine ⟨step_free rfl (fun aF wF hs hb => ?_), ?_⟩
    · obtain ⟨x0, -⟩ := hs
      have e0 : aF.eval (.tmp 9) = .string s1 := x0
      exact opC_assign e0 ⟨rfl, below_same wF⟩
    refine ⟨step_free rfl (fun aF wF hs hb => ?_), ?_⟩
    · obtain ⟨x0, -⟩ := hs
      have e0 : aF.eval (.tmp 14) = .string s2 := x0
      exact opC_assign e0 ⟨rfl, below_same wF⟩
    exact trivial
  intro fv w6 hf hb6
  have p3 : fv 9 = .string s1 := hf 9 3 rfl
  have p4 : fv 10 = .string s2 := hf 10 4 rfl
  have HQ6 := Lib.hid (HQ0.out.below hb6 HQ0.out.lt)
  have HB6 := Lib.hid (HB0.out.trans (hb6.mono (by have := HQ0.out.lt; omega)))
  simp only [putF, Act.put, List.setIfInBounds_toArray, List.set_cons_zero, List.set_cons_succ]
  rw [p3, p4]
  clear p3 p4 hf hb6 LDa LDs CA CB HQ0 HB0 wa ws
  obtain ⟨z0, z1, z2, z3, z4, z5, z6, z7, z8, z9, z10, z11, z12, z13⟩ := blk14 HQ6.out
  have LE1 : ∀ W, Below w6.heap.size w6 W → (Instr.loadAt 3 (.pointer (some ⟨b, 11, none⟩))).run Tryz.prog W = .ok (.int .i64 d) W := fun W hb => by
    obtain ⟨_, _, _, _, _, _, _, _, _, _, _, c1, -⟩ := blk14 (HQ6.out.below hb HQ6.out.lt)
    go_simp
  have LE2 : ∀ W, Below w6.heap.size w6 W → (Instr.loadAt 5 (.pointer (some ⟨b, 12, none⟩))).run Tryz.prog W = .ok (.int .u8 4) W := fun W hb => by
    obtain ⟨_, _, _, _, _, _, _, _, _, _, _, _, c1, -⟩ := blk14 (HQ6.out.below hb HQ6.out.lt)
    go_simp
  have C5a := fun W => RCivil_any d W hd.1 hd.2
  have hci := civ_in d hd.1 hd.2
  have C5b := fun W => RText5_any (cY d).toNat (cM d).toNat (cD d).toNat (by omega) (by omega) (by omega) W
  rw [show ((cY d).toNat : Int) = cY d by omega, show ((cM d).toNat : Int) = cM d by omega, show ((cD d).toNat : Int) = cD d by omega] at C5b
  have hdt : textS (cY d).toNat (cM d).toNat (cD d).toNat = dayText d := rfl
  rw [hdt] at C5b
  have z3' : (dayText d).size ≤ 30 := by rw [Lib.size_eq]; exact day_len d
  obtain ⟨s3, q3⟩ : ∃ x, dayText d = x := ⟨_, rfl⟩
  rw [q3] at C5b z3'
  rw [q3]
  obtain ⟨s0, q0⟩ : ∃ x : ByteArray, ⟨#[112, 97, 121]⟩ = x := ⟨_, rfl⟩
  have z0' : s0.size ≤ 30 := by rw [← q0]; decide
  have x1 : (⟨#[32]⟩ : ByteArray).size = 1 := rfl
  obtain ⟨y0, h0⟩ : ∃ y, s0 ++ (⟨#[32]⟩ : ByteArray) = y := ⟨_, rfl⟩
  have zy0 : y0.size ≤ 62 := by
    rw [← h0, ByteArray.size_append]
    omega
  obtain ⟨y1, h1⟩ : ∃ y, y0 ++ s1 = y := ⟨_, rfl⟩
  have zy1 : y1.size ≤ 93 := by
    rw [← h1, ByteArray.size_append]
    omega
  obtain ⟨y2, h2⟩ : ∃ y, y1 ++ (⟨#[32]⟩ : ByteArray) = y := ⟨_, rfl⟩
  have zy2 : y2.size ≤ 124 := by
    rw [← h2, ByteArray.size_append]
    omega
  obtain ⟨y3, h3⟩ : ∃ y, y2 ++ s2 = y := ⟨_, rfl⟩
  have zy3 : y3.size ≤ 155 := by
    rw [← h3, ByteArray.size_append]
    omega
  obtain ⟨y4, h4⟩ : ∃ y, y3 ++ (⟨#[32]⟩ : ByteArray) = y := ⟨_, rfl⟩
  have zy4 : y4.size ≤ 186 := by
    rw [← h4, ByteArray.size_append]
    omega
  obtain ⟨y5, h5⟩ : ∃ y, y4 ++ s3 = y := ⟨_, rfl⟩
  have zy5 : y5.size ≤ 217 := by
    rw [← h5, ByteArray.size_append]
    omega
  have hR : y5 = sps [kindS 4, s1, s2, s3] := by
    rw [← sps4, ← h5, ← h4, ← h3, ← h2, ← h1, ← h0, ← q0]
    rfl
  have HR := Lib.hid hR
  have HS := Lib.hid (And.intro q0 q3)
  clear hR hdt hci hd q0 q3
  go_upto_region 6 with (fail)
  clear z0 z1 z2 z3 z4 z5 z6 z7 z8 z9 z10 z11 z12 z13
  refine wp_region_flow [some 28, some 29, some 30, some 31, some 32, some 33, some 34, some 35, some 36, some 37, some 38, some 39, some 40, some 41, some 42, some 43, some 44, some 45, some 46, some 47, some 5] (fun i => ([strsF 4 (#[.string s0, .string ⟨#[102, 101, 101]⟩, .string ⟨#[119, 97, 105, 118, 101]⟩, .string ⟨#[111, 102, 102]⟩]), .is (.pointer (some ⟨b, 10, none⟩)), .is (.pointer (some ⟨b, 12, none⟩)), .is (.int .u8 4), .is (.int .u8 0), cellF 4 0 (#[.string s0, .string ⟨#[102, 101, 101]⟩, .string ⟨#[119, 97, 105, 118, 101]⟩, .string ⟨#[111, 102, 102]⟩]), .is (.string s0), .is (.string y0), .is (.string s1), .is (.string y1), .is (.string y2), .is (.string s2), .is (.string y3), .is (.string y4), .is (.pointer (some ⟨b, 10, none⟩)), .is (.pointer (some ⟨b, 11, none⟩)), .is (.int .i64 d), .is (.agg #[.int .i64 (cY d), .int .i64 (cM d), .int .i64 (cD d)]), .is (.string s3), .is (.string y5), .is (.string y5)] : List Flw).getD i .any) (by kernel_rfl) (by kernel_rfl) rfl ?_ ?_
  · skip
    refine ⟨step_free rfl (fun aF wF hs hb => ?_), ?_⟩
    · exact opC_strs4 rfl rfl rfl rfl ⟨⟨_, rfl, by rw [← HS.out.1]; exact Blk.new _ _ _⟩, (Below.refl _ wF).alloc (Nat.le_refl _) _⟩
    refine ⟨step_free rfl (fun aF wF hs hb => ?_), ?_⟩
    · obtain ⟨x0, -⟩ := hs
      have e0 : aF.eval (.tmp 1) = .pointer (some ⟨b, 0, none⟩) := x0
      refine opC_value (v := .pointer (some ⟨b, 10, none⟩)) ?_ ⟨rfl, below_same wF⟩
      have t0 := ev_of e0
      simp [execOp, go_sem, t0]
    refine ⟨step_free rfl (fun aF wF hs hb => ?_), ?_⟩
    · obtain ⟨x0, -⟩ := hs
      have e0 : aF.eval (.tmp 29) = .pointer (some ⟨b, 10, none⟩) := x0
      refine opC_value (v := .pointer (some ⟨b, 12, none⟩)) ?_ ⟨rfl, below_same wF⟩
      have t0 := ev_of e0
      simp [execOp, go_sem, t0]
    refine ⟨step_free rfl (fun aF wF hs hb => ?_), ?_⟩
    · obtain ⟨x0, -⟩ := hs
      have e0 : aF.eval (.tmp 30) = .pointer (some ⟨b, 12, none⟩) := x0
      exact opC_load e0 (LE2 wF hb) ⟨rfl, below_same wF⟩
    refine ⟨step_free rfl (fun aF wF hs hb => ?_), ?_⟩
    · obtain ⟨x0, -⟩ := hs
      have e0 : aF.eval (.tmp 31) = .int .u8 4 := x0
      refine opC_value (v := .int .u8 0) ?_ ⟨rfl, below_same wF⟩
      simp [execOp, go_sem, ev_of e0]
      decide
    refine ⟨step_free rfl (fun aF wF hs hb => ?_), ?_⟩
    · obtain ⟨x0, x1, -⟩ := hs
      obtain ⟨g0, e0, hg0⟩ : (strsF 4 (#[.string s0, .string ⟨#[102, 101, 101]⟩, .string ⟨#[119, 97, 105, 118, 101]⟩, .string ⟨#[111, 102, 102]⟩])).p (aF.eval (.tmp 28)) wF := x0
      have e1 : aF.eval (.tmp 32) = .int .u8 0 := x1
      refine opC_value (v := .pointer (some ⟨g0, 0, none⟩)) ?_ ⟨⟨g0, rfl, hg0⟩, below_same wF⟩
      simp [execOp, go_sem, ev_of e0, ev_of e1]
    refine ⟨step_free rfl (fun aF wF hs hb => ?_), ?_⟩
    · obtain ⟨x0, -⟩ := hs
      obtain ⟨g0, e0, hg0⟩ : (cellF 4 0 (#[.string s0, .string ⟨#[102, 101, 101]⟩, .string ⟨#[119, 97, 105, 118, 101]⟩, .string ⟨#[111, 102, 102]⟩])).p (aF.eval (.tmp 33)) wF := x0
      have c0 := hg0.cell 0
      simp at c0
      refine opC_load e0 ?_ ⟨rfl, below_same wF⟩
      go_simp
    refine ⟨step_free rfl (fun aF wF hs hb => ?_), ?_⟩
    · obtain ⟨x0, -⟩ := hs
      have e0 : aF.eval (.tmp 34) = .string s0 := x0
      refine opC_value (v := .string y0) ?_ ⟨rfl, below_same wF⟩
      simp [execOp, go_sem, ev_of e0, h0]
      omega
    refine ⟨step_free rfl (fun aF wF hs hb => ?_), ?_⟩
    · obtain ⟨x0, -⟩ := hs
      have e0 : aF.eval (.tmp 3) = .string s1 := x0
      exact opC_move e0 ⟨rfl, below_same wF⟩
    refine ⟨step_free rfl (fun aF wF hs hb => ?_), ?_⟩
    · obtain ⟨x0, x1, -⟩ := hs
      have e0 : aF.eval (.tmp 35) = .string y0 := x0
      have e1 : aF.eval (.tmp 36) = .string s1 := x1
      refine opC_value (v := .string y1) ?_ ⟨rfl, below_same wF⟩
      simp [execOp, go_sem, ev_of e0, ev_of e1, h1]
      omega
    refine ⟨step_free rfl (fun aF wF hs hb => ?_), ?_⟩
    · obtain ⟨x0, -⟩ := hs
      have e0 : aF.eval (.tmp 37) = .string y1 := x0
      refine opC_value (v := .string y2) ?_ ⟨rfl, below_same wF⟩
      simp [execOp, go_sem, ev_of e0, h2]
      omega
    refine ⟨step_free rfl (fun aF wF hs hb => ?_), ?_⟩
    · obtain ⟨x0, -⟩ := hs
      have e0 : aF.eval (.tmp 4) = .string s2 := x0
      exact opC_move e0 ⟨rfl, below_same wF⟩
    refine ⟨step_free rfl (fun aF wF hs hb => ?_), ?_⟩
    · obtain ⟨x0, x1, -⟩ := hs
      have e0 : aF.eval (.tmp 38) = .string y2 := x0
      have e1 : aF.eval (.tmp 39) = .string s2 := x1
      refine opC_value (v := .string y3) ?_ ⟨rfl, below_same wF⟩
      simp [execOp, go_sem, ev_of e0, ev_of e1, h3]
      omega
    refine ⟨step_free rfl (fun aF wF hs hb => ?_), ?_⟩
    · obtain ⟨x0, -⟩ := hs
      have e0 : aF.eval (.tmp 40) = .string y3 := x0
      refine opC_value (v := .string y4) ?_ ⟨rfl, below_same wF⟩
      simp [execOp, go_sem, ev_of e0, h4]
      omega
    refine ⟨step_free rfl (fun aF wF hs hb => ?_), ?_⟩
    · obtain ⟨x0, -⟩ := hs
      have e0 : aF.eval (.tmp 1) = .pointer (some ⟨b, 0, none⟩) := x0
      refine opC_value (v := .pointer (some ⟨b, 10, none⟩)) ?_ ⟨rfl, below_same wF⟩
      have t0 := ev_of e0
      simp [execOp, go_sem, t0]
    refine ⟨step_free rfl (fun aF wF hs hb => ?_), ?_⟩
    · obtain ⟨x0, -⟩ := hs
      have e0 : aF.eval (.tmp 42) = .pointer (some ⟨b, 10, none⟩) := x0
      refine opC_value (v := .pointer (some ⟨b, 11, none⟩)) ?_ ⟨rfl, below_same wF⟩
      have t0 := ev_of e0
      simp [execOp, go_sem, t0]
    refine ⟨step_free rfl (fun aF wF hs hb => ?_), ?_⟩
    · obtain ⟨x0, -⟩ := hs
      have e0 : aF.eval (.tmp 43) = .pointer (some ⟨b, 11, none⟩) := x0
      exact opC_load e0 (LE1 wF hb) ⟨rfl, below_same wF⟩
    refine ⟨step_free rfl (fun aF wF hs hb => ?_), ?_⟩
    · obtain ⟨x0, -⟩ := hs
      have e0 : aF.eval (.tmp 44) = .int .i64 d := x0
      exact opC_call (args := #[.int .i64 d]) (enters9 Tryz.func51 (by kernel_rfl) rfl) (by simp [e0]) (C5a wF) (fun _ h => ⟨rfl, h⟩)
    refine ⟨step_free rfl (fun aF wF hs hb => ?_), ?_⟩
    · obtain ⟨x0, -⟩ := hs
      have e0 : aF.eval (.tmp 45) = .agg #[.int .i64 (cY d), .int .i64 (cM d), .int .i64 (cD d)] := x0
      exact opC_call (args := #[.agg #[.int .i64 (cY d), .int .i64 (cM d), .int .i64 (cD d)]]) (enters9 Tryz.func50 (by kernel_rfl) rfl) (by simp [e0]) (C5b wF) (fun _ h => ⟨rfl, h⟩)
    refine ⟨step_free rfl (fun aF wF hs hb => ?_), ?_⟩
    · obtain ⟨x0, x1, -⟩ := hs
      have e0 : aF.eval (.tmp 41) = .string y4 := x0
      have e1 : aF.eval (.tmp 46) = .string s3 := x1
      refine opC_value (v := .string y5) ?_ ⟨rfl, below_same wF⟩
      simp [execOp, go_sem, ev_of e0, ev_of e1, h5]
      omega
    refine ⟨step_free rfl (fun aF wF hs hb => ?_), ?_⟩
    · obtain ⟨x0, -⟩ := hs
      have e0 : aF.eval (.tmp 47) = .string y5 := x0
      exact opC_assign e0 ⟨rfl, below_same wF⟩
    exact trivial
  intro fv w7 hf hb7
  have p5 : fv 20 = .string y5 := hf 20 5 rfl
  have HQ7 := Lib.hid (HQ6.out.below hb7 HQ6.out.lt)
  have HB7 := Lib.hid (HB6.out.trans (hb7.mono (by have := HB6.out.size; have := HW.out.2; omega)))
  simp only [putF, Act.put, List.setIfInBounds_toArray, List.set_cons_zero, List.set_cons_succ]
  rw [p5]
  clear p5 hf hb7 LE1 LE2 C5a C5b HQ6 HB6
  obtain ⟨z0, z1, z2, z3, z4, z5, z6, z7, z8, z9, z10, z11, z12, z13⟩ := blk14 HQ7.out
  have z4' : (textC m).size ≤ 30 := by rw [Lib.size_eq]; exact textC_len m hm
  have C4 := fun W => RText4_any m (by omega) W
  obtain ⟨s4, q4⟩ : ∃ x, textC m = x := ⟨_, rfl⟩
  rw [q4] at C4 z4'
  rw [q4]
  have y6 : ((⟨#[32]⟩ : ByteArray) ++ s4).size ≤ 40 := by rw [ByteArray.size_append]; omega
  have hR2 : y5 ++ ((⟨#[32]⟩ : ByteArray) ++ s4) = sps [kindS 4, s1, s2, s3, s4] := by
    rw [HR.out, ← sps5, ← sps4]
  have HR2 := Lib.hid hR2
  obtain ⟨u6, h6⟩ : ∃ x, (⟨#[32]⟩ : ByteArray) ++ s4 = x := ⟨_, rfl⟩
  rw [h6] at y6 hR2
  have HR3 := Lib.hid hR2
  have y7 : (y5 ++ u6).size ≤ 400 := by rw [ByteArray.size_append]; omega
  have HQ4 := Lib.hid q4
  clear hR2 q4 hm
  go_wp2_with fail
  refine (C4 _).mono ?_
  rintro e w8 ⟨rfl, rfl⟩
  clear C4
  go_wp2_with fail
  go_ret
  exact ⟨by rw [HS.out.2, HQ4.out, ← HR3.out]; first | rfl | simp, by rw [HW.out.2]; exact HB7.out⟩
set_option maxRecDepth 100000 in
set_option maxHeartbeats 4000000 in
theorem RT20_25 {a K R B s : Nat} {P M S F G d m : Int} (hd : 0 ≤ d ∧ d ≤ 3652058) (hm : -9223372036854775808 ≤ m ∧ m ≤ 9223372036854775807) (ha : a < 4294967296) (hs : s < 4294967296) (w : World) : Calls Tryz.prog 21 #[.agg #[.int .u8 2, .int .u32 (a : Int), .int .u8 (K : Int), .int .i64 P, .int .u32 (R : Int), .int .u8 (B : Int), .int .i64 M, .int .i64 S, .int .i64 F, .int .i64 G, .int .u32 (s : Int), .int .i64 d, .int .u8 5, .int .i64 m]] w (Ret (.string (sps [kindS 5, dec a, dec s, dayText d, textC m])) w) := by
  have HQ0 := Lib.hid (Blk.new w 44 #[.int .u8 2, .int .u32 (a : Int), .int .u8 (K : Int), .int .i64 P, .int .u32 (R : Int), .int .u8 (B : Int), .int .i64 M, .int .i64 S, .int .i64 F, .int .i64 G, .int .u32 (s : Int), .int .i64 d, .int .u8 5, .int .i64 m])
  have HB0 := Lib.hid (b_alloc w (.cells #[.int .u8 2, .int .u32 (a : Int), .int .u8 (K : Int), .int .i64 P, .int .u32 (R : Int), .int .u8 (B : Int), .int .i64 M, .int .i64 S, .int .i64 F, .int .i64 G, .int .u32 (s : Int), .int .i64 d, .int .u8 5, .int .i64 m] 44))
  have za : (dec a).size ≤ 30 := by rw [Lib.size_eq]; exact dec_len a (by omega)
  have zb : (dec s).size ≤ 30 := by rw [Lib.size_eq]; exact dec_len s (by omega)
  have wa : IntKind.u64.wrap (a : Int) = (a : Int) := by rw [IntKind.wrap_u64]; omega
  have ws : IntKind.u64.wrap (s : Int) = (s : Int) := by rw [IntKind.wrap_u64]; omega
  have CA := fun W => rdec a ha W
  have CB := fun W => rdec s hs W
  obtain ⟨s1, q1⟩ : ∃ x, dec a = x := ⟨_, rfl⟩
  obtain ⟨s2, q2⟩ : ∃ x, dec s = x := ⟨_, rfl⟩
  rw [q1] at CA za
  rw [q2] at CB zb
  rw [q1, q2]
  obtain ⟨W0, hW⟩ : ∃ W, w.alloc (.cells #[.int .u8 2, .int .u32 (a : Int), .int .u8 (K : Int), .int .i64 P, .int .u32 (R : Int), .int .u8 (B : Int), .int .i64 M, .int .i64 S, .int .i64 F, .int .i64 G, .int .u32 (s : Int), .int .i64 d, .int .u8 5, .int .i64 m] 44) = W := ⟨_, rfl⟩
  obtain ⟨b, hb⟩ : ∃ b, w.heap.size = b := ⟨_, rfl⟩
  rw [hW, hb] at HQ0 HB0
  have HW := Lib.hid (And.intro hW hb)
  clear hW hb q1 q2 ha hs
  have LDa : ∀ W, Below W0.heap.size W0 W → (Instr.loadAt 22 (.pointer (some ⟨b, 1, none⟩))).run Tryz.prog W = .ok (.int .u32 (a : Int)) W := fun W hb => by
    obtain ⟨_, c1, -⟩ := blk14 (HQ0.out.below hb HQ0.out.lt)
    go_simp
  have LDs : ∀ W, Below W0.heap.size W0 W → (Instr.loadAt 22 (.pointer (some ⟨b, 10, none⟩))).run Tryz.prog W = .ok (.int .u32 (s : Int)) W := fun W hb => by
    obtain ⟨_, _, _, _, _, _, _, _, _, _, c1, -⟩ := blk14 (HQ0.out.below hb HQ0.out.lt)
    go_simp
  go_enter Tryz.func21, Tryz.ntmps21
  go_upto_region 1 with (fail)
  rw [HW.out.1, HW.out.2]
  refine wp_region_flow [some 6, some 7, some 8, some 9, some 10, some 11, some 12, some 13, some 14, some 3, some 4] (fun i => ([.is (.pointer (some ⟨b, 1, none⟩)), .is (.int .u32 (a : Int)), .is (.int .u64 (a : Int)), .is (.string s1), .is (.pointer (some ⟨b, 10, none⟩)), .is (.pointer (some ⟨b, 10, none⟩)), .is (.int .u32 (s : Int)), .is (.int .u64 (s : Int)), .is (.string s2), .is (.string s1), .is (.string s2)] : List Flw).getD i .any) (by kernel_rfl) (by kernel_rfl) rfl ?_ ?_
  · skip
    refine ⟨step_free rfl (fun aF wF hs hb => ?_), ?_⟩
    · obtain ⟨x0, -⟩ := hs
      have e0 : aF.eval (.tmp 1) = .pointer (some ⟨b, 0, none⟩) := x0
      refine opC_value (v := .pointer (some ⟨b, 1, none⟩)) ?_ ⟨rfl, below_same wF⟩
      have t0 := ev_of e0
      simp [execOp, go_sem, t0]
    refine ⟨step_free rfl (fun aF wF hs hb => ?_), ?_⟩
    · obtain ⟨x0, -⟩ := hs
      have e0 : aF.eval (.tmp 6) = .pointer (some ⟨b, 1, none⟩) := x0
      exact opC_load e0 (LDa wF hb) ⟨rfl, below_same wF⟩
    refine ⟨step_free rfl (fun aF wF hs hb => ?_), ?_⟩
    · obtain ⟨x0, -⟩ := hs
      have e0 : aF.eval (.tmp 7) = .int .u32 (a : Int) := x0
      refine opC_value (v := .int .u64 (a : Int)) ?_ ⟨rfl, below_same wF⟩
      simp [execOp, go_sem, ev_of e0, wa]
    refine ⟨step_free rfl (fun aF wF hs hb => ?_), ?_⟩
    · obtain ⟨x0, -⟩ := hs
      have e0 : aF.eval (.tmp 8) = .int .u64 (a : Int) := x0
      exact opC_call (args := #[.int .u64 (a : Int)]) (enters9 Tryz.func48 (by kernel_rfl) rfl) (by simp [e0]) (CA wF) (fun _ h => ⟨rfl, h⟩)
    refine ⟨step_free rfl (fun aF wF hs hb => ?_), ?_⟩
    · obtain ⟨x0, -⟩ := hs
      have e0 : aF.eval (.tmp 1) = .pointer (some ⟨b, 0, none⟩) := x0
      refine opC_value (v := .pointer (some ⟨b, 10, none⟩)) ?_ ⟨rfl, below_same wF⟩
      have t0 := ev_of e0
      simp [execOp, go_sem, t0]
    refine ⟨step_free rfl (fun aF wF hs hb => ?_), ?_⟩
    · obtain ⟨x0, -⟩ := hs
      have e0 : aF.eval (.tmp 10) = .pointer (some ⟨b, 10, none⟩) := x0
      refine opC_value (v := .pointer (some ⟨b, 10, none⟩)) ?_ ⟨rfl, below_same wF⟩
      have t0 := ev_of e0
      simp [execOp, go_sem, t0]
    refine ⟨step_free rfl (fun aF wF hs hb => ?_), ?_⟩
    · obtain ⟨x0, -⟩ := hs
      have e0 : aF.eval (.tmp 11) = .pointer (some ⟨b, 10, none⟩) := x0
      exact opC_load e0 (LDs wF hb) ⟨rfl, below_same wF⟩
    refine ⟨step_free rfl (fun aF wF hs hb => ?_), ?_⟩
    · obtain ⟨x0, -⟩ := hs
      have e0 : aF.eval (.tmp 12) = .int .u32 (s : Int) := x0
      refine opC_value (v := .int .u64 (s : Int)) ?_ ⟨rfl, below_same wF⟩
      simp [execOp, go_sem, ev_of e0, ws]
    refine ⟨step_free rfl (fun aF wF hs hb => ?_), ?_⟩
    · obtain ⟨x0, -⟩ := hs
      have e0 : aF.eval (.tmp 13) = .int .u64 (s : Int) := x0
      exact opC_call (args := #[.int .u64 (s : Int)]) (enters9 Tryz.func48 (by kernel_rfl) rfl) (by simp [e0]) (CB wF) (fun _ h => ⟨rfl, h⟩)
    refine ⟨step_free rfl (fun aF wF hs hb => ?_), ?_⟩
    · obtain ⟨x0, -⟩ := hs
      have e0 : aF.eval (.tmp 9) = .string s1 := x0
      exact opC_assign e0 ⟨rfl, below_same wF⟩
    refine ⟨step_free rfl (fun aF wF hs hb => ?_), ?_⟩
    · obtain ⟨x0, -⟩ := hs
      have e0 : aF.eval (.tmp 14) = .string s2 := x0
      exact opC_assign e0 ⟨rfl, below_same wF⟩
    exact trivial
  intro fv w6 hf hb6
  have p3 : fv 9 = .string s1 := hf 9 3 rfl
  have p4 : fv 10 = .string s2 := hf 10 4 rfl
  have HQ6 := Lib.hid (HQ0.out.below hb6 HQ0.out.lt)
  have HB6 := Lib.hid (HB0.out.trans (hb6.mono (by have := HQ0.out.lt; omega)))
  simp only [putF, Act.put, List.setIfInBounds_toArray, List.set_cons_zero, List.set_cons_succ]
  rw [p3, p4]
  clear p3 p4 hf hb6 LDa LDs CA CB HQ0 HB0 wa ws
  obtain ⟨z0, z1, z2, z3, z4, z5, z6, z7, z8, z9, z10, z11, z12, z13⟩ := blk14 HQ6.out
  have LE1 : ∀ W, Below w6.heap.size w6 W → (Instr.loadAt 3 (.pointer (some ⟨b, 11, none⟩))).run Tryz.prog W = .ok (.int .i64 d) W := fun W hb => by
    obtain ⟨_, _, _, _, _, _, _, _, _, _, _, c1, -⟩ := blk14 (HQ6.out.below hb HQ6.out.lt)
    go_simp
  have LE2 : ∀ W, Below w6.heap.size w6 W → (Instr.loadAt 5 (.pointer (some ⟨b, 12, none⟩))).run Tryz.prog W = .ok (.int .u8 5) W := fun W hb => by
    obtain ⟨_, _, _, _, _, _, _, _, _, _, _, _, c1, -⟩ := blk14 (HQ6.out.below hb HQ6.out.lt)
    go_simp
  have C5a := fun W => RCivil_any d W hd.1 hd.2
  have hci := civ_in d hd.1 hd.2
  have C5b := fun W => RText5_any (cY d).toNat (cM d).toNat (cD d).toNat (by omega) (by omega) (by omega) W
  rw [show ((cY d).toNat : Int) = cY d by omega, show ((cM d).toNat : Int) = cM d by omega, show ((cD d).toNat : Int) = cD d by omega] at C5b
  have hdt : textS (cY d).toNat (cM d).toNat (cD d).toNat = dayText d := rfl
  rw [hdt] at C5b
  have z3' : (dayText d).size ≤ 30 := by rw [Lib.size_eq]; exact day_len d
  obtain ⟨s3, q3⟩ : ∃ x, dayText d = x := ⟨_, rfl⟩
  rw [q3] at C5b z3'
  rw [q3]
  obtain ⟨s0, q0⟩ : ∃ x : ByteArray, ⟨#[102, 101, 101]⟩ = x := ⟨_, rfl⟩
  have z0' : s0.size ≤ 30 := by rw [← q0]; decide
  have x1 : (⟨#[32]⟩ : ByteArray).size = 1 := rfl
  obtain ⟨y0, h0⟩ : ∃ y, s0 ++ (⟨#[32]⟩ : ByteArray) = y := ⟨_, rfl⟩
  have zy0 : y0.size ≤ 62 := by
    rw [← h0, ByteArray.size_append]
    omega
  obtain ⟨y1, h1⟩ : ∃ y, y0 ++ s1 = y := ⟨_, rfl⟩
  have zy1 : y1.size ≤ 93 := by
    rw [← h1, ByteArray.size_append]
    omega
  obtain ⟨y2, h2⟩ : ∃ y, y1 ++ (⟨#[32]⟩ : ByteArray) = y := ⟨_, rfl⟩
  have zy2 : y2.size ≤ 124 := by
    rw [← h2, ByteArray.size_append]
    omega
  obtain ⟨y3, h3⟩ : ∃ y, y2 ++ s2 = y := ⟨_, rfl⟩
  have zy3 : y3.size ≤ 155 := by
    rw [← h3, ByteArray.size_append]
    omega
  obtain ⟨y4, h4⟩ : ∃ y, y3 ++ (⟨#[32]⟩ : ByteArray) = y := ⟨_, rfl⟩
  have zy4 : y4.size ≤ 186 := by
    rw [← h4, ByteArray.size_append]
    omega
  obtain ⟨y5, h5⟩ : ∃ y, y4 ++ s3 = y := ⟨_, rfl⟩
  have zy5 : y5.size ≤ 217 := by
    rw [← h5, ByteArray.size_append]
    omega
  have hR : y5 = sps [kindS 5, s1, s2, s3] := by
    rw [← sps4, ← h5, ← h4, ← h3, ← h2, ← h1, ← h0, ← q0]
    rfl
  have HR := Lib.hid hR
  have HS := Lib.hid (And.intro q0 q3)
  clear hR hdt hci hd q0 q3
  go_upto_region 6 with (fail)
  clear z0 z1 z2 z3 z4 z5 z6 z7 z8 z9 z10 z11 z12 z13
  refine wp_region_flow [some 28, some 29, some 30, some 31, some 32, some 33, some 34, some 35, some 36, some 37, some 38, some 39, some 40, some 41, some 42, some 43, some 44, some 45, some 46, some 47, some 5] (fun i => ([strsF 4 (#[.string ⟨#[112, 97, 121]⟩, .string s0, .string ⟨#[119, 97, 105, 118, 101]⟩, .string ⟨#[111, 102, 102]⟩]), .is (.pointer (some ⟨b, 10, none⟩)), .is (.pointer (some ⟨b, 12, none⟩)), .is (.int .u8 5), .is (.int .u8 1), cellF 4 1 (#[.string ⟨#[112, 97, 121]⟩, .string s0, .string ⟨#[119, 97, 105, 118, 101]⟩, .string ⟨#[111, 102, 102]⟩]), .is (.string s0), .is (.string y0), .is (.string s1), .is (.string y1), .is (.string y2), .is (.string s2), .is (.string y3), .is (.string y4), .is (.pointer (some ⟨b, 10, none⟩)), .is (.pointer (some ⟨b, 11, none⟩)), .is (.int .i64 d), .is (.agg #[.int .i64 (cY d), .int .i64 (cM d), .int .i64 (cD d)]), .is (.string s3), .is (.string y5), .is (.string y5)] : List Flw).getD i .any) (by kernel_rfl) (by kernel_rfl) rfl ?_ ?_
  · skip
    refine ⟨step_free rfl (fun aF wF hs hb => ?_), ?_⟩
    · exact opC_strs4 rfl rfl rfl rfl ⟨⟨_, rfl, by rw [← HS.out.1]; exact Blk.new _ _ _⟩, (Below.refl _ wF).alloc (Nat.le_refl _) _⟩
    refine ⟨step_free rfl (fun aF wF hs hb => ?_), ?_⟩
    · obtain ⟨x0, -⟩ := hs
      have e0 : aF.eval (.tmp 1) = .pointer (some ⟨b, 0, none⟩) := x0
      refine opC_value (v := .pointer (some ⟨b, 10, none⟩)) ?_ ⟨rfl, below_same wF⟩
      have t0 := ev_of e0
      simp [execOp, go_sem, t0]
    refine ⟨step_free rfl (fun aF wF hs hb => ?_), ?_⟩
    · obtain ⟨x0, -⟩ := hs
      have e0 : aF.eval (.tmp 29) = .pointer (some ⟨b, 10, none⟩) := x0
      refine opC_value (v := .pointer (some ⟨b, 12, none⟩)) ?_ ⟨rfl, below_same wF⟩
      have t0 := ev_of e0
      simp [execOp, go_sem, t0]
    refine ⟨step_free rfl (fun aF wF hs hb => ?_), ?_⟩
    · obtain ⟨x0, -⟩ := hs
      have e0 : aF.eval (.tmp 30) = .pointer (some ⟨b, 12, none⟩) := x0
      exact opC_load e0 (LE2 wF hb) ⟨rfl, below_same wF⟩
    refine ⟨step_free rfl (fun aF wF hs hb => ?_), ?_⟩
    · obtain ⟨x0, -⟩ := hs
      have e0 : aF.eval (.tmp 31) = .int .u8 5 := x0
      refine opC_value (v := .int .u8 1) ?_ ⟨rfl, below_same wF⟩
      simp [execOp, go_sem, ev_of e0]
      decide
    refine ⟨step_free rfl (fun aF wF hs hb => ?_), ?_⟩
    · obtain ⟨x0, x1, -⟩ := hs
      obtain ⟨g0, e0, hg0⟩ : (strsF 4 (#[.string ⟨#[112, 97, 121]⟩, .string s0, .string ⟨#[119, 97, 105, 118, 101]⟩, .string ⟨#[111, 102, 102]⟩])).p (aF.eval (.tmp 28)) wF := x0
      have e1 : aF.eval (.tmp 32) = .int .u8 1 := x1
      refine opC_value (v := .pointer (some ⟨g0, 1, none⟩)) ?_ ⟨⟨g0, rfl, hg0⟩, below_same wF⟩
      simp [execOp, go_sem, ev_of e0, ev_of e1]
    refine ⟨step_free rfl (fun aF wF hs hb => ?_), ?_⟩
    · obtain ⟨x0, -⟩ := hs
      obtain ⟨g0, e0, hg0⟩ : (cellF 4 1 (#[.string ⟨#[112, 97, 121]⟩, .string s0, .string ⟨#[119, 97, 105, 118, 101]⟩, .string ⟨#[111, 102, 102]⟩])).p (aF.eval (.tmp 33)) wF := x0
      have c0 := hg0.cell 1
      simp at c0
      refine opC_load e0 ?_ ⟨rfl, below_same wF⟩
      go_simp
    refine ⟨step_free rfl (fun aF wF hs hb => ?_), ?_⟩
    · obtain ⟨x0, -⟩ := hs
      have e0 : aF.eval (.tmp 34) = .string s0 := x0
      refine opC_value (v := .string y0) ?_ ⟨rfl, below_same wF⟩
      simp [execOp, go_sem, ev_of e0, h0]
      omega
    refine ⟨step_free rfl (fun aF wF hs hb => ?_), ?_⟩
    · obtain ⟨x0, -⟩ := hs
      have e0 : aF.eval (.tmp 3) = .string s1 := x0
      exact opC_move e0 ⟨rfl, below_same wF⟩
    refine ⟨step_free rfl (fun aF wF hs hb => ?_), ?_⟩
    · obtain ⟨x0, x1, -⟩ := hs
      have e0 : aF.eval (.tmp 35) = .string y0 := x0
      have e1 : aF.eval (.tmp 36) = .string s1 := x1
      refine opC_value (v := .string y1) ?_ ⟨rfl, below_same wF⟩
      simp [execOp, go_sem, ev_of e0, ev_of e1, h1]
      omega
    refine ⟨step_free rfl (fun aF wF hs hb => ?_), ?_⟩
    · obtain ⟨x0, -⟩ := hs
      have e0 : aF.eval (.tmp 37) = .string y1 := x0
      refine opC_value (v := .string y2) ?_ ⟨rfl, below_same wF⟩
      simp [execOp, go_sem, ev_of e0, h2]
      omega
    refine ⟨step_free rfl (fun aF wF hs hb => ?_), ?_⟩
    · obtain ⟨x0, -⟩ := hs
      have e0 : aF.eval (.tmp 4) = .string s2 := x0
      exact opC_move e0 ⟨rfl, below_same wF⟩
    refine ⟨step_free rfl (fun aF wF hs hb => ?_), ?_⟩
    · obtain ⟨x0, x1, -⟩ := hs
      have e0 : aF.eval (.tmp 38) = .string y2 := x0
      have e1 : aF.eval (.tmp 39) = .string s2 := x1
      refine opC_value (v := .string y3) ?_ ⟨rfl, below_same wF⟩
      simp [execOp, go_sem, ev_of e0, ev_of e1, h3]
      omega
    refine ⟨step_free rfl (fun aF wF hs hb => ?_), ?_⟩
    · obtain ⟨x0, -⟩ := hs
      have e0 : aF.eval (.tmp 40) = .string y3 := x0
      refine opC_value (v := .string y4) ?_ ⟨rfl, below_same wF⟩
      simp [execOp, go_sem, ev_of e0, h4]
      omega
    refine ⟨step_free rfl (fun aF wF hs hb => ?_), ?_⟩
    · obtain ⟨x0, -⟩ := hs
      have e0 : aF.eval (.tmp 1) = .pointer (some ⟨b, 0, none⟩) := x0
      refine opC_value (v := .pointer (some ⟨b, 10, none⟩)) ?_ ⟨rfl, below_same wF⟩
      have t0 := ev_of e0
      simp [execOp, go_sem, t0]
    refine ⟨step_free rfl (fun aF wF hs hb => ?_), ?_⟩
    · obtain ⟨x0, -⟩ := hs
      have e0 : aF.eval (.tmp 42) = .pointer (some ⟨b, 10, none⟩) := x0
      refine opC_value (v := .pointer (some ⟨b, 11, none⟩)) ?_ ⟨rfl, below_same wF⟩
      have t0 := ev_of e0
      simp [execOp, go_sem, t0]
    refine ⟨step_free rfl (fun aF wF hs hb => ?_), ?_⟩
    · obtain ⟨x0, -⟩ := hs
      have e0 : aF.eval (.tmp 43) = .pointer (some ⟨b, 11, none⟩) := x0
      exact opC_load e0 (LE1 wF hb) ⟨rfl, below_same wF⟩
    refine ⟨step_free rfl (fun aF wF hs hb => ?_), ?_⟩
    · obtain ⟨x0, -⟩ := hs
      have e0 : aF.eval (.tmp 44) = .int .i64 d := x0
      exact opC_call (args := #[.int .i64 d]) (enters9 Tryz.func51 (by kernel_rfl) rfl) (by simp [e0]) (C5a wF) (fun _ h => ⟨rfl, h⟩)
    refine ⟨step_free rfl (fun aF wF hs hb => ?_), ?_⟩
    · obtain ⟨x0, -⟩ := hs
      have e0 : aF.eval (.tmp 45) = .agg #[.int .i64 (cY d), .int .i64 (cM d), .int .i64 (cD d)] := x0
      exact opC_call (args := #[.agg #[.int .i64 (cY d), .int .i64 (cM d), .int .i64 (cD d)]]) (enters9 Tryz.func50 (by kernel_rfl) rfl) (by simp [e0]) (C5b wF) (fun _ h => ⟨rfl, h⟩)
    refine ⟨step_free rfl (fun aF wF hs hb => ?_), ?_⟩
    · obtain ⟨x0, x1, -⟩ := hs
      have e0 : aF.eval (.tmp 41) = .string y4 := x0
      have e1 : aF.eval (.tmp 46) = .string s3 := x1
      refine opC_value (v := .string y5) ?_ ⟨rfl, below_same wF⟩
      simp [execOp, go_sem, ev_of e0, ev_of e1, h5]
      omega
    refine ⟨step_free rfl (fun aF wF hs hb => ?_), ?_⟩
    · obtain ⟨x0, -⟩ := hs
      have e0 : aF.eval (.tmp 47) = .string y5 := x0
      exact opC_assign e0 ⟨rfl, below_same wF⟩
    exact trivial
  intro fv w7 hf hb7
  have p5 : fv 20 = .string y5 := hf 20 5 rfl
  have HQ7 := Lib.hid (HQ6.out.below hb7 HQ6.out.lt)
  have HB7 := Lib.hid (HB6.out.trans (hb7.mono (by have := HB6.out.size; have := HW.out.2; omega)))
  simp only [putF, Act.put, List.setIfInBounds_toArray, List.set_cons_zero, List.set_cons_succ]
  rw [p5]
  clear p5 hf hb7 LE1 LE2 C5a C5b HQ6 HB6
  obtain ⟨z0, z1, z2, z3, z4, z5, z6, z7, z8, z9, z10, z11, z12, z13⟩ := blk14 HQ7.out
  have z4' : (textC m).size ≤ 30 := by rw [Lib.size_eq]; exact textC_len m hm
  have C4 := fun W => RText4_any m (by omega) W
  obtain ⟨s4, q4⟩ : ∃ x, textC m = x := ⟨_, rfl⟩
  rw [q4] at C4 z4'
  rw [q4]
  have y6 : ((⟨#[32]⟩ : ByteArray) ++ s4).size ≤ 40 := by rw [ByteArray.size_append]; omega
  have hR2 : y5 ++ ((⟨#[32]⟩ : ByteArray) ++ s4) = sps [kindS 5, s1, s2, s3, s4] := by
    rw [HR.out, ← sps5, ← sps4]
  have HR2 := Lib.hid hR2
  obtain ⟨u6, h6⟩ : ∃ x, (⟨#[32]⟩ : ByteArray) ++ s4 = x := ⟨_, rfl⟩
  rw [h6] at y6 hR2
  have HR3 := Lib.hid hR2
  have y7 : (y5 ++ u6).size ≤ 400 := by rw [ByteArray.size_append]; omega
  have HQ4 := Lib.hid q4
  clear hR2 q4 hm
  go_wp2_with fail
  refine (C4 _).mono ?_
  rintro e w8 ⟨rfl, rfl⟩
  clear C4
  go_wp2_with fail
  go_ret
  exact ⟨by rw [HS.out.2, HQ4.out, ← HR3.out]; first | rfl | simp, by rw [HW.out.2]; exact HB7.out⟩
set_option maxRecDepth 100000 in
set_option maxHeartbeats 4000000 in
theorem RT20_26 {a K R B s : Nat} {P M S F G d m : Int} (hd : 0 ≤ d ∧ d ≤ 3652058) (hm : -9223372036854775808 ≤ m ∧ m ≤ 9223372036854775807) (ha : a < 4294967296) (hs : s < 4294967296) (w : World) : Calls Tryz.prog 21 #[.agg #[.int .u8 2, .int .u32 (a : Int), .int .u8 (K : Int), .int .i64 P, .int .u32 (R : Int), .int .u8 (B : Int), .int .i64 M, .int .i64 S, .int .i64 F, .int .i64 G, .int .u32 (s : Int), .int .i64 d, .int .u8 6, .int .i64 m]] w (Ret (.string (sps [kindS 6, dec a, dec s, dayText d, textC m])) w) := by
  have HQ0 := Lib.hid (Blk.new w 44 #[.int .u8 2, .int .u32 (a : Int), .int .u8 (K : Int), .int .i64 P, .int .u32 (R : Int), .int .u8 (B : Int), .int .i64 M, .int .i64 S, .int .i64 F, .int .i64 G, .int .u32 (s : Int), .int .i64 d, .int .u8 6, .int .i64 m])
  have HB0 := Lib.hid (b_alloc w (.cells #[.int .u8 2, .int .u32 (a : Int), .int .u8 (K : Int), .int .i64 P, .int .u32 (R : Int), .int .u8 (B : Int), .int .i64 M, .int .i64 S, .int .i64 F, .int .i64 G, .int .u32 (s : Int), .int .i64 d, .int .u8 6, .int .i64 m] 44))
  have za : (dec a).size ≤ 30 := by rw [Lib.size_eq]; exact dec_len a (by omega)
  have zb : (dec s).size ≤ 30 := by rw [Lib.size_eq]; exact dec_len s (by omega)
  have wa : IntKind.u64.wrap (a : Int) = (a : Int) := by rw [IntKind.wrap_u64]; omega
  have ws : IntKind.u64.wrap (s : Int) = (s : Int) := by rw [IntKind.wrap_u64]; omega
  have CA := fun W => rdec a ha W
  have CB := fun W => rdec s hs W
  obtain ⟨s1, q1⟩ : ∃ x, dec a = x := ⟨_, rfl⟩
  obtain ⟨s2, q2⟩ : ∃ x, dec s = x := ⟨_, rfl⟩
  rw [q1] at CA za
  rw [q2] at CB zb
  rw [q1, q2]
  obtain ⟨W0, hW⟩ : ∃ W, w.alloc (.cells #[.int .u8 2, .int .u32 (a : Int), .int .u8 (K : Int), .int .i64 P, .int .u32 (R : Int), .int .u8 (B : Int), .int .i64 M, .int .i64 S, .int .i64 F, .int .i64 G, .int .u32 (s : Int), .int .i64 d, .int .u8 6, .int .i64 m] 44) = W := ⟨_, rfl⟩
  obtain ⟨b, hb⟩ : ∃ b, w.heap.size = b := ⟨_, rfl⟩
  rw [hW, hb] at HQ0 HB0
  have HW := Lib.hid (And.intro hW hb)
  clear hW hb q1 q2 ha hs
  have LDa : ∀ W, Below W0.heap.size W0 W → (Instr.loadAt 22 (.pointer (some ⟨b, 1, none⟩))).run Tryz.prog W = .ok (.int .u32 (a : Int)) W := fun W hb => by
    obtain ⟨_, c1, -⟩ := blk14 (HQ0.out.below hb HQ0.out.lt)
    go_simp
  have LDs : ∀ W, Below W0.heap.size W0 W → (Instr.loadAt 22 (.pointer (some ⟨b, 10, none⟩))).run Tryz.prog W = .ok (.int .u32 (s : Int)) W := fun W hb => by
    obtain ⟨_, _, _, _, _, _, _, _, _, _, c1, -⟩ := blk14 (HQ0.out.below hb HQ0.out.lt)
    go_simp
  go_enter Tryz.func21, Tryz.ntmps21
  go_upto_region 1 with (fail)
  rw [HW.out.1, HW.out.2]
  refine wp_region_flow [some 6, some 7, some 8, some 9, some 10, some 11, some 12, some 13, some 14, some 3, some 4] (fun i => ([.is (.pointer (some ⟨b, 1, none⟩)), .is (.int .u32 (a : Int)), .is (.int .u64 (a : Int)), .is (.string s1), .is (.pointer (some ⟨b, 10, none⟩)), .is (.pointer (some ⟨b, 10, none⟩)), .is (.int .u32 (s : Int)), .is (.int .u64 (s : Int)), .is (.string s2), .is (.string s1), .is (.string s2)] : List Flw).getD i .any) (by kernel_rfl) (by kernel_rfl) rfl ?_ ?_
  · skip
    refine ⟨step_free rfl (fun aF wF hs hb => ?_), ?_⟩
    · obtain ⟨x0, -⟩ := hs
      have e0 : aF.eval (.tmp 1) = .pointer (some ⟨b, 0, none⟩) := x0
      refine opC_value (v := .pointer (some ⟨b, 1, none⟩)) ?_ ⟨rfl, below_same wF⟩
      have t0 := ev_of e0
      simp [execOp, go_sem, t0]
    refine ⟨step_free rfl (fun aF wF hs hb => ?_), ?_⟩
    · obtain ⟨x0, -⟩ := hs
      have e0 : aF.eval (.tmp 6) = .pointer (some ⟨b, 1, none⟩) := x0
      exact opC_load e0 (LDa wF hb) ⟨rfl, below_same wF⟩
    refine ⟨step_free rfl (fun aF wF hs hb => ?_), ?_⟩
    · obtain ⟨x0, -⟩ := hs
      have e0 : aF.eval (.tmp 7) = .int .u32 (a : Int) := x0
      refine opC_value (v := .int .u64 (a : Int)) ?_ ⟨rfl, below_same wF⟩
      simp [execOp, go_sem, ev_of e0, wa]
    refine ⟨step_free rfl (fun aF wF hs hb => ?_), ?_⟩
    · obtain ⟨x0, -⟩ := hs
      have e0 : aF.eval (.tmp 8) = .int .u64 (a : Int) := x0
      exact opC_call (args := #[.int .u64 (a : Int)]) (enters9 Tryz.func48 (by kernel_rfl) rfl) (by simp [e0]) (CA wF) (fun _ h => ⟨rfl, h⟩)
    refine ⟨step_free rfl (fun aF wF hs hb => ?_), ?_⟩
    · obtain ⟨x0, -⟩ := hs
      have e0 : aF.eval (.tmp 1) = .pointer (some ⟨b, 0, none⟩) := x0
      refine opC_value (v := .pointer (some ⟨b, 10, none⟩)) ?_ ⟨rfl, below_same wF⟩
      have t0 := ev_of e0
      simp [execOp, go_sem, t0]
    refine ⟨step_free rfl (fun aF wF hs hb => ?_), ?_⟩
    · obtain ⟨x0, -⟩ := hs
      have e0 : aF.eval (.tmp 10) = .pointer (some ⟨b, 10, none⟩) := x0
      refine opC_value (v := .pointer (some ⟨b, 10, none⟩)) ?_ ⟨rfl, below_same wF⟩
      have t0 := ev_of e0
      simp [execOp, go_sem, t0]
    refine ⟨step_free rfl (fun aF wF hs hb => ?_), ?_⟩
    · obtain ⟨x0, -⟩ := hs
      have e0 : aF.eval (.tmp 11) = .pointer (some ⟨b, 10, none⟩) := x0
      exact opC_load e0 (LDs wF hb) ⟨rfl, below_same wF⟩
    refine ⟨step_free rfl (fun aF wF hs hb => ?_), ?_⟩
    · obtain ⟨x0, -⟩ := hs
      have e0 : aF.eval (.tmp 12) = .int .u32 (s : Int) := x0
      refine opC_value (v := .int .u64 (s : Int)) ?_ ⟨rfl, below_same wF⟩
      simp [execOp, go_sem, ev_of e0, ws]
    refine ⟨step_free rfl (fun aF wF hs hb => ?_), ?_⟩
    · obtain ⟨x0, -⟩ := hs
      have e0 : aF.eval (.tmp 13) = .int .u64 (s : Int) := x0
      exact opC_call (args := #[.int .u64 (s : Int)]) (enters9 Tryz.func48 (by kernel_rfl) rfl) (by simp [e0]) (CB wF) (fun _ h => ⟨rfl, h⟩)
    refine ⟨step_free rfl (fun aF wF hs hb => ?_), ?_⟩
    · obtain ⟨x0, -⟩ := hs
      have e0 : aF.eval (.tmp 9) = .string s1 := x0
      exact opC_assign e0 ⟨rfl, below_same wF⟩
    refine ⟨step_free rfl (fun aF wF hs hb => ?_), ?_⟩
    · obtain ⟨x0, -⟩ := hs
      have e0 : aF.eval (.tmp 14) = .string s2 := x0
      exact opC_assign e0 ⟨rfl, below_same wF⟩
    exact trivial
  intro fv w6 hf hb6
  have p3 : fv 9 = .string s1 := hf 9 3 rfl
  have p4 : fv 10 = .string s2 := hf 10 4 rfl
  have HQ6 := Lib.hid (HQ0.out.below hb6 HQ0.out.lt)
  have HB6 := Lib.hid (HB0.out.trans (hb6.mono (by have := HQ0.out.lt; omega)))
  simp only [putF, Act.put, List.setIfInBounds_toArray, List.set_cons_zero, List.set_cons_succ]
  rw [p3, p4]
  clear p3 p4 hf hb6 LDa LDs CA CB HQ0 HB0 wa ws
  obtain ⟨z0, z1, z2, z3, z4, z5, z6, z7, z8, z9, z10, z11, z12, z13⟩ := blk14 HQ6.out
  have LE1 : ∀ W, Below w6.heap.size w6 W → (Instr.loadAt 3 (.pointer (some ⟨b, 11, none⟩))).run Tryz.prog W = .ok (.int .i64 d) W := fun W hb => by
    obtain ⟨_, _, _, _, _, _, _, _, _, _, _, c1, -⟩ := blk14 (HQ6.out.below hb HQ6.out.lt)
    go_simp
  have LE2 : ∀ W, Below w6.heap.size w6 W → (Instr.loadAt 5 (.pointer (some ⟨b, 12, none⟩))).run Tryz.prog W = .ok (.int .u8 6) W := fun W hb => by
    obtain ⟨_, _, _, _, _, _, _, _, _, _, _, _, c1, -⟩ := blk14 (HQ6.out.below hb HQ6.out.lt)
    go_simp
  have C5a := fun W => RCivil_any d W hd.1 hd.2
  have hci := civ_in d hd.1 hd.2
  have C5b := fun W => RText5_any (cY d).toNat (cM d).toNat (cD d).toNat (by omega) (by omega) (by omega) W
  rw [show ((cY d).toNat : Int) = cY d by omega, show ((cM d).toNat : Int) = cM d by omega, show ((cD d).toNat : Int) = cD d by omega] at C5b
  have hdt : textS (cY d).toNat (cM d).toNat (cD d).toNat = dayText d := rfl
  rw [hdt] at C5b
  have z3' : (dayText d).size ≤ 30 := by rw [Lib.size_eq]; exact day_len d
  obtain ⟨s3, q3⟩ : ∃ x, dayText d = x := ⟨_, rfl⟩
  rw [q3] at C5b z3'
  rw [q3]
  obtain ⟨s0, q0⟩ : ∃ x : ByteArray, ⟨#[119, 97, 105, 118, 101]⟩ = x := ⟨_, rfl⟩
  have z0' : s0.size ≤ 30 := by rw [← q0]; decide
  have x1 : (⟨#[32]⟩ : ByteArray).size = 1 := rfl
  obtain ⟨y0, h0⟩ : ∃ y, s0 ++ (⟨#[32]⟩ : ByteArray) = y := ⟨_, rfl⟩
  have zy0 : y0.size ≤ 62 := by
    rw [← h0, ByteArray.size_append]
    omega
  obtain ⟨y1, h1⟩ : ∃ y, y0 ++ s1 = y := ⟨_, rfl⟩
  have zy1 : y1.size ≤ 93 := by
    rw [← h1, ByteArray.size_append]
    omega
  obtain ⟨y2, h2⟩ : ∃ y, y1 ++ (⟨#[32]⟩ : ByteArray) = y := ⟨_, rfl⟩
  have zy2 : y2.size ≤ 124 := by
    rw [← h2, ByteArray.size_append]
    omega
  obtain ⟨y3, h3⟩ : ∃ y, y2 ++ s2 = y := ⟨_, rfl⟩
  have zy3 : y3.size ≤ 155 := by
    rw [← h3, ByteArray.size_append]
    omega
  obtain ⟨y4, h4⟩ : ∃ y, y3 ++ (⟨#[32]⟩ : ByteArray) = y := ⟨_, rfl⟩
  have zy4 : y4.size ≤ 186 := by
    rw [← h4, ByteArray.size_append]
    omega
  obtain ⟨y5, h5⟩ : ∃ y, y4 ++ s3 = y := ⟨_, rfl⟩
  have zy5 : y5.size ≤ 217 := by
    rw [← h5, ByteArray.size_append]
    omega
  have hR : y5 = sps [kindS 6, s1, s2, s3] := by
    rw [← sps4, ← h5, ← h4, ← h3, ← h2, ← h1, ← h0, ← q0]
    rfl
  have HR := Lib.hid hR
  have HS := Lib.hid (And.intro q0 q3)
  clear hR hdt hci hd q0 q3
  go_upto_region 6 with (fail)
  clear z0 z1 z2 z3 z4 z5 z6 z7 z8 z9 z10 z11 z12 z13
  refine wp_region_flow [some 28, some 29, some 30, some 31, some 32, some 33, some 34, some 35, some 36, some 37, some 38, some 39, some 40, some 41, some 42, some 43, some 44, some 45, some 46, some 47, some 5] (fun i => ([strsF 4 (#[.string ⟨#[112, 97, 121]⟩, .string ⟨#[102, 101, 101]⟩, .string s0, .string ⟨#[111, 102, 102]⟩]), .is (.pointer (some ⟨b, 10, none⟩)), .is (.pointer (some ⟨b, 12, none⟩)), .is (.int .u8 6), .is (.int .u8 2), cellF 4 2 (#[.string ⟨#[112, 97, 121]⟩, .string ⟨#[102, 101, 101]⟩, .string s0, .string ⟨#[111, 102, 102]⟩]), .is (.string s0), .is (.string y0), .is (.string s1), .is (.string y1), .is (.string y2), .is (.string s2), .is (.string y3), .is (.string y4), .is (.pointer (some ⟨b, 10, none⟩)), .is (.pointer (some ⟨b, 11, none⟩)), .is (.int .i64 d), .is (.agg #[.int .i64 (cY d), .int .i64 (cM d), .int .i64 (cD d)]), .is (.string s3), .is (.string y5), .is (.string y5)] : List Flw).getD i .any) (by kernel_rfl) (by kernel_rfl) rfl ?_ ?_
  · skip
    refine ⟨step_free rfl (fun aF wF hs hb => ?_), ?_⟩
    · exact opC_strs4 rfl rfl rfl rfl ⟨⟨_, rfl, by rw [← HS.out.1]; exact Blk.new _ _ _⟩, (Below.refl _ wF).alloc (Nat.le_refl _) _⟩
    refine ⟨step_free rfl (fun aF wF hs hb => ?_), ?_⟩
    · obtain ⟨x0, -⟩ := hs
      have e0 : aF.eval (.tmp 1) = .pointer (some ⟨b, 0, none⟩) := x0
      refine opC_value (v := .pointer (some ⟨b, 10, none⟩)) ?_ ⟨rfl, below_same wF⟩
      have t0 := ev_of e0
      simp [execOp, go_sem, t0]
    refine ⟨step_free rfl (fun aF wF hs hb => ?_), ?_⟩
    · obtain ⟨x0, -⟩ := hs
      have e0 : aF.eval (.tmp 29) = .pointer (some ⟨b, 10, none⟩) := x0
      refine opC_value (v := .pointer (some ⟨b, 12, none⟩)) ?_ ⟨rfl, below_same wF⟩
      have t0 := ev_of e0
      simp [execOp, go_sem, t0]
    refine ⟨step_free rfl (fun aF wF hs hb => ?_), ?_⟩
    · obtain ⟨x0, -⟩ := hs
      have e0 : aF.eval (.tmp 30) = .pointer (some ⟨b, 12, none⟩) := x0
      exact opC_load e0 (LE2 wF hb) ⟨rfl, below_same wF⟩
    refine ⟨step_free rfl (fun aF wF hs hb => ?_), ?_⟩
    · obtain ⟨x0, -⟩ := hs
      have e0 : aF.eval (.tmp 31) = .int .u8 6 := x0
      refine opC_value (v := .int .u8 2) ?_ ⟨rfl, below_same wF⟩
      simp [execOp, go_sem, ev_of e0]
      decide
    refine ⟨step_free rfl (fun aF wF hs hb => ?_), ?_⟩
    · obtain ⟨x0, x1, -⟩ := hs
      obtain ⟨g0, e0, hg0⟩ : (strsF 4 (#[.string ⟨#[112, 97, 121]⟩, .string ⟨#[102, 101, 101]⟩, .string s0, .string ⟨#[111, 102, 102]⟩])).p (aF.eval (.tmp 28)) wF := x0
      have e1 : aF.eval (.tmp 32) = .int .u8 2 := x1
      refine opC_value (v := .pointer (some ⟨g0, 2, none⟩)) ?_ ⟨⟨g0, rfl, hg0⟩, below_same wF⟩
      simp [execOp, go_sem, ev_of e0, ev_of e1]
    refine ⟨step_free rfl (fun aF wF hs hb => ?_), ?_⟩
    · obtain ⟨x0, -⟩ := hs
      obtain ⟨g0, e0, hg0⟩ : (cellF 4 2 (#[.string ⟨#[112, 97, 121]⟩, .string ⟨#[102, 101, 101]⟩, .string s0, .string ⟨#[111, 102, 102]⟩])).p (aF.eval (.tmp 33)) wF := x0
      have c0 := hg0.cell 2
      simp at c0
      refine opC_load e0 ?_ ⟨rfl, below_same wF⟩
      go_simp
    refine ⟨step_free rfl (fun aF wF hs hb => ?_), ?_⟩
    · obtain ⟨x0, -⟩ := hs
      have e0 : aF.eval (.tmp 34) = .string s0 := x0
      refine opC_value (v := .string y0) ?_ ⟨rfl, below_same wF⟩
      simp [execOp, go_sem, ev_of e0, h0]
      omega
    refine ⟨step_free rfl (fun aF wF hs hb => ?_), ?_⟩
    · obtain ⟨x0, -⟩ := hs
      have e0 : aF.eval (.tmp 3) = .string s1 := x0
      exact opC_move e0 ⟨rfl, below_same wF⟩
    refine ⟨step_free rfl (fun aF wF hs hb => ?_), ?_⟩
    · obtain ⟨x0, x1, -⟩ := hs
      have e0 : aF.eval (.tmp 35) = .string y0 := x0
      have e1 : aF.eval (.tmp 36) = .string s1 := x1
      refine opC_value (v := .string y1) ?_ ⟨rfl, below_same wF⟩
      simp [execOp, go_sem, ev_of e0, ev_of e1, h1]
      omega
    refine ⟨step_free rfl (fun aF wF hs hb => ?_), ?_⟩
    · obtain ⟨x0, -⟩ := hs
      have e0 : aF.eval (.tmp 37) = .string y1 := x0
      refine opC_value (v := .string y2) ?_ ⟨rfl, below_same wF⟩
      simp [execOp, go_sem, ev_of e0, h2]
      omega
    refine ⟨step_free rfl (fun aF wF hs hb => ?_), ?_⟩
    · obtain ⟨x0, -⟩ := hs
      have e0 : aF.eval (.tmp 4) = .string s2 := x0
      exact opC_move e0 ⟨rfl, below_same wF⟩
    refine ⟨step_free rfl (fun aF wF hs hb => ?_), ?_⟩
    · obtain ⟨x0, x1, -⟩ := hs
      have e0 : aF.eval (.tmp 38) = .string y2 := x0
      have e1 : aF.eval (.tmp 39) = .string s2 := x1
      refine opC_value (v := .string y3) ?_ ⟨rfl, below_same wF⟩
      simp [execOp, go_sem, ev_of e0, ev_of e1, h3]
      omega
    refine ⟨step_free rfl (fun aF wF hs hb => ?_), ?_⟩
    · obtain ⟨x0, -⟩ := hs
      have e0 : aF.eval (.tmp 40) = .string y3 := x0
      refine opC_value (v := .string y4) ?_ ⟨rfl, below_same wF⟩
      simp [execOp, go_sem, ev_of e0, h4]
      omega
    refine ⟨step_free rfl (fun aF wF hs hb => ?_), ?_⟩
    · obtain ⟨x0, -⟩ := hs
      have e0 : aF.eval (.tmp 1) = .pointer (some ⟨b, 0, none⟩) := x0
      refine opC_value (v := .pointer (some ⟨b, 10, none⟩)) ?_ ⟨rfl, below_same wF⟩
      have t0 := ev_of e0
      simp [execOp, go_sem, t0]
    refine ⟨step_free rfl (fun aF wF hs hb => ?_), ?_⟩
    · obtain ⟨x0, -⟩ := hs
      have e0 : aF.eval (.tmp 42) = .pointer (some ⟨b, 10, none⟩) := x0
      refine opC_value (v := .pointer (some ⟨b, 11, none⟩)) ?_ ⟨rfl, below_same wF⟩
      have t0 := ev_of e0
      simp [execOp, go_sem, t0]
    refine ⟨step_free rfl (fun aF wF hs hb => ?_), ?_⟩
    · obtain ⟨x0, -⟩ := hs
      have e0 : aF.eval (.tmp 43) = .pointer (some ⟨b, 11, none⟩) := x0
      exact opC_load e0 (LE1 wF hb) ⟨rfl, below_same wF⟩
    refine ⟨step_free rfl (fun aF wF hs hb => ?_), ?_⟩
    · obtain ⟨x0, -⟩ := hs
      have e0 : aF.eval (.tmp 44) = .int .i64 d := x0
      exact opC_call (args := #[.int .i64 d]) (enters9 Tryz.func51 (by kernel_rfl) rfl) (by simp [e0]) (C5a wF) (fun _ h => ⟨rfl, h⟩)
    refine ⟨step_free rfl (fun aF wF hs hb => ?_), ?_⟩
    · obtain ⟨x0, -⟩ := hs
      have e0 : aF.eval (.tmp 45) = .agg #[.int .i64 (cY d), .int .i64 (cM d), .int .i64 (cD d)] := x0
      exact opC_call (args := #[.agg #[.int .i64 (cY d), .int .i64 (cM d), .int .i64 (cD d)]]) (enters9 Tryz.func50 (by kernel_rfl) rfl) (by simp [e0]) (C5b wF) (fun _ h => ⟨rfl, h⟩)
    refine ⟨step_free rfl (fun aF wF hs hb => ?_), ?_⟩
    · obtain ⟨x0, x1, -⟩ := hs
      have e0 : aF.eval (.tmp 41) = .string y4 := x0
      have e1 : aF.eval (.tmp 46) = .string s3 := x1
      refine opC_value (v := .string y5) ?_ ⟨rfl, below_same wF⟩
      simp [execOp, go_sem, ev_of e0, ev_of e1, h5]
      omega
    refine ⟨step_free rfl (fun aF wF hs hb => ?_), ?_⟩
    · obtain ⟨x0, -⟩ := hs
      have e0 : aF.eval (.tmp 47) = .string y5 := x0
      exact opC_assign e0 ⟨rfl, below_same wF⟩
    exact trivial
  intro fv w7 hf hb7
  have p5 : fv 20 = .string y5 := hf 20 5 rfl
  have HQ7 := Lib.hid (HQ6.out.below hb7 HQ6.out.lt)
  have HB7 := Lib.hid (HB6.out.trans (hb7.mono (by have := HB6.out.size; have := HW.out.2; omega)))
  simp only [putF, Act.put, List.setIfInBounds_toArray, List.set_cons_zero, List.set_cons_succ]
  rw [p5]
  clear p5 hf hb7 LE1 LE2 C5a C5b HQ6 HB6
  obtain ⟨z0, z1, z2, z3, z4, z5, z6, z7, z8, z9, z10, z11, z12, z13⟩ := blk14 HQ7.out
  have z4' : (textC m).size ≤ 30 := by rw [Lib.size_eq]; exact textC_len m hm
  have C4 := fun W => RText4_any m (by omega) W
  obtain ⟨s4, q4⟩ : ∃ x, textC m = x := ⟨_, rfl⟩
  rw [q4] at C4 z4'
  rw [q4]
  have y6 : ((⟨#[32]⟩ : ByteArray) ++ s4).size ≤ 40 := by rw [ByteArray.size_append]; omega
  have hR2 : y5 ++ ((⟨#[32]⟩ : ByteArray) ++ s4) = sps [kindS 6, s1, s2, s3, s4] := by
    rw [HR.out, ← sps5, ← sps4]
  have HR2 := Lib.hid hR2
  obtain ⟨u6, h6⟩ : ∃ x, (⟨#[32]⟩ : ByteArray) ++ s4 = x := ⟨_, rfl⟩
  rw [h6] at y6 hR2
  have HR3 := Lib.hid hR2
  have y7 : (y5 ++ u6).size ≤ 400 := by rw [ByteArray.size_append]; omega
  have HQ4 := Lib.hid q4
  clear hR2 q4 hm
  go_wp2_with fail
  refine (C4 _).mono ?_
  rintro e w8 ⟨rfl, rfl⟩
  clear C4
  go_wp2_with fail
  go_ret
  exact ⟨by rw [HS.out.2, HQ4.out, ← HR3.out]; first | rfl | simp, by rw [HW.out.2]; exact HB7.out⟩
set_option maxRecDepth 100000 in
set_option maxHeartbeats 4000000 in
theorem RT20_27 {a K R B s : Nat} {P M S F G d m : Int} (hd : 0 ≤ d ∧ d ≤ 3652058) (ha : a < 4294967296) (hs : s < 4294967296) (w : World) : Calls Tryz.prog 21 #[.agg #[.int .u8 2, .int .u32 (a : Int), .int .u8 (K : Int), .int .i64 P, .int .u32 (R : Int), .int .u8 (B : Int), .int .i64 M, .int .i64 S, .int .i64 F, .int .i64 G, .int .u32 (s : Int), .int .i64 d, .int .u8 7, .int .i64 m]] w (Ret (.string (sps [kindS 7, dec a, dec s, dayText d])) w) := by
  have HQ0 := Lib.hid (Blk.new w 44 #[.int .u8 2, .int .u32 (a : Int), .int .u8 (K : Int), .int .i64 P, .int .u32 (R : Int), .int .u8 (B : Int), .int .i64 M, .int .i64 S, .int .i64 F, .int .i64 G, .int .u32 (s : Int), .int .i64 d, .int .u8 7, .int .i64 m])
  have HB0 := Lib.hid (b_alloc w (.cells #[.int .u8 2, .int .u32 (a : Int), .int .u8 (K : Int), .int .i64 P, .int .u32 (R : Int), .int .u8 (B : Int), .int .i64 M, .int .i64 S, .int .i64 F, .int .i64 G, .int .u32 (s : Int), .int .i64 d, .int .u8 7, .int .i64 m] 44))
  have za : (dec a).size ≤ 30 := by rw [Lib.size_eq]; exact dec_len a (by omega)
  have zb : (dec s).size ≤ 30 := by rw [Lib.size_eq]; exact dec_len s (by omega)
  have wa : IntKind.u64.wrap (a : Int) = (a : Int) := by rw [IntKind.wrap_u64]; omega
  have ws : IntKind.u64.wrap (s : Int) = (s : Int) := by rw [IntKind.wrap_u64]; omega
  have CA := fun W => rdec a ha W
  have CB := fun W => rdec s hs W
  obtain ⟨s1, q1⟩ : ∃ x, dec a = x := ⟨_, rfl⟩
  obtain ⟨s2, q2⟩ : ∃ x, dec s = x := ⟨_, rfl⟩
  rw [q1] at CA za
  rw [q2] at CB zb
  rw [q1, q2]
  obtain ⟨W0, hW⟩ : ∃ W, w.alloc (.cells #[.int .u8 2, .int .u32 (a : Int), .int .u8 (K : Int), .int .i64 P, .int .u32 (R : Int), .int .u8 (B : Int), .int .i64 M, .int .i64 S, .int .i64 F, .int .i64 G, .int .u32 (s : Int), .int .i64 d, .int .u8 7, .int .i64 m] 44) = W := ⟨_, rfl⟩
  obtain ⟨b, hb⟩ : ∃ b, w.heap.size = b := ⟨_, rfl⟩
  rw [hW, hb] at HQ0 HB0
  have HW := Lib.hid (And.intro hW hb)
  clear hW hb q1 q2 ha hs
  have LDa : ∀ W, Below W0.heap.size W0 W → (Instr.loadAt 22 (.pointer (some ⟨b, 1, none⟩))).run Tryz.prog W = .ok (.int .u32 (a : Int)) W := fun W hb => by
    obtain ⟨_, c1, -⟩ := blk14 (HQ0.out.below hb HQ0.out.lt)
    go_simp
  have LDs : ∀ W, Below W0.heap.size W0 W → (Instr.loadAt 22 (.pointer (some ⟨b, 10, none⟩))).run Tryz.prog W = .ok (.int .u32 (s : Int)) W := fun W hb => by
    obtain ⟨_, _, _, _, _, _, _, _, _, _, c1, -⟩ := blk14 (HQ0.out.below hb HQ0.out.lt)
    go_simp
  go_enter Tryz.func21, Tryz.ntmps21
  go_upto_region 1 with (fail)
  rw [HW.out.1, HW.out.2]
  refine wp_region_flow [some 6, some 7, some 8, some 9, some 10, some 11, some 12, some 13, some 14, some 3, some 4] (fun i => ([.is (.pointer (some ⟨b, 1, none⟩)), .is (.int .u32 (a : Int)), .is (.int .u64 (a : Int)), .is (.string s1), .is (.pointer (some ⟨b, 10, none⟩)), .is (.pointer (some ⟨b, 10, none⟩)), .is (.int .u32 (s : Int)), .is (.int .u64 (s : Int)), .is (.string s2), .is (.string s1), .is (.string s2)] : List Flw).getD i .any) (by kernel_rfl) (by kernel_rfl) rfl ?_ ?_
  · skip
    refine ⟨step_free rfl (fun aF wF hs hb => ?_), ?_⟩
    · obtain ⟨x0, -⟩ := hs
      have e0 : aF.eval (.tmp 1) = .pointer (some ⟨b, 0, none⟩) := x0
      refine opC_value (v := .pointer (some ⟨b, 1, none⟩)) ?_ ⟨rfl, below_same wF⟩
      have t0 := ev_of e0
      simp [execOp, go_sem, t0]
    refine ⟨step_free rfl (fun aF wF hs hb => ?_), ?_⟩
    · obtain ⟨x0, -⟩ := hs
      have e0 : aF.eval (.tmp 6) = .pointer (some ⟨b, 1, none⟩) := x0
      exact opC_load e0 (LDa wF hb) ⟨rfl, below_same wF⟩
    refine ⟨step_free rfl (fun aF wF hs hb => ?_), ?_⟩
    · obtain ⟨x0, -⟩ := hs
      have e0 : aF.eval (.tmp 7) = .int .u32 (a : Int) := x0
      refine opC_value (v := .int .u64 (a : Int)) ?_ ⟨rfl, below_same wF⟩
      simp [execOp, go_sem, ev_of e0, wa]
    refine ⟨step_free rfl (fun aF wF hs hb => ?_), ?_⟩
    · obtain ⟨x0, -⟩ := hs
      have e0 : aF.eval (.tmp 8) = .int .u64 (a : Int) := x0
      exact opC_call (args := #[.int .u64 (a : Int)]) (enters9 Tryz.func48 (by kernel_rfl) rfl) (by simp [e0]) (CA wF) (fun _ h => ⟨rfl, h⟩)
    refine ⟨step_free rfl (fun aF wF hs hb => ?_), ?_⟩
    · obtain ⟨x0, -⟩ := hs
      have e0 : aF.eval (.tmp 1) = .pointer (some ⟨b, 0, none⟩) := x0
      refine opC_value (v := .pointer (some ⟨b, 10, none⟩)) ?_ ⟨rfl, below_same wF⟩
      have t0 := ev_of e0
      simp [execOp, go_sem, t0]
    refine ⟨step_free rfl (fun aF wF hs hb => ?_), ?_⟩
    · obtain ⟨x0, -⟩ := hs
      have e0 : aF.eval (.tmp 10) = .pointer (some ⟨b, 10, none⟩) := x0
      refine opC_value (v := .pointer (some ⟨b, 10, none⟩)) ?_ ⟨rfl, below_same wF⟩
      have t0 := ev_of e0
      simp [execOp, go_sem, t0]
    refine ⟨step_free rfl (fun aF wF hs hb => ?_), ?_⟩
    · obtain ⟨x0, -⟩ := hs
      have e0 : aF.eval (.tmp 11) = .pointer (some ⟨b, 10, none⟩) := x0
      exact opC_load e0 (LDs wF hb) ⟨rfl, below_same wF⟩
    refine ⟨step_free rfl (fun aF wF hs hb => ?_), ?_⟩
    · obtain ⟨x0, -⟩ := hs
      have e0 : aF.eval (.tmp 12) = .int .u32 (s : Int) := x0
      refine opC_value (v := .int .u64 (s : Int)) ?_ ⟨rfl, below_same wF⟩
      simp [execOp, go_sem, ev_of e0, ws]
    refine ⟨step_free rfl (fun aF wF hs hb => ?_), ?_⟩
    · obtain ⟨x0, -⟩ := hs
      have e0 : aF.eval (.tmp 13) = .int .u64 (s : Int) := x0
      exact opC_call (args := #[.int .u64 (s : Int)]) (enters9 Tryz.func48 (by kernel_rfl) rfl) (by simp [e0]) (CB wF) (fun _ h => ⟨rfl, h⟩)
    refine ⟨step_free rfl (fun aF wF hs hb => ?_), ?_⟩
    · obtain ⟨x0, -⟩ := hs
      have e0 : aF.eval (.tmp 9) = .string s1 := x0
      exact opC_assign e0 ⟨rfl, below_same wF⟩
    refine ⟨step_free rfl (fun aF wF hs hb => ?_), ?_⟩
    · obtain ⟨x0, -⟩ := hs
      have e0 : aF.eval (.tmp 14) = .string s2 := x0
      exact opC_assign e0 ⟨rfl, below_same wF⟩
    exact trivial
  intro fv w6 hf hb6
  have p3 : fv 9 = .string s1 := hf 9 3 rfl
  have p4 : fv 10 = .string s2 := hf 10 4 rfl
  have HQ6 := Lib.hid (HQ0.out.below hb6 HQ0.out.lt)
  have HB6 := Lib.hid (HB0.out.trans (hb6.mono (by have := HQ0.out.lt; omega)))
  simp only [putF, Act.put, List.setIfInBounds_toArray, List.set_cons_zero, List.set_cons_succ]
  rw [p3, p4]
  clear p3 p4 hf hb6 LDa LDs CA CB HQ0 HB0 wa ws
  obtain ⟨z0, z1, z2, z3, z4, z5, z6, z7, z8, z9, z10, z11, z12, z13⟩ := blk14 HQ6.out
  have LE1 : ∀ W, Below w6.heap.size w6 W → (Instr.loadAt 3 (.pointer (some ⟨b, 11, none⟩))).run Tryz.prog W = .ok (.int .i64 d) W := fun W hb => by
    obtain ⟨_, _, _, _, _, _, _, _, _, _, _, c1, -⟩ := blk14 (HQ6.out.below hb HQ6.out.lt)
    go_simp
  have LE2 : ∀ W, Below w6.heap.size w6 W → (Instr.loadAt 5 (.pointer (some ⟨b, 12, none⟩))).run Tryz.prog W = .ok (.int .u8 7) W := fun W hb => by
    obtain ⟨_, _, _, _, _, _, _, _, _, _, _, _, c1, -⟩ := blk14 (HQ6.out.below hb HQ6.out.lt)
    go_simp
  have C5a := fun W => RCivil_any d W hd.1 hd.2
  have hci := civ_in d hd.1 hd.2
  have C5b := fun W => RText5_any (cY d).toNat (cM d).toNat (cD d).toNat (by omega) (by omega) (by omega) W
  rw [show ((cY d).toNat : Int) = cY d by omega, show ((cM d).toNat : Int) = cM d by omega, show ((cD d).toNat : Int) = cD d by omega] at C5b
  have hdt : textS (cY d).toNat (cM d).toNat (cD d).toNat = dayText d := rfl
  rw [hdt] at C5b
  have z3' : (dayText d).size ≤ 30 := by rw [Lib.size_eq]; exact day_len d
  obtain ⟨s3, q3⟩ : ∃ x, dayText d = x := ⟨_, rfl⟩
  rw [q3] at C5b z3'
  rw [q3]
  obtain ⟨s0, q0⟩ : ∃ x : ByteArray, ⟨#[111, 102, 102]⟩ = x := ⟨_, rfl⟩
  have z0' : s0.size ≤ 30 := by rw [← q0]; decide
  have x1 : (⟨#[32]⟩ : ByteArray).size = 1 := rfl
  obtain ⟨y0, h0⟩ : ∃ y, s0 ++ (⟨#[32]⟩ : ByteArray) = y := ⟨_, rfl⟩
  have zy0 : y0.size ≤ 62 := by
    rw [← h0, ByteArray.size_append]
    omega
  obtain ⟨y1, h1⟩ : ∃ y, y0 ++ s1 = y := ⟨_, rfl⟩
  have zy1 : y1.size ≤ 93 := by
    rw [← h1, ByteArray.size_append]
    omega
  obtain ⟨y2, h2⟩ : ∃ y, y1 ++ (⟨#[32]⟩ : ByteArray) = y := ⟨_, rfl⟩
  have zy2 : y2.size ≤ 124 := by
    rw [← h2, ByteArray.size_append]
    omega
  obtain ⟨y3, h3⟩ : ∃ y, y2 ++ s2 = y := ⟨_, rfl⟩
  have zy3 : y3.size ≤ 155 := by
    rw [← h3, ByteArray.size_append]
    omega
  obtain ⟨y4, h4⟩ : ∃ y, y3 ++ (⟨#[32]⟩ : ByteArray) = y := ⟨_, rfl⟩
  have zy4 : y4.size ≤ 186 := by
    rw [← h4, ByteArray.size_append]
    omega
  obtain ⟨y5, h5⟩ : ∃ y, y4 ++ s3 = y := ⟨_, rfl⟩
  have zy5 : y5.size ≤ 217 := by
    rw [← h5, ByteArray.size_append]
    omega
  have hR : y5 = sps [kindS 7, s1, s2, s3] := by
    rw [← sps4, ← h5, ← h4, ← h3, ← h2, ← h1, ← h0, ← q0]
    rfl
  have HR := Lib.hid hR
  have HS := Lib.hid (And.intro q0 q3)
  clear hR hdt hci hd q0 q3
  go_upto_region 6 with (fail)
  clear z0 z1 z2 z3 z4 z5 z6 z7 z8 z9 z10 z11 z12 z13
  refine wp_region_flow [some 28, some 29, some 30, some 31, some 32, some 33, some 34, some 35, some 36, some 37, some 38, some 39, some 40, some 41, some 42, some 43, some 44, some 45, some 46, some 47, some 5] (fun i => ([strsF 4 (#[.string ⟨#[112, 97, 121]⟩, .string ⟨#[102, 101, 101]⟩, .string ⟨#[119, 97, 105, 118, 101]⟩, .string s0]), .is (.pointer (some ⟨b, 10, none⟩)), .is (.pointer (some ⟨b, 12, none⟩)), .is (.int .u8 7), .is (.int .u8 3), cellF 4 3 (#[.string ⟨#[112, 97, 121]⟩, .string ⟨#[102, 101, 101]⟩, .string ⟨#[119, 97, 105, 118, 101]⟩, .string s0]), .is (.string s0), .is (.string y0), .is (.string s1), .is (.string y1), .is (.string y2), .is (.string s2), .is (.string y3), .is (.string y4), .is (.pointer (some ⟨b, 10, none⟩)), .is (.pointer (some ⟨b, 11, none⟩)), .is (.int .i64 d), .is (.agg #[.int .i64 (cY d), .int .i64 (cM d), .int .i64 (cD d)]), .is (.string s3), .is (.string y5), .is (.string y5)] : List Flw).getD i .any) (by kernel_rfl) (by kernel_rfl) rfl ?_ ?_
  · skip
    refine ⟨step_free rfl (fun aF wF hs hb => ?_), ?_⟩
    · exact opC_strs4 rfl rfl rfl rfl ⟨⟨_, rfl, by rw [← HS.out.1]; exact Blk.new _ _ _⟩, (Below.refl _ wF).alloc (Nat.le_refl _) _⟩
    refine ⟨step_free rfl (fun aF wF hs hb => ?_), ?_⟩
    · obtain ⟨x0, -⟩ := hs
      have e0 : aF.eval (.tmp 1) = .pointer (some ⟨b, 0, none⟩) := x0
      refine opC_value (v := .pointer (some ⟨b, 10, none⟩)) ?_ ⟨rfl, below_same wF⟩
      have t0 := ev_of e0
      simp [execOp, go_sem, t0]
    refine ⟨step_free rfl (fun aF wF hs hb => ?_), ?_⟩
    · obtain ⟨x0, -⟩ := hs
      have e0 : aF.eval (.tmp 29) = .pointer (some ⟨b, 10, none⟩) := x0
      refine opC_value (v := .pointer (some ⟨b, 12, none⟩)) ?_ ⟨rfl, below_same wF⟩
      have t0 := ev_of e0
      simp [execOp, go_sem, t0]
    refine ⟨step_free rfl (fun aF wF hs hb => ?_), ?_⟩
    · obtain ⟨x0, -⟩ := hs
      have e0 : aF.eval (.tmp 30) = .pointer (some ⟨b, 12, none⟩) := x0
      exact opC_load e0 (LE2 wF hb) ⟨rfl, below_same wF⟩
    refine ⟨step_free rfl (fun aF wF hs hb => ?_), ?_⟩
    · obtain ⟨x0, -⟩ := hs
      have e0 : aF.eval (.tmp 31) = .int .u8 7 := x0
      refine opC_value (v := .int .u8 3) ?_ ⟨rfl, below_same wF⟩
      simp [execOp, go_sem, ev_of e0]
      decide
    refine ⟨step_free rfl (fun aF wF hs hb => ?_), ?_⟩
    · obtain ⟨x0, x1, -⟩ := hs
      obtain ⟨g0, e0, hg0⟩ : (strsF 4 (#[.string ⟨#[112, 97, 121]⟩, .string ⟨#[102, 101, 101]⟩, .string ⟨#[119, 97, 105, 118, 101]⟩, .string s0])).p (aF.eval (.tmp 28)) wF := x0
      have e1 : aF.eval (.tmp 32) = .int .u8 3 := x1
      refine opC_value (v := .pointer (some ⟨g0, 3, none⟩)) ?_ ⟨⟨g0, rfl, hg0⟩, below_same wF⟩
      simp [execOp, go_sem, ev_of e0, ev_of e1]
    refine ⟨step_free rfl (fun aF wF hs hb => ?_), ?_⟩
    · obtain ⟨x0, -⟩ := hs
      obtain ⟨g0, e0, hg0⟩ : (cellF 4 3 (#[.string ⟨#[112, 97, 121]⟩, .string ⟨#[102, 101, 101]⟩, .string ⟨#[119, 97, 105, 118, 101]⟩, .string s0])).p (aF.eval (.tmp 33)) wF := x0
      have c0 := hg0.cell 3
      simp at c0
      refine opC_load e0 ?_ ⟨rfl, below_same wF⟩
      go_simp
    refine ⟨step_free rfl (fun aF wF hs hb => ?_), ?_⟩
    · obtain ⟨x0, -⟩ := hs
      have e0 : aF.eval (.tmp 34) = .string s0 := x0
      refine opC_value (v := .string y0) ?_ ⟨rfl, below_same wF⟩
      simp [execOp, go_sem, ev_of e0, h0]
      omega
    refine ⟨step_free rfl (fun aF wF hs hb => ?_), ?_⟩
    · obtain ⟨x0, -⟩ := hs
      have e0 : aF.eval (.tmp 3) = .string s1 := x0
      exact opC_move e0 ⟨rfl, below_same wF⟩
    refine ⟨step_free rfl (fun aF wF hs hb => ?_), ?_⟩
    · obtain ⟨x0, x1, -⟩ := hs
      have e0 : aF.eval (.tmp 35) = .string y0 := x0
      have e1 : aF.eval (.tmp 36) = .string s1 := x1
      refine opC_value (v := .string y1) ?_ ⟨rfl, below_same wF⟩
      simp [execOp, go_sem, ev_of e0, ev_of e1, h1]
      omega
    refine ⟨step_free rfl (fun aF wF hs hb => ?_), ?_⟩
    · obtain ⟨x0, -⟩ := hs
      have e0 : aF.eval (.tmp 37) = .string y1 := x0
      refine opC_value (v := .string y2) ?_ ⟨rfl, below_same wF⟩
      simp [execOp, go_sem, ev_of e0, h2]
      omega
    refine ⟨step_free rfl (fun aF wF hs hb => ?_), ?_⟩
    · obtain ⟨x0, -⟩ := hs
      have e0 : aF.eval (.tmp 4) = .string s2 := x0
      exact opC_move e0 ⟨rfl, below_same wF⟩
    refine ⟨step_free rfl (fun aF wF hs hb => ?_), ?_⟩
    · obtain ⟨x0, x1, -⟩ := hs
      have e0 : aF.eval (.tmp 38) = .string y2 := x0
      have e1 : aF.eval (.tmp 39) = .string s2 := x1
      refine opC_value (v := .string y3) ?_ ⟨rfl, below_same wF⟩
      simp [execOp, go_sem, ev_of e0, ev_of e1, h3]
      omega
    refine ⟨step_free rfl (fun aF wF hs hb => ?_), ?_⟩
    · obtain ⟨x0, -⟩ := hs
      have e0 : aF.eval (.tmp 40) = .string y3 := x0
      refine opC_value (v := .string y4) ?_ ⟨rfl, below_same wF⟩
      simp [execOp, go_sem, ev_of e0, h4]
      omega
    refine ⟨step_free rfl (fun aF wF hs hb => ?_), ?_⟩
    · obtain ⟨x0, -⟩ := hs
      have e0 : aF.eval (.tmp 1) = .pointer (some ⟨b, 0, none⟩) := x0
      refine opC_value (v := .pointer (some ⟨b, 10, none⟩)) ?_ ⟨rfl, below_same wF⟩
      have t0 := ev_of e0
      simp [execOp, go_sem, t0]
    refine ⟨step_free rfl (fun aF wF hs hb => ?_), ?_⟩
    · obtain ⟨x0, -⟩ := hs
      have e0 : aF.eval (.tmp 42) = .pointer (some ⟨b, 10, none⟩) := x0
      refine opC_value (v := .pointer (some ⟨b, 11, none⟩)) ?_ ⟨rfl, below_same wF⟩
      have t0 := ev_of e0
      simp [execOp, go_sem, t0]
    refine ⟨step_free rfl (fun aF wF hs hb => ?_), ?_⟩
    · obtain ⟨x0, -⟩ := hs
      have e0 : aF.eval (.tmp 43) = .pointer (some ⟨b, 11, none⟩) := x0
      exact opC_load e0 (LE1 wF hb) ⟨rfl, below_same wF⟩
    refine ⟨step_free rfl (fun aF wF hs hb => ?_), ?_⟩
    · obtain ⟨x0, -⟩ := hs
      have e0 : aF.eval (.tmp 44) = .int .i64 d := x0
      exact opC_call (args := #[.int .i64 d]) (enters9 Tryz.func51 (by kernel_rfl) rfl) (by simp [e0]) (C5a wF) (fun _ h => ⟨rfl, h⟩)
    refine ⟨step_free rfl (fun aF wF hs hb => ?_), ?_⟩
    · obtain ⟨x0, -⟩ := hs
      have e0 : aF.eval (.tmp 45) = .agg #[.int .i64 (cY d), .int .i64 (cM d), .int .i64 (cD d)] := x0
      exact opC_call (args := #[.agg #[.int .i64 (cY d), .int .i64 (cM d), .int .i64 (cD d)]]) (enters9 Tryz.func50 (by kernel_rfl) rfl) (by simp [e0]) (C5b wF) (fun _ h => ⟨rfl, h⟩)
    refine ⟨step_free rfl (fun aF wF hs hb => ?_), ?_⟩
    · obtain ⟨x0, x1, -⟩ := hs
      have e0 : aF.eval (.tmp 41) = .string y4 := x0
      have e1 : aF.eval (.tmp 46) = .string s3 := x1
      refine opC_value (v := .string y5) ?_ ⟨rfl, below_same wF⟩
      simp [execOp, go_sem, ev_of e0, ev_of e1, h5]
      omega
    refine ⟨step_free rfl (fun aF wF hs hb => ?_), ?_⟩
    · obtain ⟨x0, -⟩ := hs
      have e0 : aF.eval (.tmp 47) = .string y5 := x0
      exact opC_assign e0 ⟨rfl, below_same wF⟩
    exact trivial
  intro fv w7 hf hb7
  have p5 : fv 20 = .string y5 := hf 20 5 rfl
  have HQ7 := Lib.hid (HQ6.out.below hb7 HQ6.out.lt)
  have HB7 := Lib.hid (HB6.out.trans (hb7.mono (by have := HB6.out.size; have := HW.out.2; omega)))
  simp only [putF, Act.put, List.setIfInBounds_toArray, List.set_cons_zero, List.set_cons_succ]
  rw [p5]
  clear p5 hf hb7 LE1 LE2 C5a C5b HQ6 HB6
  obtain ⟨z0, z1, z2, z3, z4, z5, z6, z7, z8, z9, z10, z11, z12, z13⟩ := blk14 HQ7.out
  go_wp2_with fail
  go_ret
  exact ⟨by rw [HS.out.2, ← HR.out]; first | rfl | simp, by rw [HW.out.2]; exact HB7.out⟩
theorem RText20 {o : Ord} (hi : o.In) (h : o.Right) (w : World) : Calls Tryz.prog 21 #[o.r] w (Ret (.string o.text) w) := by
  obtain ⟨h0, h1, h2, h3, h4⟩ := h
  have ha := hi.a
  have hs := hi.e.s
  have hm := hi.e.m
  unfold Ord.text
  by_cases k1 : o.k = 1
  · rw [if_pos k1]
    have hR := h1 k1
    have cT := fun W => cRTextO hR W
    have htx := Trm.size hR
    clear h0 h1 h2 h3 h4 hR hi
    obtain ⟨k, a, ⟨K, P, R, B, M, S, F, G⟩, s, d, ek, m⟩ := o
    dsimp only at k1
    subst k1
    exact RT20_1 htx cT ha hs w
  rw [if_neg k1]
  by_cases k3 : o.k = 3
  · rw [if_pos k3]
    clear h0 h1 h2 h3 h4 hi
    obtain ⟨k, a, ⟨K, P, R, B, M, S, F, G⟩, s, d, ek, m⟩ := o
    dsimp only at k3
    subst k3
    exact RT20_3 ha hs w
  rw [if_neg k3]
  by_cases k4 : o.k = 4
  · rw [if_pos k4]
    clear h0 h1 h2 h3 h4 hi
    obtain ⟨k, a, ⟨K, P, R, B, M, S, F, G⟩, s, d, ek, m⟩ := o
    dsimp only at k4
    subst k4
    exact RT20_4 ha hs w
  rw [if_neg k4]
  have k2 : o.k = 2 := by omega
  obtain ⟨hd, hk⟩ := h2 k2
  clear h0 h1 h2 h3 h4 hi
  obtain ⟨k, a, ⟨K, P, R, B, M, S, F, G⟩, s, d, ek, m⟩ := o
  dsimp only at k2 hd hk ha hs hm ⊢
  subst k2
  rcases (show ek = 4 ∨ ek = 5 ∨ ek = 6 ∨ ek = 7 by omega) with rfl | rfl | rfl | rfl
  · rw [if_neg (by decide)]; exact RT20_24 hd hm ha hs w
  · rw [if_neg (by decide)]; exact RT20_25 hd hm ha hs w
  · rw [if_neg (by decide)]; exact RT20_26 hd hm ha hs w
  · rw [if_pos rfl]; exact RT20_27 hd ha hs w
end Go.Proofs.YtjlajnackecfgaaGreatDoor
