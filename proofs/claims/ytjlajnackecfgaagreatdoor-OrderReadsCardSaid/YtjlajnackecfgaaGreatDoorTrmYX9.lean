/-
The document's words of terms. Conditions: terms that are Right.
-/
import Derived.Test.YtjlajnackecfgaaGreatDoorTrmDX9
import Derived.Test.YtjlajnackecfgaaGreatDoorTxtCX9
import Derived.Test.YtjlajnackecfgaaGreatDoorCRdNX9
import Derived.Test.YtjlajnackecfgaaGreatDoorDateHX9
import Derived.Test.YtjlajnackecfgaaGreatDoorFlowX9
import Derived.Test.YtjlajnackecfgaaGreatDoorByFX9
namespace Go.Proofs.YtjlajnackecfgaaGreatDoor
open Go.ChangeShapes Go.WideShapes Go.ChangeAt Go.RowKit

theorem sps8 (s0 s1 s2 s3 s4 s5 s6 s7 : ByteArray) : ((((((((((((((s0 ++ (⟨#[32]⟩ : ByteArray)) ++ s1) ++ (⟨#[32]⟩ : ByteArray)) ++ s2) ++ (⟨#[32]⟩ : ByteArray)) ++ s3) ++ (⟨#[32]⟩ : ByteArray)) ++ s4) ++ (⟨#[32]⟩ : ByteArray)) ++ s5) ++ (⟨#[32]⟩ : ByteArray)) ++ s6) ++ (⟨#[32]⟩ : ByteArray)) ++ s7) = sps [s0, s1, s2, s3, s4, s5, s6, s7] := by
  apply bytes_inj
  simp [sps, Lib.join_cons, Lib.joinTail, ByteArray.data_append]
set_option maxRecDepth 100000 in
set_option maxHeartbeats 4000000 in
theorem RText_11 {R M G : Nat} {P S F : Int} (hR : R ≤ 1000000) (hP : 1 ≤ P ∧ P ≤ 1000000000000) (hM : 1 ≤ M ∧ M ≤ 480) (hS : 0 ≤ S ∧ S ≤ 3600000) (hF : 0 ≤ F ∧ F ≤ 1000000000) (hG : G ≤ 60) (w : World) : Calls Tryz.prog 49 #[.agg #[.int .u8 1, .int .i64 P, .int .u32 (R : Int), .int .u8 1, .int .i64 (M : Int), .int .i64 S, .int .i64 F, .int .i64 (G : Int)]] w (Ret (.string (sps [⟨#[108, 101, 118, 101, 108]⟩, textC P, dec R, ⟨#[97, 99, 116, 117, 97, 108]⟩, dec M, dayText S, textC F, dec G])) w) := by
  have hw2 : IntKind.u64.wrap (R : Int) = (R : Int) := by rw [IntKind.wrap_u64]; omega
  have hw4 : IntKind.u64.wrap (M : Int) = (M : Int) := by rw [IntKind.wrap_u64]; omega
  have hw7 : IntKind.u64.wrap (G : Int) = (G : Int) := by rw [IntKind.wrap_u64]; omega
  have C1 : ∀ W, Calls Tryz.prog 52 #[.int .i64 P] W fun e w' => e = .returned (.string (textC P)) ∧ Below W.heap.size W w' := fun W => (RText4_any P (by omega) W).mono fun e w' ⟨h1, h2⟩ => ⟨h1, by rw [← h2]; exact Below.refl _ _⟩
  have C6 : ∀ W, Calls Tryz.prog 52 #[.int .i64 F] W fun e w' => e = .returned (.string (textC F)) ∧ Below W.heap.size W w' := fun W => (RText4_any F (by omega) W).mono fun e w' ⟨h1, h2⟩ => ⟨h1, by rw [← h2]; exact Below.refl _ _⟩
  have C2 : ∀ W, Calls Tryz.prog 48 #[.int .u64 (R : Int)] W fun e w' => e = .returned (.string (dec R)) ∧ Below W.heap.size W w' := fun W => (RDec_any R (by omega) W).mono fun e w' ⟨h1, h2⟩ => ⟨h1, by rw [← h2]; exact Below.refl _ _⟩
  have C4 : ∀ W, Calls Tryz.prog 48 #[.int .u64 (M : Int)] W fun e w' => e = .returned (.string (dec M)) ∧ Below W.heap.size W w' := fun W => (RDec_any M (by omega) W).mono fun e w' ⟨h1, h2⟩ => ⟨h1, by rw [← h2]; exact Below.refl _ _⟩
  have C7 : ∀ W, Calls Tryz.prog 48 #[.int .u64 (G : Int)] W fun e w' => e = .returned (.string (dec G)) ∧ Below W.heap.size W w' := fun W => (RDec_any G (by omega) W).mono fun e w' ⟨h1, h2⟩ => ⟨h1, by rw [← h2]; exact Below.refl _ _⟩
  have C5a := fun W => RCivil_any S W hS.1 (by omega)
  have hci := civ_in S hS.1 (by omega)
  have C5b := fun W => RText5_any (cY S).toNat (cM S).toNat (cD S).toNat (by omega) (by omega) (by omega) W
  rw [show ((cY S).toNat : Int) = cY S by omega, show ((cM S).toNat : Int) = cM S by omega, show ((cD S).toNat : Int) = cD S by omega] at C5b
  have hdt : textS (cY S).toNat (cM S).toNat (cD S).toNat = dayText S := rfl
  rw [hdt] at C5b
  obtain ⟨s0, q0⟩ : ∃ s : ByteArray, ⟨#[108, 101, 118, 101, 108]⟩ = s := ⟨_, rfl⟩
  obtain ⟨s1, q1⟩ : ∃ s, textC P = s := ⟨_, rfl⟩
  obtain ⟨s2, q2⟩ : ∃ s, dec R = s := ⟨_, rfl⟩
  obtain ⟨s3, q3⟩ : ∃ s : ByteArray, ⟨#[97, 99, 116, 117, 97, 108]⟩ = s := ⟨_, rfl⟩
  obtain ⟨s4, q4⟩ : ∃ s, dec M = s := ⟨_, rfl⟩
  obtain ⟨s5, q5⟩ : ∃ s, dayText S = s := ⟨_, rfl⟩
  obtain ⟨s6, q6⟩ : ∃ s, textC F = s := ⟨_, rfl⟩
  obtain ⟨s7, q7⟩ : ∃ s, dec G = s := ⟨_, rfl⟩
  rw [q1] at C1
  rw [q2] at C2
  rw [q4] at C4
  rw [q5] at C5b
  rw [q6] at C6
  rw [q7] at C7
  rw [q0, q1, q2, q3, q4, q5, q6, q7]
  rw [← sps8]
  obtain ⟨y0, h0⟩ : ∃ y, s0 ++ (⟨#[32]⟩ : ByteArray) = y := ⟨_, rfl⟩
  obtain ⟨y1, h1⟩ : ∃ y, y0 ++ s1 = y := ⟨_, rfl⟩
  obtain ⟨y2, h2⟩ : ∃ y, y1 ++ (⟨#[32]⟩ : ByteArray) = y := ⟨_, rfl⟩
  obtain ⟨y3, h3⟩ : ∃ y, y2 ++ s2 = y := ⟨_, rfl⟩
  obtain ⟨y4, h4⟩ : ∃ y, y3 ++ (⟨#[32]⟩ : ByteArray) = y := ⟨_, rfl⟩
  obtain ⟨y5, h5⟩ : ∃ y, y4 ++ s3 = y := ⟨_, rfl⟩
  obtain ⟨y6, h6⟩ : ∃ y, y5 ++ (⟨#[32]⟩ : ByteArray) = y := ⟨_, rfl⟩
  obtain ⟨y7, h7⟩ : ∃ y, y6 ++ s4 = y := ⟨_, rfl⟩
  obtain ⟨y8, h8⟩ : ∃ y, y7 ++ (⟨#[32]⟩ : ByteArray) = y := ⟨_, rfl⟩
  obtain ⟨y9, h9⟩ : ∃ y, y8 ++ s5 = y := ⟨_, rfl⟩
  obtain ⟨y10, h10⟩ : ∃ y, y9 ++ (⟨#[32]⟩ : ByteArray) = y := ⟨_, rfl⟩
  obtain ⟨y11, h11⟩ : ∃ y, y10 ++ s6 = y := ⟨_, rfl⟩
  obtain ⟨y12, h12⟩ : ∃ y, y11 ++ (⟨#[32]⟩ : ByteArray) = y := ⟨_, rfl⟩
  obtain ⟨y13, h13⟩ : ∃ y, y12 ++ s7 = y := ⟨_, rfl⟩
  rw [h0, h1, h2, h3, h4, h5, h6, h7, h8, h9, h10, h11, h12, h13]
  have zs0 : s0.size ≤ 30 := by rw [← q0]; decide
  have zs3 : s3.size ≤ 30 := by rw [← q3]; decide
  have zs1 : s1.size ≤ 30 := by rw [← q1, Lib.size_eq]; exact textC_len P (by omega)
  have zs2 : s2.size ≤ 30 := by rw [← q2, Lib.size_eq]; exact dec_len R (by omega)
  have zs4 : s4.size ≤ 30 := by rw [← q4, Lib.size_eq]; exact dec_len M (by omega)
  have zs5 : s5.size ≤ 30 := by rw [← q5, Lib.size_eq]; exact day_len S
  have zs6 : s6.size ≤ 30 := by rw [← q6, Lib.size_eq]; exact textC_len F (by omega)
  have zs7 : s7.size ≤ 30 := by rw [← q7, Lib.size_eq]; exact dec_len G (by omega)
  have zy0 : y0.size ≤ 62 := by
    rw [← h0, ByteArray.size_append]
    have e9 : (⟨#[32]⟩ : ByteArray).size = 1 := rfl
    omega
  have zy1 : y1.size ≤ 93 := by
    rw [← h1, ByteArray.size_append]
    have e9 : (⟨#[32]⟩ : ByteArray).size = 1 := rfl
    omega
  have zy2 : y2.size ≤ 124 := by
    rw [← h2, ByteArray.size_append]
    have e9 : (⟨#[32]⟩ : ByteArray).size = 1 := rfl
    omega
  have zy3 : y3.size ≤ 155 := by
    rw [← h3, ByteArray.size_append]
    have e9 : (⟨#[32]⟩ : ByteArray).size = 1 := rfl
    omega
  have zy4 : y4.size ≤ 186 := by
    rw [← h4, ByteArray.size_append]
    have e9 : (⟨#[32]⟩ : ByteArray).size = 1 := rfl
    omega
  have zy5 : y5.size ≤ 217 := by
    rw [← h5, ByteArray.size_append]
    have e9 : (⟨#[32]⟩ : ByteArray).size = 1 := rfl
    omega
  have zy6 : y6.size ≤ 248 := by
    rw [← h6, ByteArray.size_append]
    have e9 : (⟨#[32]⟩ : ByteArray).size = 1 := rfl
    omega
  have zy7 : y7.size ≤ 279 := by
    rw [← h7, ByteArray.size_append]
    have e9 : (⟨#[32]⟩ : ByteArray).size = 1 := rfl
    omega
  have zy8 : y8.size ≤ 310 := by
    rw [← h8, ByteArray.size_append]
    have e9 : (⟨#[32]⟩ : ByteArray).size = 1 := rfl
    omega
  have zy9 : y9.size ≤ 341 := by
    rw [← h9, ByteArray.size_append]
    have e9 : (⟨#[32]⟩ : ByteArray).size = 1 := rfl
    omega
  have zy10 : y10.size ≤ 372 := by
    rw [← h10, ByteArray.size_append]
    have e9 : (⟨#[32]⟩ : ByteArray).size = 1 := rfl
    omega
  have zy11 : y11.size ≤ 403 := by
    rw [← h11, ByteArray.size_append]
    have e9 : (⟨#[32]⟩ : ByteArray).size = 1 := rfl
    omega
  have zy12 : y12.size ≤ 434 := by
    rw [← h12, ByteArray.size_append]
    have e9 : (⟨#[32]⟩ : ByteArray).size = 1 := rfl
    omega
  have zy13 : y13.size ≤ 465 := by
    rw [← h13, ByteArray.size_append]
    have e9 : (⟨#[32]⟩ : ByteArray).size = 1 := rfl
    omega
  clear q1 q2 q4 q5 q6 q7 hdt hci hP hR hM hS hF hG
  have HQ0 := Blk.new w 40 #[.int .u8 1, .int .i64 P, .int .u32 (R : Int), .int .u8 1, .int .i64 (M : Int), .int .i64 S, .int .i64 F, .int .i64 (G : Int)]
  have hb0 := b_alloc w (.cells #[.int .u8 1, .int .i64 P, .int .u32 (R : Int), .int .u8 1, .int .i64 (M : Int), .int .i64 S, .int .i64 F, .int .i64 (G : Int)] 40)
  have hb1 := hb0.alloc hb0.size (.cells #[.string ⟨#[]⟩, .string ⟨#[108, 101, 118, 101, 108]⟩, .string ⟨#[111, 110, 108, 121]⟩] 9)
  have HQ1 := HQ0.alloc (.cells #[.string ⟨#[]⟩, .string ⟨#[108, 101, 118, 101, 108]⟩, .string ⟨#[111, 110, 108, 121]⟩] 9)
  have hb2 := Lib.hid (hb1.alloc hb1.size (.cells #[.string ⟨#[]⟩, .string ⟨#[97, 99, 116, 117, 97, 108]⟩, .string ⟨#[116, 104, 105, 114, 116, 121]⟩] 9))
  have HQ := Lib.hid (HQ1.alloc (.cells #[.string ⟨#[]⟩, .string ⟨#[97, 99, 116, 117, 97, 108]⟩, .string ⟨#[116, 104, 105, 114, 116, 121]⟩] 9))
  obtain ⟨c0, c1, c2, c3, c4, c5, c6, c7⟩ := blk8 HQ0
  clear hb0 hb1 HQ0 HQ1
  go_enter Tryz.func49, Tryz.ntmps49
  go_upto_region 3 with (fail)
  try rw [q0]
  try rw [q3]
  obtain ⟨W3, hW3⟩ : ∃ W, (((w.alloc (.cells #[.int .u8 1, .int .i64 P, .int .u32 (R : Int), .int .u8 1, .int .i64 (M : Int), .int .i64 S, .int .i64 F, .int .i64 (G : Int)] 40)).alloc (.cells #[.string ⟨#[]⟩, .string ⟨#[108, 101, 118, 101, 108]⟩, .string ⟨#[111, 110, 108, 121]⟩] 9)).alloc (.cells #[.string ⟨#[]⟩, .string ⟨#[97, 99, 116, 117, 97, 108]⟩, .string ⟨#[116, 104, 105, 114, 116, 121]⟩] 9)) = W := ⟨_, rfl⟩
  obtain ⟨b, hb⟩ : ∃ b, w.heap.size = b := ⟨_, rfl⟩
  have hg3 := hW3
  try rw [q0] at hg3
  try rw [q3] at hg3
  rw [hW3] at HQ hb2
  rw [hb] at HQ
  rw [hg3]
  rw [hb]
  clear hW3 hg3 hb c0 c1 c2 c3 c4 c5 c6 c7 q0 q3
  have L1 : ∀ W', Below W3.heap.size W3 W' → (Instr.loadAt 2 (.pointer (some ⟨b, 1, none⟩))).run Tryz.prog W' = .ok (.int .i64 P) W' := fun W' hb => by
    have c0 := (blk8 (HQ.out.below hb HQ.out.lt)).2.1
    go_simp
  have L2 : ∀ W', Below W3.heap.size W3 W' → (Instr.loadAt 22 (.pointer (some ⟨b, 2, none⟩))).run Tryz.prog W' = .ok (.int .u32 (R : Int)) W' := fun W' hb => by
    have c0 := (blk8 (HQ.out.below hb HQ.out.lt)).2.2.1
    go_simp
  have L4 : ∀ W', Below W3.heap.size W3 W' → (Instr.loadAt 3 (.pointer (some ⟨b, 4, none⟩))).run Tryz.prog W' = .ok (.int .i64 (M : Int)) W' := fun W' hb => by
    have c0 := (blk8 (HQ.out.below hb HQ.out.lt)).2.2.2.2.1
    go_simp
  have L5 : ∀ W', Below W3.heap.size W3 W' → (Instr.loadAt 3 (.pointer (some ⟨b, 5, none⟩))).run Tryz.prog W' = .ok (.int .i64 S) W' := fun W' hb => by
    have c0 := (blk8 (HQ.out.below hb HQ.out.lt)).2.2.2.2.2.1
    go_simp
  have L6 : ∀ W', Below W3.heap.size W3 W' → (Instr.loadAt 2 (.pointer (some ⟨b, 6, none⟩))).run Tryz.prog W' = .ok (.int .i64 F) W' := fun W' hb => by
    have c0 := (blk8 (HQ.out.below hb HQ.out.lt)).2.2.2.2.2.2.1
    go_simp
  have L7 : ∀ W', Below W3.heap.size W3 W' → (Instr.loadAt 3 (.pointer (some ⟨b, 7, none⟩))).run Tryz.prog W' = .ok (.int .i64 (G : Int)) W' := fun W' hb => by
    have c0 := (blk8 (HQ.out.below hb HQ.out.lt)).2.2.2.2.2.2.2
    go_simp
  refine wp_region_flow [some 15, some 16, some 17, some 18, some 19, some 20, some 21, some 22, some 23, some 24, some 25, some 26, some 27, some 28, some 29, some 30, some 31, some 32, some 33, some 34, some 35, some 36, some 37, some 38, some 39, some 40, some 41, some 42, some 43, some 44, some 45, some 46, some 47, some 48, some 49, some 50, some 51, some 52, some 2] (fun i => ([.is (.string s0), .is (.string y0), .is (.pointer (some ⟨b, 1, none⟩)), .is (.int .i64 P), .is (.string s1), .is (.string y1), .is (.string y2), .is (.pointer (some ⟨b, 2, none⟩)), .is (.int .u32 (R : Int)), .is (.int .u64 (R : Int)), .is (.string s2), .is (.string y3), .is (.string y4), .is (.string s3), .is (.string y5), .is (.string y6), .is (.pointer (some ⟨b, 4, none⟩)), .is (.int .i64 (M : Int)), .is (.int .u64 (M : Int)), .is (.string s4), .is (.string y7), .is (.string y8), .is (.pointer (some ⟨b, 5, none⟩)), .is (.int .i64 S), .is (.agg #[.int .i64 (cY S), .int .i64 (cM S), .int .i64 (cD S)]), .is (.string s5), .is (.string y9), .is (.string y10), .is (.pointer (some ⟨b, 6, none⟩)), .is (.int .i64 F), .is (.string s6), .is (.string y11), .is (.string y12), .is (.pointer (some ⟨b, 7, none⟩)), .is (.int .i64 (G : Int)), .is (.int .u64 (G : Int)), .is (.string s7), .is (.string y13), .is (.string y13)] : List Flw).getD i .any) (by kernel_rfl) (by kernel_rfl) rfl ?_ ?_
  · clear HQ hb2
    refine ⟨step_free rfl (fun aF wF hs hb => ?_), ?_⟩
    · obtain ⟨x0, -⟩ := hs
      have e0 : aF.eval (.tmp 3) = .string s0 := x0
      exact opC_move e0 ⟨rfl, below_same wF⟩
    refine ⟨step_free rfl (fun aF wF hs hb => ?_), ?_⟩
    · obtain ⟨x0, -⟩ := hs
      have e0 : aF.eval (.tmp 15) = .string s0 := x0
      refine opC_value (v := .string y0) ?_ ⟨rfl, below_same wF⟩
      simp [execOp, go_sem, ev_of e0, h0]
      omega
    refine ⟨step_free rfl (fun aF wF hs hb => ?_), ?_⟩
    · obtain ⟨x0, -⟩ := hs
      have e0 : aF.eval (.tmp 1) = .pointer (some ⟨b, 0, none⟩) := x0
      refine opC_value (v := .pointer (some ⟨b, 1, none⟩)) ?_ ⟨rfl, below_same wF⟩
      have t0 := ev_of e0
      simp [execOp, go_sem, t0]
    refine ⟨step_free rfl (fun aF wF hs hb => ?_), ?_⟩
    · obtain ⟨x0, -⟩ := hs
      have e0 : aF.eval (.tmp 17) = .pointer (some ⟨b, 1, none⟩) := x0
      exact opC_load e0 (L1 wF hb) ⟨rfl, below_same wF⟩
    refine ⟨step_free rfl (fun aF wF hs hb => ?_), ?_⟩
    · obtain ⟨x0, -⟩ := hs
      have e0 : aF.eval (.tmp 18) = .int .i64 P := x0
      exact opC_call (args := #[.int .i64 P]) (enters9 Tryz.func52 (by kernel_rfl) rfl) (by simp [e0]) (C1 wF) (fun _ h => ⟨rfl, h⟩)
    refine ⟨step_free rfl (fun aF wF hs hb => ?_), ?_⟩
    · obtain ⟨x0, x1, -⟩ := hs
      have e0 : aF.eval (.tmp 16) = .string y0 := x0
      have e1 : aF.eval (.tmp 19) = .string s1 := x1
      refine opC_value (v := .string y1) ?_ ⟨rfl, below_same wF⟩
      simp [execOp, go_sem, ev_of e0, ev_of e1, h1]
      omega
    refine ⟨step_free rfl (fun aF wF hs hb => ?_), ?_⟩
    · obtain ⟨x0, -⟩ := hs
      have e0 : aF.eval (.tmp 20) = .string y1 := x0
      refine opC_value (v := .string y2) ?_ ⟨rfl, below_same wF⟩
      simp [execOp, go_sem, ev_of e0, h2]
      omega
    refine ⟨step_free rfl (fun aF wF hs hb => ?_), ?_⟩
    · obtain ⟨x0, -⟩ := hs
      have e0 : aF.eval (.tmp 1) = .pointer (some ⟨b, 0, none⟩) := x0
      refine opC_value (v := .pointer (some ⟨b, 2, none⟩)) ?_ ⟨rfl, below_same wF⟩
      have t0 := ev_of e0
      simp [execOp, go_sem, t0]
    refine ⟨step_free rfl (fun aF wF hs hb => ?_), ?_⟩
    · obtain ⟨x0, -⟩ := hs
      have e0 : aF.eval (.tmp 22) = .pointer (some ⟨b, 2, none⟩) := x0
      exact opC_load e0 (L2 wF hb) ⟨rfl, below_same wF⟩
    refine ⟨step_free rfl (fun aF wF hs hb => ?_), ?_⟩
    · obtain ⟨x0, -⟩ := hs
      have e0 : aF.eval (.tmp 23) = .int .u32 (R : Int) := x0
      refine opC_value (v := .int .u64 (R : Int)) ?_ ⟨rfl, below_same wF⟩
      simp [execOp, go_sem, ev_of e0, hw2]
    refine ⟨step_free rfl (fun aF wF hs hb => ?_), ?_⟩
    · obtain ⟨x0, -⟩ := hs
      have e0 : aF.eval (.tmp 24) = .int .u64 (R : Int) := x0
      exact opC_call (args := #[.int .u64 (R : Int)]) (enters9 Tryz.func48 (by kernel_rfl) rfl) (by simp [e0]) (C2 wF) (fun _ h => ⟨rfl, h⟩)
    refine ⟨step_free rfl (fun aF wF hs hb => ?_), ?_⟩
    · obtain ⟨x0, x1, -⟩ := hs
      have e0 : aF.eval (.tmp 21) = .string y2 := x0
      have e1 : aF.eval (.tmp 25) = .string s2 := x1
      refine opC_value (v := .string y3) ?_ ⟨rfl, below_same wF⟩
      simp [execOp, go_sem, ev_of e0, ev_of e1, h3]
      omega
    refine ⟨step_free rfl (fun aF wF hs hb => ?_), ?_⟩
    · obtain ⟨x0, -⟩ := hs
      have e0 : aF.eval (.tmp 26) = .string y3 := x0
      refine opC_value (v := .string y4) ?_ ⟨rfl, below_same wF⟩
      simp [execOp, go_sem, ev_of e0, h4]
      omega
    refine ⟨step_free rfl (fun aF wF hs hb => ?_), ?_⟩
    · obtain ⟨x0, -⟩ := hs
      have e0 : aF.eval (.tmp 4) = .string s3 := x0
      exact opC_move e0 ⟨rfl, below_same wF⟩
    refine ⟨step_free rfl (fun aF wF hs hb => ?_), ?_⟩
    · obtain ⟨x0, x1, -⟩ := hs
      have e0 : aF.eval (.tmp 27) = .string y4 := x0
      have e1 : aF.eval (.tmp 28) = .string s3 := x1
      refine opC_value (v := .string y5) ?_ ⟨rfl, below_same wF⟩
      simp [execOp, go_sem, ev_of e0, ev_of e1, h5]
      omega
    refine ⟨step_free rfl (fun aF wF hs hb => ?_), ?_⟩
    · obtain ⟨x0, -⟩ := hs
      have e0 : aF.eval (.tmp 29) = .string y5 := x0
      refine opC_value (v := .string y6) ?_ ⟨rfl, below_same wF⟩
      simp [execOp, go_sem, ev_of e0, h6]
      omega
    refine ⟨step_free rfl (fun aF wF hs hb => ?_), ?_⟩
    · obtain ⟨x0, -⟩ := hs
      have e0 : aF.eval (.tmp 1) = .pointer (some ⟨b, 0, none⟩) := x0
      refine opC_value (v := .pointer (some ⟨b, 4, none⟩)) ?_ ⟨rfl, below_same wF⟩
      have t0 := ev_of e0
      simp [execOp, go_sem, t0]
    refine ⟨step_free rfl (fun aF wF hs hb => ?_), ?_⟩
    · obtain ⟨x0, -⟩ := hs
      have e0 : aF.eval (.tmp 31) = .pointer (some ⟨b, 4, none⟩) := x0
      exact opC_load e0 (L4 wF hb) ⟨rfl, below_same wF⟩
    refine ⟨step_free rfl (fun aF wF hs hb => ?_), ?_⟩
    · obtain ⟨x0, -⟩ := hs
      have e0 : aF.eval (.tmp 32) = .int .i64 (M : Int) := x0
      refine opC_value (v := .int .u64 (M : Int)) ?_ ⟨rfl, below_same wF⟩
      simp [execOp, go_sem, ev_of e0, hw4]
    refine ⟨step_free rfl (fun aF wF hs hb => ?_), ?_⟩
    · obtain ⟨x0, -⟩ := hs
      have e0 : aF.eval (.tmp 33) = .int .u64 (M : Int) := x0
      exact opC_call (args := #[.int .u64 (M : Int)]) (enters9 Tryz.func48 (by kernel_rfl) rfl) (by simp [e0]) (C4 wF) (fun _ h => ⟨rfl, h⟩)
    refine ⟨step_free rfl (fun aF wF hs hb => ?_), ?_⟩
    · obtain ⟨x0, x1, -⟩ := hs
      have e0 : aF.eval (.tmp 30) = .string y6 := x0
      have e1 : aF.eval (.tmp 34) = .string s4 := x1
      refine opC_value (v := .string y7) ?_ ⟨rfl, below_same wF⟩
      simp [execOp, go_sem, ev_of e0, ev_of e1, h7]
      omega
    refine ⟨step_free rfl (fun aF wF hs hb => ?_), ?_⟩
    · obtain ⟨x0, -⟩ := hs
      have e0 : aF.eval (.tmp 35) = .string y7 := x0
      refine opC_value (v := .string y8) ?_ ⟨rfl, below_same wF⟩
      simp [execOp, go_sem, ev_of e0, h8]
      omega
    refine ⟨step_free rfl (fun aF wF hs hb => ?_), ?_⟩
    · obtain ⟨x0, -⟩ := hs
      have e0 : aF.eval (.tmp 1) = .pointer (some ⟨b, 0, none⟩) := x0
      refine opC_value (v := .pointer (some ⟨b, 5, none⟩)) ?_ ⟨rfl, below_same wF⟩
      have t0 := ev_of e0
      simp [execOp, go_sem, t0]
    refine ⟨step_free rfl (fun aF wF hs hb => ?_), ?_⟩
    · obtain ⟨x0, -⟩ := hs
      have e0 : aF.eval (.tmp 37) = .pointer (some ⟨b, 5, none⟩) := x0
      exact opC_load e0 (L5 wF hb) ⟨rfl, below_same wF⟩
    refine ⟨step_free rfl (fun aF wF hs hb => ?_), ?_⟩
    · obtain ⟨x0, -⟩ := hs
      have e0 : aF.eval (.tmp 38) = .int .i64 S := x0
      exact opC_call (args := #[.int .i64 S]) (enters9 Tryz.func51 (by kernel_rfl) rfl) (by simp [e0]) (C5a wF) (fun _ h => ⟨rfl, h⟩)
    refine ⟨step_free rfl (fun aF wF hs hb => ?_), ?_⟩
    · obtain ⟨x0, -⟩ := hs
      have e0 : aF.eval (.tmp 39) = .agg #[.int .i64 (cY S), .int .i64 (cM S), .int .i64 (cD S)] := x0
      exact opC_call (args := #[.agg #[.int .i64 (cY S), .int .i64 (cM S), .int .i64 (cD S)]]) (enters9 Tryz.func50 (by kernel_rfl) rfl) (by simp [e0]) (C5b wF) (fun _ h => ⟨rfl, h⟩)
    refine ⟨step_free rfl (fun aF wF hs hb => ?_), ?_⟩
    · obtain ⟨x0, x1, -⟩ := hs
      have e0 : aF.eval (.tmp 36) = .string y8 := x0
      have e1 : aF.eval (.tmp 40) = .string s5 := x1
      refine opC_value (v := .string y9) ?_ ⟨rfl, below_same wF⟩
      simp [execOp, go_sem, ev_of e0, ev_of e1, h9]
      omega
    refine ⟨step_free rfl (fun aF wF hs hb => ?_), ?_⟩
    · obtain ⟨x0, -⟩ := hs
      have e0 : aF.eval (.tmp 41) = .string y9 := x0
      refine opC_value (v := .string y10) ?_ ⟨rfl, below_same wF⟩
      simp [execOp, go_sem, ev_of e0, h10]
      omega
    refine ⟨step_free rfl (fun aF wF hs hb => ?_), ?_⟩
    · obtain ⟨x0, -⟩ := hs
      have e0 : aF.eval (.tmp 1) = .pointer (some ⟨b, 0, none⟩) := x0
      refine opC_value (v := .pointer (some ⟨b, 6, none⟩)) ?_ ⟨rfl, below_same wF⟩
      have t0 := ev_of e0
      simp [execOp, go_sem, t0]
    refine ⟨step_free rfl (fun aF wF hs hb => ?_), ?_⟩
    · obtain ⟨x0, -⟩ := hs
      have e0 : aF.eval (.tmp 43) = .pointer (some ⟨b, 6, none⟩) := x0
      exact opC_load e0 (L6 wF hb) ⟨rfl, below_same wF⟩
    refine ⟨step_free rfl (fun aF wF hs hb => ?_), ?_⟩
    · obtain ⟨x0, -⟩ := hs
      have e0 : aF.eval (.tmp 44) = .int .i64 F := x0
      exact opC_call (args := #[.int .i64 F]) (enters9 Tryz.func52 (by kernel_rfl) rfl) (by simp [e0]) (C6 wF) (fun _ h => ⟨rfl, h⟩)
    refine ⟨step_free rfl (fun aF wF hs hb => ?_), ?_⟩
    · obtain ⟨x0, x1, -⟩ := hs
      have e0 : aF.eval (.tmp 42) = .string y10 := x0
      have e1 : aF.eval (.tmp 45) = .string s6 := x1
      refine opC_value (v := .string y11) ?_ ⟨rfl, below_same wF⟩
      simp [execOp, go_sem, ev_of e0, ev_of e1, h11]
      omega
    refine ⟨step_free rfl (fun aF wF hs hb => ?_), ?_⟩
    · obtain ⟨x0, -⟩ := hs
      have e0 : aF.eval (.tmp 46) = .string y11 := x0
      refine opC_value (v := .string y12) ?_ ⟨rfl, below_same wF⟩
      simp [execOp, go_sem, ev_of e0, h12]
      omega
    refine ⟨step_free rfl (fun aF wF hs hb => ?_), ?_⟩
    · obtain ⟨x0, -⟩ := hs
      have e0 : aF.eval (.tmp 1) = .pointer (some ⟨b, 0, none⟩) := x0
      refine opC_value (v := .pointer (some ⟨b, 7, none⟩)) ?_ ⟨rfl, below_same wF⟩
      have t0 := ev_of e0
      simp [execOp, go_sem, t0]
    refine ⟨step_free rfl (fun aF wF hs hb => ?_), ?_⟩
    · obtain ⟨x0, -⟩ := hs
      have e0 : aF.eval (.tmp 48) = .pointer (some ⟨b, 7, none⟩) := x0
      exact opC_load e0 (L7 wF hb) ⟨rfl, below_same wF⟩
    refine ⟨step_free rfl (fun aF wF hs hb => ?_), ?_⟩
    · obtain ⟨x0, -⟩ := hs
      have e0 : aF.eval (.tmp 49) = .int .i64 (G : Int) := x0
      refine opC_value (v := .int .u64 (G : Int)) ?_ ⟨rfl, below_same wF⟩
      simp [execOp, go_sem, ev_of e0, hw7]
    refine ⟨step_free rfl (fun aF wF hs hb => ?_), ?_⟩
    · obtain ⟨x0, -⟩ := hs
      have e0 : aF.eval (.tmp 50) = .int .u64 (G : Int) := x0
      exact opC_call (args := #[.int .u64 (G : Int)]) (enters9 Tryz.func48 (by kernel_rfl) rfl) (by simp [e0]) (C7 wF) (fun _ h => ⟨rfl, h⟩)
    refine ⟨step_free rfl (fun aF wF hs hb => ?_), ?_⟩
    · obtain ⟨x0, x1, -⟩ := hs
      have e0 : aF.eval (.tmp 47) = .string y12 := x0
      have e1 : aF.eval (.tmp 51) = .string s7 := x1
      refine opC_value (v := .string y13) ?_ ⟨rfl, below_same wF⟩
      simp [execOp, go_sem, ev_of e0, ev_of e1, h13]
      omega
    refine ⟨step_free rfl (fun aF wF hs hb => ?_), ?_⟩
    · obtain ⟨x0, -⟩ := hs
      have e0 : aF.eval (.tmp 52) = .string y13 := x0
      exact opC_assign e0 ⟨rfl, below_same wF⟩
    exact trivial
  · intro f w6 hf hb6
    have h99 : f 38 = .string y13 := hf 38 2 rfl
    have HB6 := Lib.hid (hb2.out.trans (hb6.mono hb2.out.size))
    simp only [putF, Act.put, List.setIfInBounds_toArray, List.set_cons_zero, List.set_cons_succ]
    rw [h99]
    clear hf h99 hb6 HQ hb2 L1 L2 L4 L5 L6 L7 C1 C2 C4 C5a C5b C6 C7
    go_wp2_with fail
    go_ret
    exact ⟨rfl, HB6.out⟩
set_option maxRecDepth 100000 in
set_option maxHeartbeats 4000000 in
theorem RText_12 {R M G : Nat} {P S F : Int} (hR : R ≤ 1000000) (hP : 1 ≤ P ∧ P ≤ 1000000000000) (hM : 1 ≤ M ∧ M ≤ 480) (hS : 0 ≤ S ∧ S ≤ 3600000) (hF : 0 ≤ F ∧ F ≤ 1000000000) (hG : G ≤ 60) (w : World) : Calls Tryz.prog 49 #[.agg #[.int .u8 1, .int .i64 P, .int .u32 (R : Int), .int .u8 2, .int .i64 (M : Int), .int .i64 S, .int .i64 F, .int .i64 (G : Int)]] w (Ret (.string (sps [⟨#[108, 101, 118, 101, 108]⟩, textC P, dec R, ⟨#[116, 104, 105, 114, 116, 121]⟩, dec M, dayText S, textC F, dec G])) w) := by
  have hw2 : IntKind.u64.wrap (R : Int) = (R : Int) := by rw [IntKind.wrap_u64]; omega
  have hw4 : IntKind.u64.wrap (M : Int) = (M : Int) := by rw [IntKind.wrap_u64]; omega
  have hw7 : IntKind.u64.wrap (G : Int) = (G : Int) := by rw [IntKind.wrap_u64]; omega
  have C1 : ∀ W, Calls Tryz.prog 52 #[.int .i64 P] W fun e w' => e = .returned (.string (textC P)) ∧ Below W.heap.size W w' := fun W => (RText4_any P (by omega) W).mono fun e w' ⟨h1, h2⟩ => ⟨h1, by rw [← h2]; exact Below.refl _ _⟩
  have C6 : ∀ W, Calls Tryz.prog 52 #[.int .i64 F] W fun e w' => e = .returned (.string (textC F)) ∧ Below W.heap.size W w' := fun W => (RText4_any F (by omega) W).mono fun e w' ⟨h1, h2⟩ => ⟨h1, by rw [← h2]; exact Below.refl _ _⟩
  have C2 : ∀ W, Calls Tryz.prog 48 #[.int .u64 (R : Int)] W fun e w' => e = .returned (.string (dec R)) ∧ Below W.heap.size W w' := fun W => (RDec_any R (by omega) W).mono fun e w' ⟨h1, h2⟩ => ⟨h1, by rw [← h2]; exact Below.refl _ _⟩
  have C4 : ∀ W, Calls Tryz.prog 48 #[.int .u64 (M : Int)] W fun e w' => e = .returned (.string (dec M)) ∧ Below W.heap.size W w' := fun W => (RDec_any M (by omega) W).mono fun e w' ⟨h1, h2⟩ => ⟨h1, by rw [← h2]; exact Below.refl _ _⟩
  have C7 : ∀ W, Calls Tryz.prog 48 #[.int .u64 (G : Int)] W fun e w' => e = .returned (.string (dec G)) ∧ Below W.heap.size W w' := fun W => (RDec_any G (by omega) W).mono fun e w' ⟨h1, h2⟩ => ⟨h1, by rw [← h2]; exact Below.refl _ _⟩
  have C5a := fun W => RCivil_any S W hS.1 (by omega)
  have hci := civ_in S hS.1 (by omega)
  have C5b := fun W => RText5_any (cY S).toNat (cM S).toNat (cD S).toNat (by omega) (by omega) (by omega) W
  rw [show ((cY S).toNat : Int) = cY S by omega, show ((cM S).toNat : Int) = cM S by omega, show ((cD S).toNat : Int) = cD S by omega] at C5b
  have hdt : textS (cY S).toNat (cM S).toNat (cD S).toNat = dayText S := rfl
  rw [hdt] at C5b
  obtain ⟨s0, q0⟩ : ∃ s : ByteArray, ⟨#[108, 101, 118, 101, 108]⟩ = s := ⟨_, rfl⟩
  obtain ⟨s1, q1⟩ : ∃ s, textC P = s := ⟨_, rfl⟩
  obtain ⟨s2, q2⟩ : ∃ s, dec R = s := ⟨_, rfl⟩
  obtain ⟨s3, q3⟩ : ∃ s : ByteArray, ⟨#[116, 104, 105, 114, 116, 121]⟩ = s := ⟨_, rfl⟩
  obtain ⟨s4, q4⟩ : ∃ s, dec M = s := ⟨_, rfl⟩
  obtain ⟨s5, q5⟩ : ∃ s, dayText S = s := ⟨_, rfl⟩
  obtain ⟨s6, q6⟩ : ∃ s, textC F = s := ⟨_, rfl⟩
  obtain ⟨s7, q7⟩ : ∃ s, dec G = s := ⟨_, rfl⟩
  rw [q1] at C1
  rw [q2] at C2
  rw [q4] at C4
  rw [q5] at C5b
  rw [q6] at C6
  rw [q7] at C7
  rw [q0, q1, q2, q3, q4, q5, q6, q7]
  rw [← sps8]
  obtain ⟨y0, h0⟩ : ∃ y, s0 ++ (⟨#[32]⟩ : ByteArray) = y := ⟨_, rfl⟩
  obtain ⟨y1, h1⟩ : ∃ y, y0 ++ s1 = y := ⟨_, rfl⟩
  obtain ⟨y2, h2⟩ : ∃ y, y1 ++ (⟨#[32]⟩ : ByteArray) = y := ⟨_, rfl⟩
  obtain ⟨y3, h3⟩ : ∃ y, y2 ++ s2 = y := ⟨_, rfl⟩
  obtain ⟨y4, h4⟩ : ∃ y, y3 ++ (⟨#[32]⟩ : ByteArray) = y := ⟨_, rfl⟩
  obtain ⟨y5, h5⟩ : ∃ y, y4 ++ s3 = y := ⟨_, rfl⟩
  obtain ⟨y6, h6⟩ : ∃ y, y5 ++ (⟨#[32]⟩ : ByteArray) = y := ⟨_, rfl⟩
  obtain ⟨y7, h7⟩ : ∃ y, y6 ++ s4 = y := ⟨_, rfl⟩
  obtain ⟨y8, h8⟩ : ∃ y, y7 ++ (⟨#[32]⟩ : ByteArray) = y := ⟨_, rfl⟩
  obtain ⟨y9, h9⟩ : ∃ y, y8 ++ s5 = y := ⟨_, rfl⟩
  obtain ⟨y10, h10⟩ : ∃ y, y9 ++ (⟨#[32]⟩ : ByteArray) = y := ⟨_, rfl⟩
  obtain ⟨y11, h11⟩ : ∃ y, y10 ++ s6 = y := ⟨_, rfl⟩
  obtain ⟨y12, h12⟩ : ∃ y, y11 ++ (⟨#[32]⟩ : ByteArray) = y := ⟨_, rfl⟩
  obtain ⟨y13, h13⟩ : ∃ y, y12 ++ s7 = y := ⟨_, rfl⟩
  rw [h0, h1, h2, h3, h4, h5, h6, h7, h8, h9, h10, h11, h12, h13]
  have zs0 : s0.size ≤ 30 := by rw [← q0]; decide
  have zs3 : s3.size ≤ 30 := by rw [← q3]; decide
  have zs1 : s1.size ≤ 30 := by rw [← q1, Lib.size_eq]; exact textC_len P (by omega)
  have zs2 : s2.size ≤ 30 := by rw [← q2, Lib.size_eq]; exact dec_len R (by omega)
  have zs4 : s4.size ≤ 30 := by rw [← q4, Lib.size_eq]; exact dec_len M (by omega)
  have zs5 : s5.size ≤ 30 := by rw [← q5, Lib.size_eq]; exact day_len S
  have zs6 : s6.size ≤ 30 := by rw [← q6, Lib.size_eq]; exact textC_len F (by omega)
  have zs7 : s7.size ≤ 30 := by rw [← q7, Lib.size_eq]; exact dec_len G (by omega)
  have zy0 : y0.size ≤ 62 := by
    rw [← h0, ByteArray.size_append]
    have e9 : (⟨#[32]⟩ : ByteArray).size = 1 := rfl
    omega
  have zy1 : y1.size ≤ 93 := by
    rw [← h1, ByteArray.size_append]
    have e9 : (⟨#[32]⟩ : ByteArray).size = 1 := rfl
    omega
  have zy2 : y2.size ≤ 124 := by
    rw [← h2, ByteArray.size_append]
    have e9 : (⟨#[32]⟩ : ByteArray).size = 1 := rfl
    omega
  have zy3 : y3.size ≤ 155 := by
    rw [← h3, ByteArray.size_append]
    have e9 : (⟨#[32]⟩ : ByteArray).size = 1 := rfl
    omega
  have zy4 : y4.size ≤ 186 := by
    rw [← h4, ByteArray.size_append]
    have e9 : (⟨#[32]⟩ : ByteArray).size = 1 := rfl
    omega
  have zy5 : y5.size ≤ 217 := by
    rw [← h5, ByteArray.size_append]
    have e9 : (⟨#[32]⟩ : ByteArray).size = 1 := rfl
    omega
  have zy6 : y6.size ≤ 248 := by
    rw [← h6, ByteArray.size_append]
    have e9 : (⟨#[32]⟩ : ByteArray).size = 1 := rfl
    omega
  have zy7 : y7.size ≤ 279 := by
    rw [← h7, ByteArray.size_append]
    have e9 : (⟨#[32]⟩ : ByteArray).size = 1 := rfl
    omega
  have zy8 : y8.size ≤ 310 := by
    rw [← h8, ByteArray.size_append]
    have e9 : (⟨#[32]⟩ : ByteArray).size = 1 := rfl
    omega
  have zy9 : y9.size ≤ 341 := by
    rw [← h9, ByteArray.size_append]
    have e9 : (⟨#[32]⟩ : ByteArray).size = 1 := rfl
    omega
  have zy10 : y10.size ≤ 372 := by
    rw [← h10, ByteArray.size_append]
    have e9 : (⟨#[32]⟩ : ByteArray).size = 1 := rfl
    omega
  have zy11 : y11.size ≤ 403 := by
    rw [← h11, ByteArray.size_append]
    have e9 : (⟨#[32]⟩ : ByteArray).size = 1 := rfl
    omega
  have zy12 : y12.size ≤ 434 := by
    rw [← h12, ByteArray.size_append]
    have e9 : (⟨#[32]⟩ : ByteArray).size = 1 := rfl
    omega
  have zy13 : y13.size ≤ 465 := by
    rw [← h13, ByteArray.size_append]
    have e9 : (⟨#[32]⟩ : ByteArray).size = 1 := rfl
    omega
  clear q1 q2 q4 q5 q6 q7 hdt hci hP hR hM hS hF hG
  have HQ0 := Blk.new w 40 #[.int .u8 1, .int .i64 P, .int .u32 (R : Int), .int .u8 2, .int .i64 (M : Int), .int .i64 S, .int .i64 F, .int .i64 (G : Int)]
  have hb0 := b_alloc w (.cells #[.int .u8 1, .int .i64 P, .int .u32 (R : Int), .int .u8 2, .int .i64 (M : Int), .int .i64 S, .int .i64 F, .int .i64 (G : Int)] 40)
  have hb1 := hb0.alloc hb0.size (.cells #[.string ⟨#[]⟩, .string ⟨#[108, 101, 118, 101, 108]⟩, .string ⟨#[111, 110, 108, 121]⟩] 9)
  have HQ1 := HQ0.alloc (.cells #[.string ⟨#[]⟩, .string ⟨#[108, 101, 118, 101, 108]⟩, .string ⟨#[111, 110, 108, 121]⟩] 9)
  have hb2 := Lib.hid (hb1.alloc hb1.size (.cells #[.string ⟨#[]⟩, .string ⟨#[97, 99, 116, 117, 97, 108]⟩, .string ⟨#[116, 104, 105, 114, 116, 121]⟩] 9))
  have HQ := Lib.hid (HQ1.alloc (.cells #[.string ⟨#[]⟩, .string ⟨#[97, 99, 116, 117, 97, 108]⟩, .string ⟨#[116, 104, 105, 114, 116, 121]⟩] 9))
  obtain ⟨c0, c1, c2, c3, c4, c5, c6, c7⟩ := blk8 HQ0
  clear hb0 hb1 HQ0 HQ1
  go_enter Tryz.func49, Tryz.ntmps49
  go_upto_region 3 with (fail)
  try rw [q0]
  try rw [q3]
  obtain ⟨W3, hW3⟩ : ∃ W, (((w.alloc (.cells #[.int .u8 1, .int .i64 P, .int .u32 (R : Int), .int .u8 2, .int .i64 (M : Int), .int .i64 S, .int .i64 F, .int .i64 (G : Int)] 40)).alloc (.cells #[.string ⟨#[]⟩, .string ⟨#[108, 101, 118, 101, 108]⟩, .string ⟨#[111, 110, 108, 121]⟩] 9)).alloc (.cells #[.string ⟨#[]⟩, .string ⟨#[97, 99, 116, 117, 97, 108]⟩, .string ⟨#[116, 104, 105, 114, 116, 121]⟩] 9)) = W := ⟨_, rfl⟩
  obtain ⟨b, hb⟩ : ∃ b, w.heap.size = b := ⟨_, rfl⟩
  have hg3 := hW3
  try rw [q0] at hg3
  try rw [q3] at hg3
  rw [hW3] at HQ hb2
  rw [hb] at HQ
  rw [hg3]
  rw [hb]
  clear hW3 hg3 hb c0 c1 c2 c3 c4 c5 c6 c7 q0 q3
  have L1 : ∀ W', Below W3.heap.size W3 W' → (Instr.loadAt 2 (.pointer (some ⟨b, 1, none⟩))).run Tryz.prog W' = .ok (.int .i64 P) W' := fun W' hb => by
    have c0 := (blk8 (HQ.out.below hb HQ.out.lt)).2.1
    go_simp
  have L2 : ∀ W', Below W3.heap.size W3 W' → (Instr.loadAt 22 (.pointer (some ⟨b, 2, none⟩))).run Tryz.prog W' = .ok (.int .u32 (R : Int)) W' := fun W' hb => by
    have c0 := (blk8 (HQ.out.below hb HQ.out.lt)).2.2.1
    go_simp
  have L4 : ∀ W', Below W3.heap.size W3 W' → (Instr.loadAt 3 (.pointer (some ⟨b, 4, none⟩))).run Tryz.prog W' = .ok (.int .i64 (M : Int)) W' := fun W' hb => by
    have c0 := (blk8 (HQ.out.below hb HQ.out.lt)).2.2.2.2.1
    go_simp
  have L5 : ∀ W', Below W3.heap.size W3 W' → (Instr.loadAt 3 (.pointer (some ⟨b, 5, none⟩))).run Tryz.prog W' = .ok (.int .i64 S) W' := fun W' hb => by
    have c0 := (blk8 (HQ.out.below hb HQ.out.lt)).2.2.2.2.2.1
    go_simp
  have L6 : ∀ W', Below W3.heap.size W3 W' → (Instr.loadAt 2 (.pointer (some ⟨b, 6, none⟩))).run Tryz.prog W' = .ok (.int .i64 F) W' := fun W' hb => by
    have c0 := (blk8 (HQ.out.below hb HQ.out.lt)).2.2.2.2.2.2.1
    go_simp
  have L7 : ∀ W', Below W3.heap.size W3 W' → (Instr.loadAt 3 (.pointer (some ⟨b, 7, none⟩))).run Tryz.prog W' = .ok (.int .i64 (G : Int)) W' := fun W' hb => by
    have c0 := (blk8 (HQ.out.below hb HQ.out.lt)).2.2.2.2.2.2.2
    go_simp
  refine wp_region_flow [some 15, some 16, some 17, some 18, some 19, some 20, some 21, some 22, some 23, some 24, some 25, some 26, some 27, some 28, some 29, some 30, some 31, some 32, some 33, some 34, some 35, some 36, some 37, some 38, some 39, some 40, some 41, some 42, some 43, some 44, some 45, some 46, some 47, some 48, some 49, some 50, some 51, some 52, some 2] (fun i => ([.is (.string s0), .is (.string y0), .is (.pointer (some ⟨b, 1, none⟩)), .is (.int .i64 P), .is (.string s1), .is (.string y1), .is (.string y2), .is (.pointer (some ⟨b, 2, none⟩)), .is (.int .u32 (R : Int)), .is (.int .u64 (R : Int)), .is (.string s2), .is (.string y3), .is (.string y4), .is (.string s3), .is (.string y5), .is (.string y6), .is (.pointer (some ⟨b, 4, none⟩)), .is (.int .i64 (M : Int)), .is (.int .u64 (M : Int)), .is (.string s4), .is (.string y7), .is (.string y8), .is (.pointer (some ⟨b, 5, none⟩)), .is (.int .i64 S), .is (.agg #[.int .i64 (cY S), .int .i64 (cM S), .int .i64 (cD S)]), .is (.string s5), .is (.string y9), .is (.string y10), .is (.pointer (some ⟨b, 6, none⟩)), .is (.int .i64 F), .is (.string s6), .is (.string y11), .is (.string y12), .is (.pointer (some ⟨b, 7, none⟩)), .is (.int .i64 (G : Int)), .is (.int .u64 (G : Int)), .is (.string s7), .is (.string y13), .is (.string y13)] : List Flw).getD i .any) (by kernel_rfl) (by kernel_rfl) rfl ?_ ?_
  · clear HQ hb2
    refine ⟨step_free rfl (fun aF wF hs hb => ?_), ?_⟩
    · obtain ⟨x0, -⟩ := hs
      have e0 : aF.eval (.tmp 3) = .string s0 := x0
      exact opC_move e0 ⟨rfl, below_same wF⟩
    refine ⟨step_free rfl (fun aF wF hs hb => ?_), ?_⟩
    · obtain ⟨x0, -⟩ := hs
      have e0 : aF.eval (.tmp 15) = .string s0 := x0
      refine opC_value (v := .string y0) ?_ ⟨rfl, below_same wF⟩
      simp [execOp, go_sem, ev_of e0, h0]
      omega
    refine ⟨step_free rfl (fun aF wF hs hb => ?_), ?_⟩
    · obtain ⟨x0, -⟩ := hs
      have e0 : aF.eval (.tmp 1) = .pointer (some ⟨b, 0, none⟩) := x0
      refine opC_value (v := .pointer (some ⟨b, 1, none⟩)) ?_ ⟨rfl, below_same wF⟩
      have t0 := ev_of e0
      simp [execOp, go_sem, t0]
    refine ⟨step_free rfl (fun aF wF hs hb => ?_), ?_⟩
    · obtain ⟨x0, -⟩ := hs
      have e0 : aF.eval (.tmp 17) = .pointer (some ⟨b, 1, none⟩) := x0
      exact opC_load e0 (L1 wF hb) ⟨rfl, below_same wF⟩
    refine ⟨step_free rfl (fun aF wF hs hb => ?_), ?_⟩
    · obtain ⟨x0, -⟩ := hs
      have e0 : aF.eval (.tmp 18) = .int .i64 P := x0
      exact opC_call (args := #[.int .i64 P]) (enters9 Tryz.func52 (by kernel_rfl) rfl) (by simp [e0]) (C1 wF) (fun _ h => ⟨rfl, h⟩)
    refine ⟨step_free rfl (fun aF wF hs hb => ?_), ?_⟩
    · obtain ⟨x0, x1, -⟩ := hs
      have e0 : aF.eval (.tmp 16) = .string y0 := x0
      have e1 : aF.eval (.tmp 19) = .string s1 := x1
      refine opC_value (v := .string y1) ?_ ⟨rfl, below_same wF⟩
      simp [execOp, go_sem, ev_of e0, ev_of e1, h1]
      omega
    refine ⟨step_free rfl (fun aF wF hs hb => ?_), ?_⟩
    · obtain ⟨x0, -⟩ := hs
      have e0 : aF.eval (.tmp 20) = .string y1 := x0
      refine opC_value (v := .string y2) ?_ ⟨rfl, below_same wF⟩
      simp [execOp, go_sem, ev_of e0, h2]
      omega
    refine ⟨step_free rfl (fun aF wF hs hb => ?_), ?_⟩
    · obtain ⟨x0, -⟩ := hs
      have e0 : aF.eval (.tmp 1) = .pointer (some ⟨b, 0, none⟩) := x0
      refine opC_value (v := .pointer (some ⟨b, 2, none⟩)) ?_ ⟨rfl, below_same wF⟩
      have t0 := ev_of e0
      simp [execOp, go_sem, t0]
    refine ⟨step_free rfl (fun aF wF hs hb => ?_), ?_⟩
    · obtain ⟨x0, -⟩ := hs
      have e0 : aF.eval (.tmp 22) = .pointer (some ⟨b, 2, none⟩) := x0
      exact opC_load e0 (L2 wF hb) ⟨rfl, below_same wF⟩
    refine ⟨step_free rfl (fun aF wF hs hb => ?_), ?_⟩
    · obtain ⟨x0, -⟩ := hs
      have e0 : aF.eval (.tmp 23) = .int .u32 (R : Int) := x0
      refine opC_value (v := .int .u64 (R : Int)) ?_ ⟨rfl, below_same wF⟩
      simp [execOp, go_sem, ev_of e0, hw2]
    refine ⟨step_free rfl (fun aF wF hs hb => ?_), ?_⟩
    · obtain ⟨x0, -⟩ := hs
      have e0 : aF.eval (.tmp 24) = .int .u64 (R : Int) := x0
      exact opC_call (args := #[.int .u64 (R : Int)]) (enters9 Tryz.func48 (by kernel_rfl) rfl) (by simp [e0]) (C2 wF) (fun _ h => ⟨rfl, h⟩)
    refine ⟨step_free rfl (fun aF wF hs hb => ?_), ?_⟩
    · obtain ⟨x0, x1, -⟩ := hs
      have e0 : aF.eval (.tmp 21) = .string y2 := x0
      have e1 : aF.eval (.tmp 25) = .string s2 := x1
      refine opC_value (v := .string y3) ?_ ⟨rfl, below_same wF⟩
      simp [execOp, go_sem, ev_of e0, ev_of e1, h3]
      omega
    refine ⟨step_free rfl (fun aF wF hs hb => ?_), ?_⟩
    · obtain ⟨x0, -⟩ := hs
      have e0 : aF.eval (.tmp 26) = .string y3 := x0
      refine opC_value (v := .string y4) ?_ ⟨rfl, below_same wF⟩
      simp [execOp, go_sem, ev_of e0, h4]
      omega
    refine ⟨step_free rfl (fun aF wF hs hb => ?_), ?_⟩
    · obtain ⟨x0, -⟩ := hs
      have e0 : aF.eval (.tmp 4) = .string s3 := x0
      exact opC_move e0 ⟨rfl, below_same wF⟩
    refine ⟨step_free rfl (fun aF wF hs hb => ?_), ?_⟩
    · obtain ⟨x0, x1, -⟩ := hs
      have e0 : aF.eval (.tmp 27) = .string y4 := x0
      have e1 : aF.eval (.tmp 28) = .string s3 := x1
      refine opC_value (v := .string y5) ?_ ⟨rfl, below_same wF⟩
      simp [execOp, go_sem, ev_of e0, ev_of e1, h5]
      omega
    refine ⟨step_free rfl (fun aF wF hs hb => ?_), ?_⟩
    · obtain ⟨x0, -⟩ := hs
      have e0 : aF.eval (.tmp 29) = .string y5 := x0
      refine opC_value (v := .string y6) ?_ ⟨rfl, below_same wF⟩
      simp [execOp, go_sem, ev_of e0, h6]
      omega
    refine ⟨step_free rfl (fun aF wF hs hb => ?_), ?_⟩
    · obtain ⟨x0, -⟩ := hs
      have e0 : aF.eval (.tmp 1) = .pointer (some ⟨b, 0, none⟩) := x0
      refine opC_value (v := .pointer (some ⟨b, 4, none⟩)) ?_ ⟨rfl, below_same wF⟩
      have t0 := ev_of e0
      simp [execOp, go_sem, t0]
    refine ⟨step_free rfl (fun aF wF hs hb => ?_), ?_⟩
    · obtain ⟨x0, -⟩ := hs
      have e0 : aF.eval (.tmp 31) = .pointer (some ⟨b, 4, none⟩) := x0
      exact opC_load e0 (L4 wF hb) ⟨rfl, below_same wF⟩
    refine ⟨step_free rfl (fun aF wF hs hb => ?_), ?_⟩
    · obtain ⟨x0, -⟩ := hs
      have e0 : aF.eval (.tmp 32) = .int .i64 (M : Int) := x0
      refine opC_value (v := .int .u64 (M : Int)) ?_ ⟨rfl, below_same wF⟩
      simp [execOp, go_sem, ev_of e0, hw4]
    refine ⟨step_free rfl (fun aF wF hs hb => ?_), ?_⟩
    · obtain ⟨x0, -⟩ := hs
      have e0 : aF.eval (.tmp 33) = .int .u64 (M : Int) := x0
      exact opC_call (args := #[.int .u64 (M : Int)]) (enters9 Tryz.func48 (by kernel_rfl) rfl) (by simp [e0]) (C4 wF) (fun _ h => ⟨rfl, h⟩)
    refine ⟨step_free rfl (fun aF wF hs hb => ?_), ?_⟩
    · obtain ⟨x0, x1, -⟩ := hs
      have e0 : aF.eval (.tmp 30) = .string y6 := x0
      have e1 : aF.eval (.tmp 34) = .string s4 := x1
      refine opC_value (v := .string y7) ?_ ⟨rfl, below_same wF⟩
      simp [execOp, go_sem, ev_of e0, ev_of e1, h7]
      omega
    refine ⟨step_free rfl (fun aF wF hs hb => ?_), ?_⟩
    · obtain ⟨x0, -⟩ := hs
      have e0 : aF.eval (.tmp 35) = .string y7 := x0
      refine opC_value (v := .string y8) ?_ ⟨rfl, below_same wF⟩
      simp [execOp, go_sem, ev_of e0, h8]
      omega
    refine ⟨step_free rfl (fun aF wF hs hb => ?_), ?_⟩
    · obtain ⟨x0, -⟩ := hs
      have e0 : aF.eval (.tmp 1) = .pointer (some ⟨b, 0, none⟩) := x0
      refine opC_value (v := .pointer (some ⟨b, 5, none⟩)) ?_ ⟨rfl, below_same wF⟩
      have t0 := ev_of e0
      simp [execOp, go_sem, t0]
    refine ⟨step_free rfl (fun aF wF hs hb => ?_), ?_⟩
    · obtain ⟨x0, -⟩ := hs
      have e0 : aF.eval (.tmp 37) = .pointer (some ⟨b, 5, none⟩) := x0
      exact opC_load e0 (L5 wF hb) ⟨rfl, below_same wF⟩
    refine ⟨step_free rfl (fun aF wF hs hb => ?_), ?_⟩
    · obtain ⟨x0, -⟩ := hs
      have e0 : aF.eval (.tmp 38) = .int .i64 S := x0
      exact opC_call (args := #[.int .i64 S]) (enters9 Tryz.func51 (by kernel_rfl) rfl) (by simp [e0]) (C5a wF) (fun _ h => ⟨rfl, h⟩)
    refine ⟨step_free rfl (fun aF wF hs hb => ?_), ?_⟩
    · obtain ⟨x0, -⟩ := hs
      have e0 : aF.eval (.tmp 39) = .agg #[.int .i64 (cY S), .int .i64 (cM S), .int .i64 (cD S)] := x0
      exact opC_call (args := #[.agg #[.int .i64 (cY S), .int .i64 (cM S), .int .i64 (cD S)]]) (enters9 Tryz.func50 (by kernel_rfl) rfl) (by simp [e0]) (C5b wF) (fun _ h => ⟨rfl, h⟩)
    refine ⟨step_free rfl (fun aF wF hs hb => ?_), ?_⟩
    · obtain ⟨x0, x1, -⟩ := hs
      have e0 : aF.eval (.tmp 36) = .string y8 := x0
      have e1 : aF.eval (.tmp 40) = .string s5 := x1
      refine opC_value (v := .string y9) ?_ ⟨rfl, below_same wF⟩
      simp [execOp, go_sem, ev_of e0, ev_of e1, h9]
      omega
    refine ⟨step_free rfl (fun aF wF hs hb => ?_), ?_⟩
    · obtain ⟨x0, -⟩ := hs
      have e0 : aF.eval (.tmp 41) = .string y9 := x0
      refine opC_value (v := .string y10) ?_ ⟨rfl, below_same wF⟩
      simp [execOp, go_sem, ev_of e0, h10]
      omega
    refine ⟨step_free rfl (fun aF wF hs hb => ?_), ?_⟩
    · obtain ⟨x0, -⟩ := hs
      have e0 : aF.eval (.tmp 1) = .pointer (some ⟨b, 0, none⟩) := x0
      refine opC_value (v := .pointer (some ⟨b, 6, none⟩)) ?_ ⟨rfl, below_same wF⟩
      have t0 := ev_of e0
      simp [execOp, go_sem, t0]
    refine ⟨step_free rfl (fun aF wF hs hb => ?_), ?_⟩
    · obtain ⟨x0, -⟩ := hs
      have e0 : aF.eval (.tmp 43) = .pointer (some ⟨b, 6, none⟩) := x0
      exact opC_load e0 (L6 wF hb) ⟨rfl, below_same wF⟩
    refine ⟨step_free rfl (fun aF wF hs hb => ?_), ?_⟩
    · obtain ⟨x0, -⟩ := hs
      have e0 : aF.eval (.tmp 44) = .int .i64 F := x0
      exact opC_call (args := #[.int .i64 F]) (enters9 Tryz.func52 (by kernel_rfl) rfl) (by simp [e0]) (C6 wF) (fun _ h => ⟨rfl, h⟩)
    refine ⟨step_free rfl (fun aF wF hs hb => ?_), ?_⟩
    · obtain ⟨x0, x1, -⟩ := hs
      have e0 : aF.eval (.tmp 42) = .string y10 := x0
      have e1 : aF.eval (.tmp 45) = .string s6 := x1
      refine opC_value (v := .string y11) ?_ ⟨rfl, below_same wF⟩
      simp [execOp, go_sem, ev_of e0, ev_of e1, h11]
      omega
    refine ⟨step_free rfl (fun aF wF hs hb => ?_), ?_⟩
    · obtain ⟨x0, -⟩ := hs
      have e0 : aF.eval (.tmp 46) = .string y11 := x0
      refine opC_value (v := .string y12) ?_ ⟨rfl, below_same wF⟩
      simp [execOp, go_sem, ev_of e0, h12]
      omega
    refine ⟨step_free rfl (fun aF wF hs hb => ?_), ?_⟩
    · obtain ⟨x0, -⟩ := hs
      have e0 : aF.eval (.tmp 1) = .pointer (some ⟨b, 0, none⟩) := x0
      refine opC_value (v := .pointer (some ⟨b, 7, none⟩)) ?_ ⟨rfl, below_same wF⟩
      have t0 := ev_of e0
      simp [execOp, go_sem, t0]
    refine ⟨step_free rfl (fun aF wF hs hb => ?_), ?_⟩
    · obtain ⟨x0, -⟩ := hs
      have e0 : aF.eval (.tmp 48) = .pointer (some ⟨b, 7, none⟩) := x0
      exact opC_load e0 (L7 wF hb) ⟨rfl, below_same wF⟩
    refine ⟨step_free rfl (fun aF wF hs hb => ?_), ?_⟩
    · obtain ⟨x0, -⟩ := hs
      have e0 : aF.eval (.tmp 49) = .int .i64 (G : Int) := x0
      refine opC_value (v := .int .u64 (G : Int)) ?_ ⟨rfl, below_same wF⟩
      simp [execOp, go_sem, ev_of e0, hw7]
    refine ⟨step_free rfl (fun aF wF hs hb => ?_), ?_⟩
    · obtain ⟨x0, -⟩ := hs
      have e0 : aF.eval (.tmp 50) = .int .u64 (G : Int) := x0
      exact opC_call (args := #[.int .u64 (G : Int)]) (enters9 Tryz.func48 (by kernel_rfl) rfl) (by simp [e0]) (C7 wF) (fun _ h => ⟨rfl, h⟩)
    refine ⟨step_free rfl (fun aF wF hs hb => ?_), ?_⟩
    · obtain ⟨x0, x1, -⟩ := hs
      have e0 : aF.eval (.tmp 47) = .string y12 := x0
      have e1 : aF.eval (.tmp 51) = .string s7 := x1
      refine opC_value (v := .string y13) ?_ ⟨rfl, below_same wF⟩
      simp [execOp, go_sem, ev_of e0, ev_of e1, h13]
      omega
    refine ⟨step_free rfl (fun aF wF hs hb => ?_), ?_⟩
    · obtain ⟨x0, -⟩ := hs
      have e0 : aF.eval (.tmp 52) = .string y13 := x0
      exact opC_assign e0 ⟨rfl, below_same wF⟩
    exact trivial
  · intro f w6 hf hb6
    have h99 : f 38 = .string y13 := hf 38 2 rfl
    have HB6 := Lib.hid (hb2.out.trans (hb6.mono hb2.out.size))
    simp only [putF, Act.put, List.setIfInBounds_toArray, List.set_cons_zero, List.set_cons_succ]
    rw [h99]
    clear hf h99 hb6 HQ hb2 L1 L2 L4 L5 L6 L7 C1 C2 C4 C5a C5b C6 C7
    go_wp2_with fail
    go_ret
    exact ⟨rfl, HB6.out⟩
set_option maxRecDepth 100000 in
set_option maxHeartbeats 4000000 in
theorem RText_21 {R M G : Nat} {P S F : Int} (hR : R ≤ 1000000) (hP : 1 ≤ P ∧ P ≤ 1000000000000) (hM : 1 ≤ M ∧ M ≤ 480) (hS : 0 ≤ S ∧ S ≤ 3600000) (hF : 0 ≤ F ∧ F ≤ 1000000000) (hG : G ≤ 60) (w : World) : Calls Tryz.prog 49 #[.agg #[.int .u8 2, .int .i64 P, .int .u32 (R : Int), .int .u8 1, .int .i64 (M : Int), .int .i64 S, .int .i64 F, .int .i64 (G : Int)]] w (Ret (.string (sps [⟨#[111, 110, 108, 121]⟩, textC P, dec R, ⟨#[97, 99, 116, 117, 97, 108]⟩, dec M, dayText S, textC F, dec G])) w) := by
  have hw2 : IntKind.u64.wrap (R : Int) = (R : Int) := by rw [IntKind.wrap_u64]; omega
  have hw4 : IntKind.u64.wrap (M : Int) = (M : Int) := by rw [IntKind.wrap_u64]; omega
  have hw7 : IntKind.u64.wrap (G : Int) = (G : Int) := by rw [IntKind.wrap_u64]; omega
  have C1 : ∀ W, Calls Tryz.prog 52 #[.int .i64 P] W fun e w' => e = .returned (.string (textC P)) ∧ Below W.heap.size W w' := fun W => (RText4_any P (by omega) W).mono fun e w' ⟨h1, h2⟩ => ⟨h1, by rw [← h2]; exact Below.refl _ _⟩
  have C6 : ∀ W, Calls Tryz.prog 52 #[.int .i64 F] W fun e w' => e = .returned (.string (textC F)) ∧ Below W.heap.size W w' := fun W => (RText4_any F (by omega) W).mono fun e w' ⟨h1, h2⟩ => ⟨h1, by rw [← h2]; exact Below.refl _ _⟩
  have C2 : ∀ W, Calls Tryz.prog 48 #[.int .u64 (R : Int)] W fun e w' => e = .returned (.string (dec R)) ∧ Below W.heap.size W w' := fun W => (RDec_any R (by omega) W).mono fun e w' ⟨h1, h2⟩ => ⟨h1, by rw [← h2]; exact Below.refl _ _⟩
  have C4 : ∀ W, Calls Tryz.prog 48 #[.int .u64 (M : Int)] W fun e w' => e = .returned (.string (dec M)) ∧ Below W.heap.size W w' := fun W => (RDec_any M (by omega) W).mono fun e w' ⟨h1, h2⟩ => ⟨h1, by rw [← h2]; exact Below.refl _ _⟩
  have C7 : ∀ W, Calls Tryz.prog 48 #[.int .u64 (G : Int)] W fun e w' => e = .returned (.string (dec G)) ∧ Below W.heap.size W w' := fun W => (RDec_any G (by omega) W).mono fun e w' ⟨h1, h2⟩ => ⟨h1, by rw [← h2]; exact Below.refl _ _⟩
  have C5a := fun W => RCivil_any S W hS.1 (by omega)
  have hci := civ_in S hS.1 (by omega)
  have C5b := fun W => RText5_any (cY S).toNat (cM S).toNat (cD S).toNat (by omega) (by omega) (by omega) W
  rw [show ((cY S).toNat : Int) = cY S by omega, show ((cM S).toNat : Int) = cM S by omega, show ((cD S).toNat : Int) = cD S by omega] at C5b
  have hdt : textS (cY S).toNat (cM S).toNat (cD S).toNat = dayText S := rfl
  rw [hdt] at C5b
  obtain ⟨s0, q0⟩ : ∃ s : ByteArray, ⟨#[111, 110, 108, 121]⟩ = s := ⟨_, rfl⟩
  obtain ⟨s1, q1⟩ : ∃ s, textC P = s := ⟨_, rfl⟩
  obtain ⟨s2, q2⟩ : ∃ s, dec R = s := ⟨_, rfl⟩
  obtain ⟨s3, q3⟩ : ∃ s : ByteArray, ⟨#[97, 99, 116, 117, 97, 108]⟩ = s := ⟨_, rfl⟩
  obtain ⟨s4, q4⟩ : ∃ s, dec M = s := ⟨_, rfl⟩
  obtain ⟨s5, q5⟩ : ∃ s, dayText S = s := ⟨_, rfl⟩
  obtain ⟨s6, q6⟩ : ∃ s, textC F = s := ⟨_, rfl⟩
  obtain ⟨s7, q7⟩ : ∃ s, dec G = s := ⟨_, rfl⟩
  rw [q1] at C1
  rw [q2] at C2
  rw [q4] at C4
  rw [q5] at C5b
  rw [q6] at C6
  rw [q7] at C7
  rw [q0, q1, q2, q3, q4, q5, q6, q7]
  rw [← sps8]
  obtain ⟨y0, h0⟩ : ∃ y, s0 ++ (⟨#[32]⟩ : ByteArray) = y := ⟨_, rfl⟩
  obtain ⟨y1, h1⟩ : ∃ y, y0 ++ s1 = y := ⟨_, rfl⟩
  obtain ⟨y2, h2⟩ : ∃ y, y1 ++ (⟨#[32]⟩ : ByteArray) = y := ⟨_, rfl⟩
  obtain ⟨y3, h3⟩ : ∃ y, y2 ++ s2 = y := ⟨_, rfl⟩
  obtain ⟨y4, h4⟩ : ∃ y, y3 ++ (⟨#[32]⟩ : ByteArray) = y := ⟨_, rfl⟩
  obtain ⟨y5, h5⟩ : ∃ y, y4 ++ s3 = y := ⟨_, rfl⟩
  obtain ⟨y6, h6⟩ : ∃ y, y5 ++ (⟨#[32]⟩ : ByteArray) = y := ⟨_, rfl⟩
  obtain ⟨y7, h7⟩ : ∃ y, y6 ++ s4 = y := ⟨_, rfl⟩
  obtain ⟨y8, h8⟩ : ∃ y, y7 ++ (⟨#[32]⟩ : ByteArray) = y := ⟨_, rfl⟩
  obtain ⟨y9, h9⟩ : ∃ y, y8 ++ s5 = y := ⟨_, rfl⟩
  obtain ⟨y10, h10⟩ : ∃ y, y9 ++ (⟨#[32]⟩ : ByteArray) = y := ⟨_, rfl⟩
  obtain ⟨y11, h11⟩ : ∃ y, y10 ++ s6 = y := ⟨_, rfl⟩
  obtain ⟨y12, h12⟩ : ∃ y, y11 ++ (⟨#[32]⟩ : ByteArray) = y := ⟨_, rfl⟩
  obtain ⟨y13, h13⟩ : ∃ y, y12 ++ s7 = y := ⟨_, rfl⟩
  rw [h0, h1, h2, h3, h4, h5, h6, h7, h8, h9, h10, h11, h12, h13]
  have zs0 : s0.size ≤ 30 := by rw [← q0]; decide
  have zs3 : s3.size ≤ 30 := by rw [← q3]; decide
  have zs1 : s1.size ≤ 30 := by rw [← q1, Lib.size_eq]; exact textC_len P (by omega)
  have zs2 : s2.size ≤ 30 := by rw [← q2, Lib.size_eq]; exact dec_len R (by omega)
  have zs4 : s4.size ≤ 30 := by rw [← q4, Lib.size_eq]; exact dec_len M (by omega)
  have zs5 : s5.size ≤ 30 := by rw [← q5, Lib.size_eq]; exact day_len S
  have zs6 : s6.size ≤ 30 := by rw [← q6, Lib.size_eq]; exact textC_len F (by omega)
  have zs7 : s7.size ≤ 30 := by rw [← q7, Lib.size_eq]; exact dec_len G (by omega)
  have zy0 : y0.size ≤ 62 := by
    rw [← h0, ByteArray.size_append]
    have e9 : (⟨#[32]⟩ : ByteArray).size = 1 := rfl
    omega
  have zy1 : y1.size ≤ 93 := by
    rw [← h1, ByteArray.size_append]
    have e9 : (⟨#[32]⟩ : ByteArray).size = 1 := rfl
    omega
  have zy2 : y2.size ≤ 124 := by
    rw [← h2, ByteArray.size_append]
    have e9 : (⟨#[32]⟩ : ByteArray).size = 1 := rfl
    omega
  have zy3 : y3.size ≤ 155 := by
    rw [← h3, ByteArray.size_append]
    have e9 : (⟨#[32]⟩ : ByteArray).size = 1 := rfl
    omega
  have zy4 : y4.size ≤ 186 := by
    rw [← h4, ByteArray.size_append]
    have e9 : (⟨#[32]⟩ : ByteArray).size = 1 := rfl
    omega
  have zy5 : y5.size ≤ 217 := by
    rw [← h5, ByteArray.size_append]
    have e9 : (⟨#[32]⟩ : ByteArray).size = 1 := rfl
    omega
  have zy6 : y6.size ≤ 248 := by
    rw [← h6, ByteArray.size_append]
    have e9 : (⟨#[32]⟩ : ByteArray).size = 1 := rfl
    omega
  have zy7 : y7.size ≤ 279 := by
    rw [← h7, ByteArray.size_append]
    have e9 : (⟨#[32]⟩ : ByteArray).size = 1 := rfl
    omega
  have zy8 : y8.size ≤ 310 := by
    rw [← h8, ByteArray.size_append]
    have e9 : (⟨#[32]⟩ : ByteArray).size = 1 := rfl
    omega
  have zy9 : y9.size ≤ 341 := by
    rw [← h9, ByteArray.size_append]
    have e9 : (⟨#[32]⟩ : ByteArray).size = 1 := rfl
    omega
  have zy10 : y10.size ≤ 372 := by
    rw [← h10, ByteArray.size_append]
    have e9 : (⟨#[32]⟩ : ByteArray).size = 1 := rfl
    omega
  have zy11 : y11.size ≤ 403 := by
    rw [← h11, ByteArray.size_append]
    have e9 : (⟨#[32]⟩ : ByteArray).size = 1 := rfl
    omega
  have zy12 : y12.size ≤ 434 := by
    rw [← h12, ByteArray.size_append]
    have e9 : (⟨#[32]⟩ : ByteArray).size = 1 := rfl
    omega
  have zy13 : y13.size ≤ 465 := by
    rw [← h13, ByteArray.size_append]
    have e9 : (⟨#[32]⟩ : ByteArray).size = 1 := rfl
    omega
  clear q1 q2 q4 q5 q6 q7 hdt hci hP hR hM hS hF hG
  have HQ0 := Blk.new w 40 #[.int .u8 2, .int .i64 P, .int .u32 (R : Int), .int .u8 1, .int .i64 (M : Int), .int .i64 S, .int .i64 F, .int .i64 (G : Int)]
  have hb0 := b_alloc w (.cells #[.int .u8 2, .int .i64 P, .int .u32 (R : Int), .int .u8 1, .int .i64 (M : Int), .int .i64 S, .int .i64 F, .int .i64 (G : Int)] 40)
  have hb1 := hb0.alloc hb0.size (.cells #[.string ⟨#[]⟩, .string ⟨#[108, 101, 118, 101, 108]⟩, .string ⟨#[111, 110, 108, 121]⟩] 9)
  have HQ1 := HQ0.alloc (.cells #[.string ⟨#[]⟩, .string ⟨#[108, 101, 118, 101, 108]⟩, .string ⟨#[111, 110, 108, 121]⟩] 9)
  have hb2 := Lib.hid (hb1.alloc hb1.size (.cells #[.string ⟨#[]⟩, .string ⟨#[97, 99, 116, 117, 97, 108]⟩, .string ⟨#[116, 104, 105, 114, 116, 121]⟩] 9))
  have HQ := Lib.hid (HQ1.alloc (.cells #[.string ⟨#[]⟩, .string ⟨#[97, 99, 116, 117, 97, 108]⟩, .string ⟨#[116, 104, 105, 114, 116, 121]⟩] 9))
  obtain ⟨c0, c1, c2, c3, c4, c5, c6, c7⟩ := blk8 HQ0
  clear hb0 hb1 HQ0 HQ1
  go_enter Tryz.func49, Tryz.ntmps49
  go_upto_region 3 with (fail)
  try rw [q0]
  try rw [q3]
  obtain ⟨W3, hW3⟩ : ∃ W, (((w.alloc (.cells #[.int .u8 2, .int .i64 P, .int .u32 (R : Int), .int .u8 1, .int .i64 (M : Int), .int .i64 S, .int .i64 F, .int .i64 (G : Int)] 40)).alloc (.cells #[.string ⟨#[]⟩, .string ⟨#[108, 101, 118, 101, 108]⟩, .string ⟨#[111, 110, 108, 121]⟩] 9)).alloc (.cells #[.string ⟨#[]⟩, .string ⟨#[97, 99, 116, 117, 97, 108]⟩, .string ⟨#[116, 104, 105, 114, 116, 121]⟩] 9)) = W := ⟨_, rfl⟩
  obtain ⟨b, hb⟩ : ∃ b, w.heap.size = b := ⟨_, rfl⟩
  have hg3 := hW3
  try rw [q0] at hg3
  try rw [q3] at hg3
  rw [hW3] at HQ hb2
  rw [hb] at HQ
  rw [hg3]
  rw [hb]
  clear hW3 hg3 hb c0 c1 c2 c3 c4 c5 c6 c7 q0 q3
  have L1 : ∀ W', Below W3.heap.size W3 W' → (Instr.loadAt 2 (.pointer (some ⟨b, 1, none⟩))).run Tryz.prog W' = .ok (.int .i64 P) W' := fun W' hb => by
    have c0 := (blk8 (HQ.out.below hb HQ.out.lt)).2.1
    go_simp
  have L2 : ∀ W', Below W3.heap.size W3 W' → (Instr.loadAt 22 (.pointer (some ⟨b, 2, none⟩))).run Tryz.prog W' = .ok (.int .u32 (R : Int)) W' := fun W' hb => by
    have c0 := (blk8 (HQ.out.below hb HQ.out.lt)).2.2.1
    go_simp
  have L4 : ∀ W', Below W3.heap.size W3 W' → (Instr.loadAt 3 (.pointer (some ⟨b, 4, none⟩))).run Tryz.prog W' = .ok (.int .i64 (M : Int)) W' := fun W' hb => by
    have c0 := (blk8 (HQ.out.below hb HQ.out.lt)).2.2.2.2.1
    go_simp
  have L5 : ∀ W', Below W3.heap.size W3 W' → (Instr.loadAt 3 (.pointer (some ⟨b, 5, none⟩))).run Tryz.prog W' = .ok (.int .i64 S) W' := fun W' hb => by
    have c0 := (blk8 (HQ.out.below hb HQ.out.lt)).2.2.2.2.2.1
    go_simp
  have L6 : ∀ W', Below W3.heap.size W3 W' → (Instr.loadAt 2 (.pointer (some ⟨b, 6, none⟩))).run Tryz.prog W' = .ok (.int .i64 F) W' := fun W' hb => by
    have c0 := (blk8 (HQ.out.below hb HQ.out.lt)).2.2.2.2.2.2.1
    go_simp
  have L7 : ∀ W', Below W3.heap.size W3 W' → (Instr.loadAt 3 (.pointer (some ⟨b, 7, none⟩))).run Tryz.prog W' = .ok (.int .i64 (G : Int)) W' := fun W' hb => by
    have c0 := (blk8 (HQ.out.below hb HQ.out.lt)).2.2.2.2.2.2.2
    go_simp
  refine wp_region_flow [some 15, some 16, some 17, some 18, some 19, some 20, some 21, some 22, some 23, some 24, some 25, some 26, some 27, some 28, some 29, some 30, some 31, some 32, some 33, some 34, some 35, some 36, some 37, some 38, some 39, some 40, some 41, some 42, some 43, some 44, some 45, some 46, some 47, some 48, some 49, some 50, some 51, some 52, some 2] (fun i => ([.is (.string s0), .is (.string y0), .is (.pointer (some ⟨b, 1, none⟩)), .is (.int .i64 P), .is (.string s1), .is (.string y1), .is (.string y2), .is (.pointer (some ⟨b, 2, none⟩)), .is (.int .u32 (R : Int)), .is (.int .u64 (R : Int)), .is (.string s2), .is (.string y3), .is (.string y4), .is (.string s3), .is (.string y5), .is (.string y6), .is (.pointer (some ⟨b, 4, none⟩)), .is (.int .i64 (M : Int)), .is (.int .u64 (M : Int)), .is (.string s4), .is (.string y7), .is (.string y8), .is (.pointer (some ⟨b, 5, none⟩)), .is (.int .i64 S), .is (.agg #[.int .i64 (cY S), .int .i64 (cM S), .int .i64 (cD S)]), .is (.string s5), .is (.string y9), .is (.string y10), .is (.pointer (some ⟨b, 6, none⟩)), .is (.int .i64 F), .is (.string s6), .is (.string y11), .is (.string y12), .is (.pointer (some ⟨b, 7, none⟩)), .is (.int .i64 (G : Int)), .is (.int .u64 (G : Int)), .is (.string s7), .is (.string y13), .is (.string y13)] : List Flw).getD i .any) (by kernel_rfl) (by kernel_rfl) rfl ?_ ?_
  · clear HQ hb2
    refine ⟨step_free rfl (fun aF wF hs hb => ?_), ?_⟩
    · obtain ⟨x0, -⟩ := hs
      have e0 : aF.eval (.tmp 3) = .string s0 := x0
      exact opC_move e0 ⟨rfl, below_same wF⟩
    refine ⟨step_free rfl (fun aF wF hs hb => ?_), ?_⟩
    · obtain ⟨x0, -⟩ := hs
      have e0 : aF.eval (.tmp 15) = .string s0 := x0
      refine opC_value (v := .string y0) ?_ ⟨rfl, below_same wF⟩
      simp [execOp, go_sem, ev_of e0, h0]
      omega
    refine ⟨step_free rfl (fun aF wF hs hb => ?_), ?_⟩
    · obtain ⟨x0, -⟩ := hs
      have e0 : aF.eval (.tmp 1) = .pointer (some ⟨b, 0, none⟩) := x0
      refine opC_value (v := .pointer (some ⟨b, 1, none⟩)) ?_ ⟨rfl, below_same wF⟩
      have t0 := ev_of e0
      simp [execOp, go_sem, t0]
    refine ⟨step_free rfl (fun aF wF hs hb => ?_), ?_⟩
    · obtain ⟨x0, -⟩ := hs
      have e0 : aF.eval (.tmp 17) = .pointer (some ⟨b, 1, none⟩) := x0
      exact opC_load e0 (L1 wF hb) ⟨rfl, below_same wF⟩
    refine ⟨step_free rfl (fun aF wF hs hb => ?_), ?_⟩
    · obtain ⟨x0, -⟩ := hs
      have e0 : aF.eval (.tmp 18) = .int .i64 P := x0
      exact opC_call (args := #[.int .i64 P]) (enters9 Tryz.func52 (by kernel_rfl) rfl) (by simp [e0]) (C1 wF) (fun _ h => ⟨rfl, h⟩)
    refine ⟨step_free rfl (fun aF wF hs hb => ?_), ?_⟩
    · obtain ⟨x0, x1, -⟩ := hs
      have e0 : aF.eval (.tmp 16) = .string y0 := x0
      have e1 : aF.eval (.tmp 19) = .string s1 := x1
      refine opC_value (v := .string y1) ?_ ⟨rfl, below_same wF⟩
      simp [execOp, go_sem, ev_of e0, ev_of e1, h1]
      omega
    refine ⟨step_free rfl (fun aF wF hs hb => ?_), ?_⟩
    · obtain ⟨x0, -⟩ := hs
      have e0 : aF.eval (.tmp 20) = .string y1 := x0
      refine opC_value (v := .string y2) ?_ ⟨rfl, below_same wF⟩
      simp [execOp, go_sem, ev_of e0, h2]
      omega
    refine ⟨step_free rfl (fun aF wF hs hb => ?_), ?_⟩
    · obtain ⟨x0, -⟩ := hs
      have e0 : aF.eval (.tmp 1) = .pointer (some ⟨b, 0, none⟩) := x0
      refine opC_value (v := .pointer (some ⟨b, 2, none⟩)) ?_ ⟨rfl, below_same wF⟩
      have t0 := ev_of e0
      simp [execOp, go_sem, t0]
    refine ⟨step_free rfl (fun aF wF hs hb => ?_), ?_⟩
    · obtain ⟨x0, -⟩ := hs
      have e0 : aF.eval (.tmp 22) = .pointer (some ⟨b, 2, none⟩) := x0
      exact opC_load e0 (L2 wF hb) ⟨rfl, below_same wF⟩
    refine ⟨step_free rfl (fun aF wF hs hb => ?_), ?_⟩
    · obtain ⟨x0, -⟩ := hs
      have e0 : aF.eval (.tmp 23) = .int .u32 (R : Int) := x0
      refine opC_value (v := .int .u64 (R : Int)) ?_ ⟨rfl, below_same wF⟩
      simp [execOp, go_sem, ev_of e0, hw2]
    refine ⟨step_free rfl (fun aF wF hs hb => ?_), ?_⟩
    · obtain ⟨x0, -⟩ := hs
      have e0 : aF.eval (.tmp 24) = .int .u64 (R : Int) := x0
      exact opC_call (args := #[.int .u64 (R : Int)]) (enters9 Tryz.func48 (by kernel_rfl) rfl) (by simp [e0]) (C2 wF) (fun _ h => ⟨rfl, h⟩)
    refine ⟨step_free rfl (fun aF wF hs hb => ?_), ?_⟩
    · obtain ⟨x0, x1, -⟩ := hs
      have e0 : aF.eval (.tmp 21) = .string y2 := x0
      have e1 : aF.eval (.tmp 25) = .string s2 := x1
      refine opC_value (v := .string y3) ?_ ⟨rfl, below_same wF⟩
      simp [execOp, go_sem, ev_of e0, ev_of e1, h3]
      omega
    refine ⟨step_free rfl (fun aF wF hs hb => ?_), ?_⟩
    · obtain ⟨x0, -⟩ := hs
      have e0 : aF.eval (.tmp 26) = .string y3 := x0
      refine opC_value (v := .string y4) ?_ ⟨rfl, below_same wF⟩
      simp [execOp, go_sem, ev_of e0, h4]
      omega
    refine ⟨step_free rfl (fun aF wF hs hb => ?_), ?_⟩
    · obtain ⟨x0, -⟩ := hs
      have e0 : aF.eval (.tmp 4) = .string s3 := x0
      exact opC_move e0 ⟨rfl, below_same wF⟩
    refine ⟨step_free rfl (fun aF wF hs hb => ?_), ?_⟩
    · obtain ⟨x0, x1, -⟩ := hs
      have e0 : aF.eval (.tmp 27) = .string y4 := x0
      have e1 : aF.eval (.tmp 28) = .string s3 := x1
      refine opC_value (v := .string y5) ?_ ⟨rfl, below_same wF⟩
      simp [execOp, go_sem, ev_of e0, ev_of e1, h5]
      omega
    refine ⟨step_free rfl (fun aF wF hs hb => ?_), ?_⟩
    · obtain ⟨x0, -⟩ := hs
      have e0 : aF.eval (.tmp 29) = .string y5 := x0
      refine opC_value (v := .string y6) ?_ ⟨rfl, below_same wF⟩
      simp [execOp, go_sem, ev_of e0, h6]
      omega
    refine ⟨step_free rfl (fun aF wF hs hb => ?_), ?_⟩
    · obtain ⟨x0, -⟩ := hs
      have e0 : aF.eval (.tmp 1) = .pointer (some ⟨b, 0, none⟩) := x0
      refine opC_value (v := .pointer (some ⟨b, 4, none⟩)) ?_ ⟨rfl, below_same wF⟩
      have t0 := ev_of e0
      simp [execOp, go_sem, t0]
    refine ⟨step_free rfl (fun aF wF hs hb => ?_), ?_⟩
    · obtain ⟨x0, -⟩ := hs
      have e0 : aF.eval (.tmp 31) = .pointer (some ⟨b, 4, none⟩) := x0
      exact opC_load e0 (L4 wF hb) ⟨rfl, below_same wF⟩
    refine ⟨step_free rfl (fun aF wF hs hb => ?_), ?_⟩
    · obtain ⟨x0, -⟩ := hs
      have e0 : aF.eval (.tmp 32) = .int .i64 (M : Int) := x0
      refine opC_value (v := .int .u64 (M : Int)) ?_ ⟨rfl, below_same wF⟩
      simp [execOp, go_sem, ev_of e0, hw4]
    refine ⟨step_free rfl (fun aF wF hs hb => ?_), ?_⟩
    · obtain ⟨x0, -⟩ := hs
      have e0 : aF.eval (.tmp 33) = .int .u64 (M : Int) := x0
      exact opC_call (args := #[.int .u64 (M : Int)]) (enters9 Tryz.func48 (by kernel_rfl) rfl) (by simp [e0]) (C4 wF) (fun _ h => ⟨rfl, h⟩)
    refine ⟨step_free rfl (fun aF wF hs hb => ?_), ?_⟩
    · obtain ⟨x0, x1, -⟩ := hs
      have e0 : aF.eval (.tmp 30) = .string y6 := x0
      have e1 : aF.eval (.tmp 34) = .string s4 := x1
      refine opC_value (v := .string y7) ?_ ⟨rfl, below_same wF⟩
      simp [execOp, go_sem, ev_of e0, ev_of e1, h7]
      omega
    refine ⟨step_free rfl (fun aF wF hs hb => ?_), ?_⟩
    · obtain ⟨x0, -⟩ := hs
      have e0 : aF.eval (.tmp 35) = .string y7 := x0
      refine opC_value (v := .string y8) ?_ ⟨rfl, below_same wF⟩
      simp [execOp, go_sem, ev_of e0, h8]
      omega
    refine ⟨step_free rfl (fun aF wF hs hb => ?_), ?_⟩
    · obtain ⟨x0, -⟩ := hs
      have e0 : aF.eval (.tmp 1) = .pointer (some ⟨b, 0, none⟩) := x0
      refine opC_value (v := .pointer (some ⟨b, 5, none⟩)) ?_ ⟨rfl, below_same wF⟩
      have t0 := ev_of e0
      simp [execOp, go_sem, t0]
    refine ⟨step_free rfl (fun aF wF hs hb => ?_), ?_⟩
    · obtain ⟨x0, -⟩ := hs
      have e0 : aF.eval (.tmp 37) = .pointer (some ⟨b, 5, none⟩) := x0
      exact opC_load e0 (L5 wF hb) ⟨rfl, below_same wF⟩
    refine ⟨step_free rfl (fun aF wF hs hb => ?_), ?_⟩
    · obtain ⟨x0, -⟩ := hs
      have e0 : aF.eval (.tmp 38) = .int .i64 S := x0
      exact opC_call (args := #[.int .i64 S]) (enters9 Tryz.func51 (by kernel_rfl) rfl) (by simp [e0]) (C5a wF) (fun _ h => ⟨rfl, h⟩)
    refine ⟨step_free rfl (fun aF wF hs hb => ?_), ?_⟩
    · obtain ⟨x0, -⟩ := hs
      have e0 : aF.eval (.tmp 39) = .agg #[.int .i64 (cY S), .int .i64 (cM S), .int .i64 (cD S)] := x0
      exact opC_call (args := #[.agg #[.int .i64 (cY S), .int .i64 (cM S), .int .i64 (cD S)]]) (enters9 Tryz.func50 (by kernel_rfl) rfl) (by simp [e0]) (C5b wF) (fun _ h => ⟨rfl, h⟩)
    refine ⟨step_free rfl (fun aF wF hs hb => ?_), ?_⟩
    · obtain ⟨x0, x1, -⟩ := hs
      have e0 : aF.eval (.tmp 36) = .string y8 := x0
      have e1 : aF.eval (.tmp 40) = .string s5 := x1
      refine opC_value (v := .string y9) ?_ ⟨rfl, below_same wF⟩
      simp [execOp, go_sem, ev_of e0, ev_of e1, h9]
      omega
    refine ⟨step_free rfl (fun aF wF hs hb => ?_), ?_⟩
    · obtain ⟨x0, -⟩ := hs
      have e0 : aF.eval (.tmp 41) = .string y9 := x0
      refine opC_value (v := .string y10) ?_ ⟨rfl, below_same wF⟩
      simp [execOp, go_sem, ev_of e0, h10]
      omega
    refine ⟨step_free rfl (fun aF wF hs hb => ?_), ?_⟩
    · obtain ⟨x0, -⟩ := hs
      have e0 : aF.eval (.tmp 1) = .pointer (some ⟨b, 0, none⟩) := x0
      refine opC_value (v := .pointer (some ⟨b, 6, none⟩)) ?_ ⟨rfl, below_same wF⟩
      have t0 := ev_of e0
      simp [execOp, go_sem, t0]
    refine ⟨step_free rfl (fun aF wF hs hb => ?_), ?_⟩
    · obtain ⟨x0, -⟩ := hs
      have e0 : aF.eval (.tmp 43) = .pointer (some ⟨b, 6, none⟩) := x0
      exact opC_load e0 (L6 wF hb) ⟨rfl, below_same wF⟩
    refine ⟨step_free rfl (fun aF wF hs hb => ?_), ?_⟩
    · obtain ⟨x0, -⟩ := hs
      have e0 : aF.eval (.tmp 44) = .int .i64 F := x0
      exact opC_call (args := #[.int .i64 F]) (enters9 Tryz.func52 (by kernel_rfl) rfl) (by simp [e0]) (C6 wF) (fun _ h => ⟨rfl, h⟩)
    refine ⟨step_free rfl (fun aF wF hs hb => ?_), ?_⟩
    · obtain ⟨x0, x1, -⟩ := hs
      have e0 : aF.eval (.tmp 42) = .string y10 := x0
      have e1 : aF.eval (.tmp 45) = .string s6 := x1
      refine opC_value (v := .string y11) ?_ ⟨rfl, below_same wF⟩
      simp [execOp, go_sem, ev_of e0, ev_of e1, h11]
      omega
    refine ⟨step_free rfl (fun aF wF hs hb => ?_), ?_⟩
    · obtain ⟨x0, -⟩ := hs
      have e0 : aF.eval (.tmp 46) = .string y11 := x0
      refine opC_value (v := .string y12) ?_ ⟨rfl, below_same wF⟩
      simp [execOp, go_sem, ev_of e0, h12]
      omega
    refine ⟨step_free rfl (fun aF wF hs hb => ?_), ?_⟩
    · obtain ⟨x0, -⟩ := hs
      have e0 : aF.eval (.tmp 1) = .pointer (some ⟨b, 0, none⟩) := x0
      refine opC_value (v := .pointer (some ⟨b, 7, none⟩)) ?_ ⟨rfl, below_same wF⟩
      have t0 := ev_of e0
      simp [execOp, go_sem, t0]
    refine ⟨step_free rfl (fun aF wF hs hb => ?_), ?_⟩
    · obtain ⟨x0, -⟩ := hs
      have e0 : aF.eval (.tmp 48) = .pointer (some ⟨b, 7, none⟩) := x0
      exact opC_load e0 (L7 wF hb) ⟨rfl, below_same wF⟩
    refine ⟨step_free rfl (fun aF wF hs hb => ?_), ?_⟩
    · obtain ⟨x0, -⟩ := hs
      have e0 : aF.eval (.tmp 49) = .int .i64 (G : Int) := x0
      refine opC_value (v := .int .u64 (G : Int)) ?_ ⟨rfl, below_same wF⟩
      simp [execOp, go_sem, ev_of e0, hw7]
    refine ⟨step_free rfl (fun aF wF hs hb => ?_), ?_⟩
    · obtain ⟨x0, -⟩ := hs
      have e0 : aF.eval (.tmp 50) = .int .u64 (G : Int) := x0
      exact opC_call (args := #[.int .u64 (G : Int)]) (enters9 Tryz.func48 (by kernel_rfl) rfl) (by simp [e0]) (C7 wF) (fun _ h => ⟨rfl, h⟩)
    refine ⟨step_free rfl (fun aF wF hs hb => ?_), ?_⟩
    · obtain ⟨x0, x1, -⟩ := hs
      have e0 : aF.eval (.tmp 47) = .string y12 := x0
      have e1 : aF.eval (.tmp 51) = .string s7 := x1
      refine opC_value (v := .string y13) ?_ ⟨rfl, below_same wF⟩
      simp [execOp, go_sem, ev_of e0, ev_of e1, h13]
      omega
    refine ⟨step_free rfl (fun aF wF hs hb => ?_), ?_⟩
    · obtain ⟨x0, -⟩ := hs
      have e0 : aF.eval (.tmp 52) = .string y13 := x0
      exact opC_assign e0 ⟨rfl, below_same wF⟩
    exact trivial
  · intro f w6 hf hb6
    have h99 : f 38 = .string y13 := hf 38 2 rfl
    have HB6 := Lib.hid (hb2.out.trans (hb6.mono hb2.out.size))
    simp only [putF, Act.put, List.setIfInBounds_toArray, List.set_cons_zero, List.set_cons_succ]
    rw [h99]
    clear hf h99 hb6 HQ hb2 L1 L2 L4 L5 L6 L7 C1 C2 C4 C5a C5b C6 C7
    go_wp2_with fail
    go_ret
    exact ⟨rfl, HB6.out⟩
set_option maxRecDepth 100000 in
set_option maxHeartbeats 4000000 in
theorem RText_22 {R M G : Nat} {P S F : Int} (hR : R ≤ 1000000) (hP : 1 ≤ P ∧ P ≤ 1000000000000) (hM : 1 ≤ M ∧ M ≤ 480) (hS : 0 ≤ S ∧ S ≤ 3600000) (hF : 0 ≤ F ∧ F ≤ 1000000000) (hG : G ≤ 60) (w : World) : Calls Tryz.prog 49 #[.agg #[.int .u8 2, .int .i64 P, .int .u32 (R : Int), .int .u8 2, .int .i64 (M : Int), .int .i64 S, .int .i64 F, .int .i64 (G : Int)]] w (Ret (.string (sps [⟨#[111, 110, 108, 121]⟩, textC P, dec R, ⟨#[116, 104, 105, 114, 116, 121]⟩, dec M, dayText S, textC F, dec G])) w) := by
  have hw2 : IntKind.u64.wrap (R : Int) = (R : Int) := by rw [IntKind.wrap_u64]; omega
  have hw4 : IntKind.u64.wrap (M : Int) = (M : Int) := by rw [IntKind.wrap_u64]; omega
  have hw7 : IntKind.u64.wrap (G : Int) = (G : Int) := by rw [IntKind.wrap_u64]; omega
  have C1 : ∀ W, Calls Tryz.prog 52 #[.int .i64 P] W fun e w' => e = .returned (.string (textC P)) ∧ Below W.heap.size W w' := fun W => (RText4_any P (by omega) W).mono fun e w' ⟨h1, h2⟩ => ⟨h1, by rw [← h2]; exact Below.refl _ _⟩
  have C6 : ∀ W, Calls Tryz.prog 52 #[.int .i64 F] W fun e w' => e = .returned (.string (textC F)) ∧ Below W.heap.size W w' := fun W => (RText4_any F (by omega) W).mono fun e w' ⟨h1, h2⟩ => ⟨h1, by rw [← h2]; exact Below.refl _ _⟩
  have C2 : ∀ W, Calls Tryz.prog 48 #[.int .u64 (R : Int)] W fun e w' => e = .returned (.string (dec R)) ∧ Below W.heap.size W w' := fun W => (RDec_any R (by omega) W).mono fun e w' ⟨h1, h2⟩ => ⟨h1, by rw [← h2]; exact Below.refl _ _⟩
  have C4 : ∀ W, Calls Tryz.prog 48 #[.int .u64 (M : Int)] W fun e w' => e = .returned (.string (dec M)) ∧ Below W.heap.size W w' := fun W => (RDec_any M (by omega) W).mono fun e w' ⟨h1, h2⟩ => ⟨h1, by rw [← h2]; exact Below.refl _ _⟩
  have C7 : ∀ W, Calls Tryz.prog 48 #[.int .u64 (G : Int)] W fun e w' => e = .returned (.string (dec G)) ∧ Below W.heap.size W w' := fun W => (RDec_any G (by omega) W).mono fun e w' ⟨h1, h2⟩ => ⟨h1, by rw [← h2]; exact Below.refl _ _⟩
  have C5a := fun W => RCivil_any S W hS.1 (by omega)
  have hci := civ_in S hS.1 (by omega)
  have C5b := fun W => RText5_any (cY S).toNat (cM S).toNat (cD S).toNat (by omega) (by omega) (by omega) W
  rw [show ((cY S).toNat : Int) = cY S by omega, show ((cM S).toNat : Int) = cM S by omega, show ((cD S).toNat : Int) = cD S by omega] at C5b
  have hdt : textS (cY S).toNat (cM S).toNat (cD S).toNat = dayText S := rfl
  rw [hdt] at C5b
  obtain ⟨s0, q0⟩ : ∃ s : ByteArray, ⟨#[111, 110, 108, 121]⟩ = s := ⟨_, rfl⟩
  obtain ⟨s1, q1⟩ : ∃ s, textC P = s := ⟨_, rfl⟩
  obtain ⟨s2, q2⟩ : ∃ s, dec R = s := ⟨_, rfl⟩
  obtain ⟨s3, q3⟩ : ∃ s : ByteArray, ⟨#[116, 104, 105, 114, 116, 121]⟩ = s := ⟨_, rfl⟩
  obtain ⟨s4, q4⟩ : ∃ s, dec M = s := ⟨_, rfl⟩
  obtain ⟨s5, q5⟩ : ∃ s, dayText S = s := ⟨_, rfl⟩
  obtain ⟨s6, q6⟩ : ∃ s, textC F = s := ⟨_, rfl⟩
  obtain ⟨s7, q7⟩ : ∃ s, dec G = s := ⟨_, rfl⟩
  rw [q1] at C1
  rw [q2] at C2
  rw [q4] at C4
  rw [q5] at C5b
  rw [q6] at C6
  rw [q7] at C7
  rw [q0, q1, q2, q3, q4, q5, q6, q7]
  rw [← sps8]
  obtain ⟨y0, h0⟩ : ∃ y, s0 ++ (⟨#[32]⟩ : ByteArray) = y := ⟨_, rfl⟩
  obtain ⟨y1, h1⟩ : ∃ y, y0 ++ s1 = y := ⟨_, rfl⟩
  obtain ⟨y2, h2⟩ : ∃ y, y1 ++ (⟨#[32]⟩ : ByteArray) = y := ⟨_, rfl⟩
  obtain ⟨y3, h3⟩ : ∃ y, y2 ++ s2 = y := ⟨_, rfl⟩
  obtain ⟨y4, h4⟩ : ∃ y, y3 ++ (⟨#[32]⟩ : ByteArray) = y := ⟨_, rfl⟩
  obtain ⟨y5, h5⟩ : ∃ y, y4 ++ s3 = y := ⟨_, rfl⟩
  obtain ⟨y6, h6⟩ : ∃ y, y5 ++ (⟨#[32]⟩ : ByteArray) = y := ⟨_, rfl⟩
  obtain ⟨y7, h7⟩ : ∃ y, y6 ++ s4 = y := ⟨_, rfl⟩
  obtain ⟨y8, h8⟩ : ∃ y, y7 ++ (⟨#[32]⟩ : ByteArray) = y := ⟨_, rfl⟩
  obtain ⟨y9, h9⟩ : ∃ y, y8 ++ s5 = y := ⟨_, rfl⟩
  obtain ⟨y10, h10⟩ : ∃ y, y9 ++ (⟨#[32]⟩ : ByteArray) = y := ⟨_, rfl⟩
  obtain ⟨y11, h11⟩ : ∃ y, y10 ++ s6 = y := ⟨_, rfl⟩
  obtain ⟨y12, h12⟩ : ∃ y, y11 ++ (⟨#[32]⟩ : ByteArray) = y := ⟨_, rfl⟩
  obtain ⟨y13, h13⟩ : ∃ y, y12 ++ s7 = y := ⟨_, rfl⟩
  rw [h0, h1, h2, h3, h4, h5, h6, h7, h8, h9, h10, h11, h12, h13]
  have zs0 : s0.size ≤ 30 := by rw [← q0]; decide
  have zs3 : s3.size ≤ 30 := by rw [← q3]; decide
  have zs1 : s1.size ≤ 30 := by rw [← q1, Lib.size_eq]; exact textC_len P (by omega)
  have zs2 : s2.size ≤ 30 := by rw [← q2, Lib.size_eq]; exact dec_len R (by omega)
  have zs4 : s4.size ≤ 30 := by rw [← q4, Lib.size_eq]; exact dec_len M (by omega)
  have zs5 : s5.size ≤ 30 := by rw [← q5, Lib.size_eq]; exact day_len S
  have zs6 : s6.size ≤ 30 := by rw [← q6, Lib.size_eq]; exact textC_len F (by omega)
  have zs7 : s7.size ≤ 30 := by rw [← q7, Lib.size_eq]; exact dec_len G (by omega)
  have zy0 : y0.size ≤ 62 := by
    rw [← h0, ByteArray.size_append]
    have e9 : (⟨#[32]⟩ : ByteArray).size = 1 := rfl
    omega
  have zy1 : y1.size ≤ 93 := by
    rw [← h1, ByteArray.size_append]
    have e9 : (⟨#[32]⟩ : ByteArray).size = 1 := rfl
    omega
  have zy2 : y2.size ≤ 124 := by
    rw [← h2, ByteArray.size_append]
    have e9 : (⟨#[32]⟩ : ByteArray).size = 1 := rfl
    omega
  have zy3 : y3.size ≤ 155 := by
    rw [← h3, ByteArray.size_append]
    have e9 : (⟨#[32]⟩ : ByteArray).size = 1 := rfl
    omega
  have zy4 : y4.size ≤ 186 := by
    rw [← h4, ByteArray.size_append]
    have e9 : (⟨#[32]⟩ : ByteArray).size = 1 := rfl
    omega
  have zy5 : y5.size ≤ 217 := by
    rw [← h5, ByteArray.size_append]
    have e9 : (⟨#[32]⟩ : ByteArray).size = 1 := rfl
    omega
  have zy6 : y6.size ≤ 248 := by
    rw [← h6, ByteArray.size_append]
    have e9 : (⟨#[32]⟩ : ByteArray).size = 1 := rfl
    omega
  have zy7 : y7.size ≤ 279 := by
    rw [← h7, ByteArray.size_append]
    have e9 : (⟨#[32]⟩ : ByteArray).size = 1 := rfl
    omega
  have zy8 : y8.size ≤ 310 := by
    rw [← h8, ByteArray.size_append]
    have e9 : (⟨#[32]⟩ : ByteArray).size = 1 := rfl
    omega
  have zy9 : y9.size ≤ 341 := by
    rw [← h9, ByteArray.size_append]
    have e9 : (⟨#[32]⟩ : ByteArray).size = 1 := rfl
    omega
  have zy10 : y10.size ≤ 372 := by
    rw [← h10, ByteArray.size_append]
    have e9 : (⟨#[32]⟩ : ByteArray).size = 1 := rfl
    omega
  have zy11 : y11.size ≤ 403 := by
    rw [← h11, ByteArray.size_append]
    have e9 : (⟨#[32]⟩ : ByteArray).size = 1 := rfl
    omega
  have zy12 : y12.size ≤ 434 := by
    rw [← h12, ByteArray.size_append]
    have e9 : (⟨#[32]⟩ : ByteArray).size = 1 := rfl
    omega
  have zy13 : y13.size ≤ 465 := by
    rw [← h13, ByteArray.size_append]
    have e9 : (⟨#[32]⟩ : ByteArray).size = 1 := rfl
    omega
  clear q1 q2 q4 q5 q6 q7 hdt hci hP hR hM hS hF hG
  have HQ0 := Blk.new w 40 #[.int .u8 2, .int .i64 P, .int .u32 (R : Int), .int .u8 2, .int .i64 (M : Int), .int .i64 S, .int .i64 F, .int .i64 (G : Int)]
  have hb0 := b_alloc w (.cells #[.int .u8 2, .int .i64 P, .int .u32 (R : Int), .int .u8 2, .int .i64 (M : Int), .int .i64 S, .int .i64 F, .int .i64 (G : Int)] 40)
  have hb1 := hb0.alloc hb0.size (.cells #[.string ⟨#[]⟩, .string ⟨#[108, 101, 118, 101, 108]⟩, .string ⟨#[111, 110, 108, 121]⟩] 9)
  have HQ1 := HQ0.alloc (.cells #[.string ⟨#[]⟩, .string ⟨#[108, 101, 118, 101, 108]⟩, .string ⟨#[111, 110, 108, 121]⟩] 9)
  have hb2 := Lib.hid (hb1.alloc hb1.size (.cells #[.string ⟨#[]⟩, .string ⟨#[97, 99, 116, 117, 97, 108]⟩, .string ⟨#[116, 104, 105, 114, 116, 121]⟩] 9))
  have HQ := Lib.hid (HQ1.alloc (.cells #[.string ⟨#[]⟩, .string ⟨#[97, 99, 116, 117, 97, 108]⟩, .string ⟨#[116, 104, 105, 114, 116, 121]⟩] 9))
  obtain ⟨c0, c1, c2, c3, c4, c5, c6, c7⟩ := blk8 HQ0
  clear hb0 hb1 HQ0 HQ1
  go_enter Tryz.func49, Tryz.ntmps49
  go_upto_region 3 with (fail)
  try rw [q0]
  try rw [q3]
  obtain ⟨W3, hW3⟩ : ∃ W, (((w.alloc (.cells #[.int .u8 2, .int .i64 P, .int .u32 (R : Int), .int .u8 2, .int .i64 (M : Int), .int .i64 S, .int .i64 F, .int .i64 (G : Int)] 40)).alloc (.cells #[.string ⟨#[]⟩, .string ⟨#[108, 101, 118, 101, 108]⟩, .string ⟨#[111, 110, 108, 121]⟩] 9)).alloc (.cells #[.string ⟨#[]⟩, .string ⟨#[97, 99, 116, 117, 97, 108]⟩, .string ⟨#[116, 104, 105, 114, 116, 121]⟩] 9)) = W := ⟨_, rfl⟩
  obtain ⟨b, hb⟩ : ∃ b, w.heap.size = b := ⟨_, rfl⟩
  have hg3 := hW3
  try rw [q0] at hg3
  try rw [q3] at hg3
  rw [hW3] at HQ hb2
  rw [hb] at HQ
  rw [hg3]
  rw [hb]
  clear hW3 hg3 hb c0 c1 c2 c3 c4 c5 c6 c7 q0 q3
  have L1 : ∀ W', Below W3.heap.size W3 W' → (Instr.loadAt 2 (.pointer (some ⟨b, 1, none⟩))).run Tryz.prog W' = .ok (.int .i64 P) W' := fun W' hb => by
    have c0 := (blk8 (HQ.out.below hb HQ.out.lt)).2.1
    go_simp
  have L2 : ∀ W', Below W3.heap.size W3 W' → (Instr.loadAt 22 (.pointer (some ⟨b, 2, none⟩))).run Tryz.prog W' = .ok (.int .u32 (R : Int)) W' := fun W' hb => by
    have c0 := (blk8 (HQ.out.below hb HQ.out.lt)).2.2.1
    go_simp
  have L4 : ∀ W', Below W3.heap.size W3 W' → (Instr.loadAt 3 (.pointer (some ⟨b, 4, none⟩))).run Tryz.prog W' = .ok (.int .i64 (M : Int)) W' := fun W' hb => by
    have c0 := (blk8 (HQ.out.below hb HQ.out.lt)).2.2.2.2.1
    go_simp
  have L5 : ∀ W', Below W3.heap.size W3 W' → (Instr.loadAt 3 (.pointer (some ⟨b, 5, none⟩))).run Tryz.prog W' = .ok (.int .i64 S) W' := fun W' hb => by
    have c0 := (blk8 (HQ.out.below hb HQ.out.lt)).2.2.2.2.2.1
    go_simp
  have L6 : ∀ W', Below W3.heap.size W3 W' → (Instr.loadAt 2 (.pointer (some ⟨b, 6, none⟩))).run Tryz.prog W' = .ok (.int .i64 F) W' := fun W' hb => by
    have c0 := (blk8 (HQ.out.below hb HQ.out.lt)).2.2.2.2.2.2.1
    go_simp
  have L7 : ∀ W', Below W3.heap.size W3 W' → (Instr.loadAt 3 (.pointer (some ⟨b, 7, none⟩))).run Tryz.prog W' = .ok (.int .i64 (G : Int)) W' := fun W' hb => by
    have c0 := (blk8 (HQ.out.below hb HQ.out.lt)).2.2.2.2.2.2.2
    go_simp
  refine wp_region_flow [some 15, some 16, some 17, some 18, some 19, some 20, some 21, some 22, some 23, some 24, some 25, some 26, some 27, some 28, some 29, some 30, some 31, some 32, some 33, some 34, some 35, some 36, some 37, some 38, some 39, some 40, some 41, some 42, some 43, some 44, some 45, some 46, some 47, some 48, some 49, some 50, some 51, some 52, some 2] (fun i => ([.is (.string s0), .is (.string y0), .is (.pointer (some ⟨b, 1, none⟩)), .is (.int .i64 P), .is (.string s1), .is (.string y1), .is (.string y2), .is (.pointer (some ⟨b, 2, none⟩)), .is (.int .u32 (R : Int)), .is (.int .u64 (R : Int)), .is (.string s2), .is (.string y3), .is (.string y4), .is (.string s3), .is (.string y5), .is (.string y6), .is (.pointer (some ⟨b, 4, none⟩)), .is (.int .i64 (M : Int)), .is (.int .u64 (M : Int)), .is (.string s4), .is (.string y7), .is (.string y8), .is (.pointer (some ⟨b, 5, none⟩)), .is (.int .i64 S), .is (.agg #[.int .i64 (cY S), .int .i64 (cM S), .int .i64 (cD S)]), .is (.string s5), .is (.string y9), .is (.string y10), .is (.pointer (some ⟨b, 6, none⟩)), .is (.int .i64 F), .is (.string s6), .is (.string y11), .is (.string y12), .is (.pointer (some ⟨b, 7, none⟩)), .is (.int .i64 (G : Int)), .is (.int .u64 (G : Int)), .is (.string s7), .is (.string y13), .is (.string y13)] : List Flw).getD i .any) (by kernel_rfl) (by kernel_rfl) rfl ?_ ?_
  · clear HQ hb2
    refine ⟨step_free rfl (fun aF wF hs hb => ?_), ?_⟩
    · obtain ⟨x0, -⟩ := hs
      have e0 : aF.eval (.tmp 3) = .string s0 := x0
      exact opC_move e0 ⟨rfl, below_same wF⟩
    refine ⟨step_free rfl (fun aF wF hs hb => ?_), ?_⟩
    · obtain ⟨x0, -⟩ := hs
      have e0 : aF.eval (.tmp 15) = .string s0 := x0
      refine opC_value (v := .string y0) ?_ ⟨rfl, below_same wF⟩
      simp [execOp, go_sem, ev_of e0, h0]
      omega
    refine ⟨step_free rfl (fun aF wF hs hb => ?_), ?_⟩
    · obtain ⟨x0, -⟩ := hs
      have e0 : aF.eval (.tmp 1) = .pointer (some ⟨b, 0, none⟩) := x0
      refine opC_value (v := .pointer (some ⟨b, 1, none⟩)) ?_ ⟨rfl, below_same wF⟩
      have t0 := ev_of e0
      simp [execOp, go_sem, t0]
    refine ⟨step_free rfl (fun aF wF hs hb => ?_), ?_⟩
    · obtain ⟨x0, -⟩ := hs
      have e0 : aF.eval (.tmp 17) = .pointer (some ⟨b, 1, none⟩) := x0
      exact opC_load e0 (L1 wF hb) ⟨rfl, below_same wF⟩
    refine ⟨step_free rfl (fun aF wF hs hb => ?_), ?_⟩
    · obtain ⟨x0, -⟩ := hs
      have e0 : aF.eval (.tmp 18) = .int .i64 P := x0
      exact opC_call (args := #[.int .i64 P]) (enters9 Tryz.func52 (by kernel_rfl) rfl) (by simp [e0]) (C1 wF) (fun _ h => ⟨rfl, h⟩)
    refine ⟨step_free rfl (fun aF wF hs hb => ?_), ?_⟩
    · obtain ⟨x0, x1, -⟩ := hs
      have e0 : aF.eval (.tmp 16) = .string y0 := x0
      have e1 : aF.eval (.tmp 19) = .string s1 := x1
      refine opC_value (v := .string y1) ?_ ⟨rfl, below_same wF⟩
      simp [execOp, go_sem, ev_of e0, ev_of e1, h1]
      omega
    refine ⟨step_free rfl (fun aF wF hs hb => ?_), ?_⟩
    · obtain ⟨x0, -⟩ := hs
      have e0 : aF.eval (.tmp 20) = .string y1 := x0
      refine opC_value (v := .string y2) ?_ ⟨rfl, below_same wF⟩
      simp [execOp, go_sem, ev_of e0, h2]
      omega
    refine ⟨step_free rfl (fun aF wF hs hb => ?_), ?_⟩
    · obtain ⟨x0, -⟩ := hs
      have e0 : aF.eval (.tmp 1) = .pointer (some ⟨b, 0, none⟩) := x0
      refine opC_value (v := .pointer (some ⟨b, 2, none⟩)) ?_ ⟨rfl, below_same wF⟩
      have t0 := ev_of e0
      simp [execOp, go_sem, t0]
    refine ⟨step_free rfl (fun aF wF hs hb => ?_), ?_⟩
    · obtain ⟨x0, -⟩ := hs
      have e0 : aF.eval (.tmp 22) = .pointer (some ⟨b, 2, none⟩) := x0
      exact opC_load e0 (L2 wF hb) ⟨rfl, below_same wF⟩
    refine ⟨step_free rfl (fun aF wF hs hb => ?_), ?_⟩
    · obtain ⟨x0, -⟩ := hs
      have e0 : aF.eval (.tmp 23) = .int .u32 (R : Int) := x0
      refine opC_value (v := .int .u64 (R : Int)) ?_ ⟨rfl, below_same wF⟩
      simp [execOp, go_sem, ev_of e0, hw2]
    refine ⟨step_free rfl (fun aF wF hs hb => ?_), ?_⟩
    · obtain ⟨x0, -⟩ := hs
      have e0 : aF.eval (.tmp 24) = .int .u64 (R : Int) := x0
      exact opC_call (args := #[.int .u64 (R : Int)]) (enters9 Tryz.func48 (by kernel_rfl) rfl) (by simp [e0]) (C2 wF) (fun _ h => ⟨rfl, h⟩)
    refine ⟨step_free rfl (fun aF wF hs hb => ?_), ?_⟩
    · obtain ⟨x0, x1, -⟩ := hs
      have e0 : aF.eval (.tmp 21) = .string y2 := x0
      have e1 : aF.eval (.tmp 25) = .string s2 := x1
      refine opC_value (v := .string y3) ?_ ⟨rfl, below_same wF⟩
      simp [execOp, go_sem, ev_of e0, ev_of e1, h3]
      omega
    refine ⟨step_free rfl (fun aF wF hs hb => ?_), ?_⟩
    · obtain ⟨x0, -⟩ := hs
      have e0 : aF.eval (.tmp 26) = .string y3 := x0
      refine opC_value (v := .string y4) ?_ ⟨rfl, below_same wF⟩
      simp [execOp, go_sem, ev_of e0, h4]
      omega
    refine ⟨step_free rfl (fun aF wF hs hb => ?_), ?_⟩
    · obtain ⟨x0, -⟩ := hs
      have e0 : aF.eval (.tmp 4) = .string s3 := x0
      exact opC_move e0 ⟨rfl, below_same wF⟩
    refine ⟨step_free rfl (fun aF wF hs hb => ?_), ?_⟩
    · obtain ⟨x0, x1, -⟩ := hs
      have e0 : aF.eval (.tmp 27) = .string y4 := x0
      have e1 : aF.eval (.tmp 28) = .string s3 := x1
      refine opC_value (v := .string y5) ?_ ⟨rfl, below_same wF⟩
      simp [execOp, go_sem, ev_of e0, ev_of e1, h5]
      omega
    refine ⟨step_free rfl (fun aF wF hs hb => ?_), ?_⟩
    · obtain ⟨x0, -⟩ := hs
      have e0 : aF.eval (.tmp 29) = .string y5 := x0
      refine opC_value (v := .string y6) ?_ ⟨rfl, below_same wF⟩
      simp [execOp, go_sem, ev_of e0, h6]
      omega
    refine ⟨step_free rfl (fun aF wF hs hb => ?_), ?_⟩
    · obtain ⟨x0, -⟩ := hs
      have e0 : aF.eval (.tmp 1) = .pointer (some ⟨b, 0, none⟩) := x0
      refine opC_value (v := .pointer (some ⟨b, 4, none⟩)) ?_ ⟨rfl, below_same wF⟩
      have t0 := ev_of e0
      simp [execOp, go_sem, t0]
    refine ⟨step_free rfl (fun aF wF hs hb => ?_), ?_⟩
    · obtain ⟨x0, -⟩ := hs
      have e0 : aF.eval (.tmp 31) = .pointer (some ⟨b, 4, none⟩) := x0
      exact opC_load e0 (L4 wF hb) ⟨rfl, below_same wF⟩
    refine ⟨step_free rfl (fun aF wF hs hb => ?_), ?_⟩
    · obtain ⟨x0, -⟩ := hs
      have e0 : aF.eval (.tmp 32) = .int .i64 (M : Int) := x0
      refine opC_value (v := .int .u64 (M : Int)) ?_ ⟨rfl, below_same wF⟩
      simp [execOp, go_sem, ev_of e0, hw4]
    refine ⟨step_free rfl (fun aF wF hs hb => ?_), ?_⟩
    · obtain ⟨x0, -⟩ := hs
      have e0 : aF.eval (.tmp 33) = .int .u64 (M : Int) := x0
      exact opC_call (args := #[.int .u64 (M : Int)]) (enters9 Tryz.func48 (by kernel_rfl) rfl) (by simp [e0]) (C4 wF) (fun _ h => ⟨rfl, h⟩)
    refine ⟨step_free rfl (fun aF wF hs hb => ?_), ?_⟩
    · obtain ⟨x0, x1, -⟩ := hs
      have e0 : aF.eval (.tmp 30) = .string y6 := x0
      have e1 : aF.eval (.tmp 34) = .string s4 := x1
      refine opC_value (v := .string y7) ?_ ⟨rfl, below_same wF⟩
      simp [execOp, go_sem, ev_of e0, ev_of e1, h7]
      omega
    refine ⟨step_free rfl (fun aF wF hs hb => ?_), ?_⟩
    · obtain ⟨x0, -⟩ := hs
      have e0 : aF.eval (.tmp 35) = .string y7 := x0
      refine opC_value (v := .string y8) ?_ ⟨rfl, below_same wF⟩
      simp [execOp, go_sem, ev_of e0, h8]
      omega
    refine ⟨step_free rfl (fun aF wF hs hb => ?_), ?_⟩
    · obtain ⟨x0, -⟩ := hs
      have e0 : aF.eval (.tmp 1) = .pointer (some ⟨b, 0, none⟩) := x0
      refine opC_value (v := .pointer (some ⟨b, 5, none⟩)) ?_ ⟨rfl, below_same wF⟩
      have t0 := ev_of e0
      simp [execOp, go_sem, t0]
    refine ⟨step_free rfl (fun aF wF hs hb => ?_), ?_⟩
    · obtain ⟨x0, -⟩ := hs
      have e0 : aF.eval (.tmp 37) = .pointer (some ⟨b, 5, none⟩) := x0
      exact opC_load e0 (L5 wF hb) ⟨rfl, below_same wF⟩
    refine ⟨step_free rfl (fun aF wF hs hb => ?_), ?_⟩
    · obtain ⟨x0, -⟩ := hs
      have e0 : aF.eval (.tmp 38) = .int .i64 S := x0
      exact opC_call (args := #[.int .i64 S]) (enters9 Tryz.func51 (by kernel_rfl) rfl) (by simp [e0]) (C5a wF) (fun _ h => ⟨rfl, h⟩)
    refine ⟨step_free rfl (fun aF wF hs hb => ?_), ?_⟩
    · obtain ⟨x0, -⟩ := hs
      have e0 : aF.eval (.tmp 39) = .agg #[.int .i64 (cY S), .int .i64 (cM S), .int .i64 (cD S)] := x0
      exact opC_call (args := #[.agg #[.int .i64 (cY S), .int .i64 (cM S), .int .i64 (cD S)]]) (enters9 Tryz.func50 (by kernel_rfl) rfl) (by simp [e0]) (C5b wF) (fun _ h => ⟨rfl, h⟩)
    refine ⟨step_free rfl (fun aF wF hs hb => ?_), ?_⟩
    · obtain ⟨x0, x1, -⟩ := hs
      have e0 : aF.eval (.tmp 36) = .string y8 := x0
      have e1 : aF.eval (.tmp 40) = .string s5 := x1
      refine opC_value (v := .string y9) ?_ ⟨rfl, below_same wF⟩
      simp [execOp, go_sem, ev_of e0, ev_of e1, h9]
      omega
    refine ⟨step_free rfl (fun aF wF hs hb => ?_), ?_⟩
    · obtain ⟨x0, -⟩ := hs
      have e0 : aF.eval (.tmp 41) = .string y9 := x0
      refine opC_value (v := .string y10) ?_ ⟨rfl, below_same wF⟩
      simp [execOp, go_sem, ev_of e0, h10]
      omega
    refine ⟨step_free rfl (fun aF wF hs hb => ?_), ?_⟩
    · obtain ⟨x0, -⟩ := hs
      have e0 : aF.eval (.tmp 1) = .pointer (some ⟨b, 0, none⟩) := x0
      refine opC_value (v := .pointer (some ⟨b, 6, none⟩)) ?_ ⟨rfl, below_same wF⟩
      have t0 := ev_of e0
      simp [execOp, go_sem, t0]
    refine ⟨step_free rfl (fun aF wF hs hb => ?_), ?_⟩
    · obtain ⟨x0, -⟩ := hs
      have e0 : aF.eval (.tmp 43) = .pointer (some ⟨b, 6, none⟩) := x0
      exact opC_load e0 (L6 wF hb) ⟨rfl, below_same wF⟩
    refine ⟨step_free rfl (fun aF wF hs hb => ?_), ?_⟩
    · obtain ⟨x0, -⟩ := hs
      have e0 : aF.eval (.tmp 44) = .int .i64 F := x0
      exact opC_call (args := #[.int .i64 F]) (enters9 Tryz.func52 (by kernel_rfl) rfl) (by simp [e0]) (C6 wF) (fun _ h => ⟨rfl, h⟩)
    refine ⟨step_free rfl (fun aF wF hs hb => ?_), ?_⟩
    · obtain ⟨x0, x1, -⟩ := hs
      have e0 : aF.eval (.tmp 42) = .string y10 := x0
      have e1 : aF.eval (.tmp 45) = .string s6 := x1
      refine opC_value (v := .string y11) ?_ ⟨rfl, below_same wF⟩
      simp [execOp, go_sem, ev_of e0, ev_of e1, h11]
      omega
    refine ⟨step_free rfl (fun aF wF hs hb => ?_), ?_⟩
    · obtain ⟨x0, -⟩ := hs
      have e0 : aF.eval (.tmp 46) = .string y11 := x0
      refine opC_value (v := .string y12) ?_ ⟨rfl, below_same wF⟩
      simp [execOp, go_sem, ev_of e0, h12]
      omega
    refine ⟨step_free rfl (fun aF wF hs hb => ?_), ?_⟩
    · obtain ⟨x0, -⟩ := hs
      have e0 : aF.eval (.tmp 1) = .pointer (some ⟨b, 0, none⟩) := x0
      refine opC_value (v := .pointer (some ⟨b, 7, none⟩)) ?_ ⟨rfl, below_same wF⟩
      have t0 := ev_of e0
      simp [execOp, go_sem, t0]
    refine ⟨step_free rfl (fun aF wF hs hb => ?_), ?_⟩
    · obtain ⟨x0, -⟩ := hs
      have e0 : aF.eval (.tmp 48) = .pointer (some ⟨b, 7, none⟩) := x0
      exact opC_load e0 (L7 wF hb) ⟨rfl, below_same wF⟩
    refine ⟨step_free rfl (fun aF wF hs hb => ?_), ?_⟩
    · obtain ⟨x0, -⟩ := hs
      have e0 : aF.eval (.tmp 49) = .int .i64 (G : Int) := x0
      refine opC_value (v := .int .u64 (G : Int)) ?_ ⟨rfl, below_same wF⟩
      simp [execOp, go_sem, ev_of e0, hw7]
    refine ⟨step_free rfl (fun aF wF hs hb => ?_), ?_⟩
    · obtain ⟨x0, -⟩ := hs
      have e0 : aF.eval (.tmp 50) = .int .u64 (G : Int) := x0
      exact opC_call (args := #[.int .u64 (G : Int)]) (enters9 Tryz.func48 (by kernel_rfl) rfl) (by simp [e0]) (C7 wF) (fun _ h => ⟨rfl, h⟩)
    refine ⟨step_free rfl (fun aF wF hs hb => ?_), ?_⟩
    · obtain ⟨x0, x1, -⟩ := hs
      have e0 : aF.eval (.tmp 47) = .string y12 := x0
      have e1 : aF.eval (.tmp 51) = .string s7 := x1
      refine opC_value (v := .string y13) ?_ ⟨rfl, below_same wF⟩
      simp [execOp, go_sem, ev_of e0, ev_of e1, h13]
      omega
    refine ⟨step_free rfl (fun aF wF hs hb => ?_), ?_⟩
    · obtain ⟨x0, -⟩ := hs
      have e0 : aF.eval (.tmp 52) = .string y13 := x0
      exact opC_assign e0 ⟨rfl, below_same wF⟩
    exact trivial
  · intro f w6 hf hb6
    have h99 : f 38 = .string y13 := hf 38 2 rfl
    have HB6 := Lib.hid (hb2.out.trans (hb6.mono hb2.out.size))
    simp only [putF, Act.put, List.setIfInBounds_toArray, List.set_cons_zero, List.set_cons_succ]
    rw [h99]
    clear hf h99 hb6 HQ hb2 L1 L2 L4 L5 L6 L7 C1 C2 C4 C5a C5b C6 C7
    go_wp2_with fail
    go_ret
    exact ⟨rfl, HB6.out⟩
theorem RText_nat {K R B M G : Nat} {P S F : Int} (h : Trm.Right ⟨K, P, R, B, M, S, F, G⟩) (w : World) : Calls Tryz.prog 49 #[.agg #[.int .u8 (K : Int), .int .i64 P, .int .u32 (R : Int), .int .u8 (B : Int), .int .i64 (M : Int), .int .i64 S, .int .i64 F, .int .i64 (G : Int)]] w (Ret (.string (sps [nameB K, textC P, dec R, spanB (B : Int), dec M, dayText S, textC F, dec G])) w) := by
  obtain ⟨hK, ⟨hR, hB⟩, hP, hM, hS, hF, hG⟩ := h
  dsimp only at hK hR hB hP hM hS hF hG
  rcases hK with rfl | rfl <;> rcases hB with rfl | rfl
  · exact RText_11 hR hP (by omega) hS hF (by omega) w
  · exact RText_12 hR hP (by omega) hS hF (by omega) w
  · exact RText_21 hR hP (by omega) hS hF (by omega) w
  · exact RText_22 hR hP (by omega) hS hF (by omega) w
end Go.Proofs.YtjlajnackecfgaaGreatDoor
