/-
The document's rate and payment of terms. Conditions: terms that are Right.
Rows of elements of several cells each: what they read as, what is appended; one among a law's arguments, opened. No condition.
The document's dues of terms. Conditions: terms that are Right, the holidays are there.
-/
import Derived.Test.YtjcnglkjjhnpbaaGreatDoorByF
import Derived.Test.YtjcnglkjjhnpbaaGreatDoorTrmG
import Derived.Test.YtjcnglkjjhnpbaaGreatDoorLvlQ
import Derived.Test.YtjcnglkjjhnpbaaGreatDoorLvlP
import Derived.Lib.QuietBelow
import Derived.BigQuiet
import Derived.Test.YtjcnglkjjhnpbaaGreatDoorTrmC
import Derived.Test.YtjcnglkjjhnpbaaGreatDoorShutA
import Derived.Laws.AppendOwnNone
import Derived.Maps.AppendAt
import Derived.RegionTactic
import Derived.Deep.Slices
namespace Go.Proofs.YtjcnglkjjhnpbaaGreatDoor
open Go.ChangeShapes Go.WideShapes Go.ChangeAt Go.RowKit

theorem q_load {w : World} {g : Nat} {a0 a1 a2 a3 a4 a5 a6 a7 : Value} (h : Blk w g 33 #[a0, a1, a2, a3, a4, a5, a6, a7]) : (Instr.loadAt 33 (.pointer (some ⟨g, 0, none⟩))).run Tryz.prog w = .ok (.agg #[a0, a1, a2, a3, a4, a5, a6, a7]) w := by
  obtain ⟨c0, c1, c2, c3, c4, c5, c6, c7⟩ := blk8 h
  go_simp
set_option maxRecDepth 100000 in
set_option maxHeartbeats 4000000 in
theorem RRate_one {K P R M : Nat} {S F G : Int} (w : World) : Calls Tryz.prog 39 #[.agg #[.int .u8 (K : Int), .int .i64 (P : Int), .int .u32 (R : Int), .int .u8 1, .int .i64 (M : Int), .int .i64 S, .int .i64 F, .int .i64 G]] w (Ret (rr R false) w) := by
  have HK := Blk.new (w.alloc (.cells #[.int .u8 (K : Int), .int .i64 (P : Int), .int .u32 (R : Int), .int .u8 1, .int .i64 (M : Int), .int .i64 S, .int .i64 F, .int .i64 G] 33)) 88 #[.int .u32 (R : Int), .bool false]
  have s0 := HK.cell 0
  have s1 := HK.cell 1
  simp at s0 s1
  clear HK
  unfold rr
  go_enter Tryz.func39, Tryz.ntmps39
  go_wp2_with fail
  exact bodyPost_ret (v := .agg #[.int .u32 (R : Int), .bool false]) (by simp [results, Tryz.results39, go_sem, Result.andThen]) rfl ⟨rfl, (b_alloc w _).alloc (by simp) _⟩
set_option maxRecDepth 100000 in
set_option maxHeartbeats 4000000 in
theorem RRate_two {K P R M : Nat} {S F G : Int} (w : World) : Calls Tryz.prog 39 #[.agg #[.int .u8 (K : Int), .int .i64 (P : Int), .int .u32 (R : Int), .int .u8 2, .int .i64 (M : Int), .int .i64 S, .int .i64 F, .int .i64 G]] w (Ret (rr R true) w) := by
  have HK := Blk.new (w.alloc (.cells #[.int .u8 (K : Int), .int .i64 (P : Int), .int .u32 (R : Int), .int .u8 2, .int .i64 (M : Int), .int .i64 S, .int .i64 F, .int .i64 G] 33)) 88 #[.int .u32 (R : Int), .bool true]
  have s0 := HK.cell 0
  have s1 := HK.cell 1
  simp at s0 s1
  clear HK
  unfold rr
  go_enter Tryz.func39, Tryz.ntmps39
  go_wp2_with fail
  exact bodyPost_ret (v := .agg #[.int .u32 (R : Int), .bool true]) (by simp [results, Tryz.results39, go_sem, Result.andThen]) rfl ⟨rfl, (b_alloc w _).alloc (by simp) _⟩
theorem RRate16 {K P R B M : Nat} {S F G : Int} (hB : B = 1 ∨ B = 2) (w : World) : Calls Tryz.prog 39 #[.agg #[.int .u8 (K : Int), .int .i64 (P : Int), .int .u32 (R : Int), .int .u8 (B : Int), .int .i64 (M : Int), .int .i64 S, .int .i64 F, .int .i64 G]] w (Ret (rr R (decide (B = 2))) w) := by
  rcases hB with rfl | rfl
  · exact RRate_one w
  · exact RRate_two w
theorem high_clr {R M P y : Nat} (hM : 0 < M) (hP : 1 ≤ P) (h : Lst R M P y) : 1 ≤ y ∧ y ≤ P + mi R P := by
  have h1 := h.high hM
  have h2 := h.low hM (by omega)
  have h3 := prt_bd (n := M) (P := P) (by omega) (by omega)
  have h4 : 0 < prt P M := by
    rcases Nat.eq_zero_or_pos (prt P M) with e | e
    · exfalso
      have h5 := h.gt (by omega)
      have h6 : prt P M * M ≥ P := by
        unfold prt
        have := Nat.div_add_mod (P + M - 1) M
        have := Nat.mod_lt (P + M - 1) hM
        rw [Nat.mul_comm]
        omega
      rw [e] at h6
      omega
    · exact e
  omega
set_option maxRecDepth 100000 in
set_option maxHeartbeats 4000000 in
theorem RPay16 {K P R B M y : Nat} {S F G : Int} (h : Trm.Right ⟨K, P, R, B, M, S, F, G⟩) (hy : Lst R M P y) (w : World) : Calls Tryz.prog 40 #[.agg #[.int .u8 (K : Int), .int .i64 (P : Int), .int .u32 (R : Int), .int .u8 (B : Int), .int .i64 (M : Int), .int .i64 S, .int .i64 F, .int .i64 G]] w (Ret (.int .i64 (y : Int)) w) := by
  obtain ⟨hK, ⟨hR, hB⟩, hP, hM, hS, hF, hG⟩ := h
  dsimp only at hK hR hB hP hM hS hF hG
  have cR := fun W => RRate16 (K := K) (P := P) (R := R) (B := B) (M := M) (S := S) (F := F) (G := G) hB W
  obtain ⟨th, hth⟩ : ∃ th, decide (B = 2) = th := ⟨_, rfl⟩
  rw [hth] at cR
  have cM := fun W => RMonth_any (P := P) (p := R) th (by omega) hR W
  have kL := fun (m : Nat) (hm : m ≤ 9000000000000000000) W => RLeft_any (P := P) (p := R) (n := M) (y := m) th (by omega) hR (by omega) hm W
  have hmi := mi_bd (p := R) (Q := P) (by omega) hR
  have hbd := high_clr (by omega) (by omega) hy
  have hX0 : monthN (P * R) = mi R P := rfl
  rw [hX0] at cM
  have hiff : ∀ m : Nat, rlN R m M P = 0 ↔ y ≤ m := fun m => (rlN_iff M P).trans hy.iff
  obtain ⟨X, hX⟩ : ∃ X, mi R P = X := ⟨_, rfl⟩
  rw [hX] at cM hmi hbd
  have i1 : IntKind.i64.wrap ((P : Int) + (X : Int)) = ((P + X : Nat) : Int) := by rw [IntKind.wrap_i64]; omega
  have HQ := Lib.hid (Blk.new w 33 #[.int .u8 (K : Int), .int .i64 (P : Int), .int .u32 (R : Int), .int .u8 (B : Int), .int .i64 (M : Int), .int .i64 S, .int .i64 F, .int .i64 G])
  have HB0 := Lib.hid (b_alloc w (.cells #[.int .u8 (K : Int), .int .i64 (P : Int), .int .u32 (R : Int), .int .u8 (B : Int), .int .i64 (M : Int), .int .i64 S, .int .i64 F, .int .i64 G] 33))
  have HKL := Lib.hid kL
  have HIF := Lib.hid hiff
  have HBD := Lib.hid (And.intro hbd (show P + X ≤ 3000000000000 by omega))
  clear hK hR hB hP hM hS hF hG hth kL hmi hbd hX0 hX hiff hy
  go_enter Tryz.func40, Tryz.ntmps40
  go_upto_region 1 with (fail)
  obtain ⟨w1, hw1⟩ : ∃ W, w.alloc (.cells #[.int .u8 (K : Int), .int .i64 (P : Int), .int .u32 (R : Int), .int .u8 (B : Int), .int .i64 (M : Int), .int .i64 S, .int .i64 F, .int .i64 G] 33) = W := ⟨_, rfl⟩
  obtain ⟨b, hb⟩ : ∃ b, w.heap.size = b := ⟨_, rfl⟩
  rw [hw1] at HQ HB0
  rw [hb] at HQ
  rw [hw1, hb]
  clear hw1 hb
  obtain ⟨u0, u1, u2, u3, u4, u5, u6, u7⟩ := blk8 HQ.out
  have q0 := cell_regrown u0
  have q1 := cell_regrown u1
  have q2 := cell_regrown u2
  have q3 := cell_regrown u3
  have q4 := cell_regrown u4
  have q5 := cell_regrown u5
  have q6 := cell_regrown u6
  have q7 := cell_regrown u7
  clear u0 u1 u2 u3 u4 u5 u6 u7
  have A0 := fun (dd : Nat) (os : Array Obj) => Calls.regrown_of (cR (Go.Sort.grow (redrawn w1 dd) os))
  have A1 := fun (dd : Nat) (os : Array Obj) => Calls.regrown_of (cM (Go.Sort.grow (redrawn w1 dd) os))
  unfold rr at *
  refine wp_region_quiet_below (by kernel_rfl) (by kernel_rfl) ?_
  repeat (go_big_quiet_step (first | (go_at_call 39; exact A0 _ _) | (go_at_call 80; exact A1 _ _)))
  refine wpQuiet_nil ?_
  intro w2 hw2
  have hb2 : Below w1.heap.size w1 w2 := by
    obtain ⟨p, rfl⟩ := hw2
    exact below_regrown _ _ _
  have HB2 := Lib.hid (HB0.out.trans (hb2.mono HB0.out.size))
  have HQ2 := Lib.hid (HQ.out.below hb2 HQ.out.lt)
  clear hw2 hb2 A0 A1 q0 q1 q2 q3 q4 q5 q6 q7 HQ HB0 cM
  go_wp2_with fail
  go_loopw [3, 4] (fun lo hi wr => ∃ (l u : Nat), lo = .int .i64 l ∧ hi = .int .i64 u ∧ 1 ≤ l ∧ l ≤ y ∧ y ≤ u ∧ u ≤ P + X ∧ Hid (Blk wr b 33 #[.int .u8 (K : Int), .int .i64 (P : Int), .int .u32 (R : Int), .int .u8 (B : Int), .int .i64 (M : Int), .int .i64 S, .int .i64 F, .int .i64 G]) ∧ Hid (Below w.heap.size w wr)) (fun lo hi _ => (intOf hi).toNat - (intOf lo).toNat)
  case atStart => exact ⟨1, P + X, rfl, rfl, by omega, HBD.out.1.1, HBD.out.1.2, Nat.le_refl _, HQ2, HB2⟩
  case round =>
    obtain ⟨l, u, rfl, rfl, h1, h2, h3, h4, HQr, HBr⟩ := hrel
    have hbd := HBD.out.2
    by_cases hlt : l < u
    · obtain ⟨m, hm⟩ : ∃ m, (l + u) / 2 = m := ⟨_, rfl⟩
      have hm1 : l ≤ m ∧ m < u := by omega
      have e2 : ((l : Int) + (u : Int)) / 2 = (m : Int) := by omega
      have hmb : (m : Int) ≤ 3000000000000 := by omega
      have cL := HKL.out m (by omega)
      obtain ⟨Z, hZ⟩ : ∃ Z, rlN R m M P = Z := ⟨_, rfl⟩
      have hif := HIF.out m
      rw [hZ] at cL hif
      obtain ⟨q, hqe⟩ : ∃ q, decide (Z = 0) = q := ⟨_, rfl⟩
      have hq2 : ((Z : Int) == 0) = q := by
          rw [← hqe]
          by_cases h : Z = 0
          · subst h; rfl
          · rw [decide_eq_false h, beq_eq_false_iff_ne]; omega
      clear hZ hm
      obtain ⟨wq, rfl⟩ : ∃ W, W = wr := ⟨_, rfl⟩
      have LQ : ∀ W', Below wq.heap.size wq W' → (Instr.loadAt 33 (.pointer (some ⟨b, 0, none⟩))).run Tryz.prog W' = .ok (.agg #[.int .u8 (K : Int), .int .i64 (P : Int), .int .u32 (R : Int), .int .u8 (B : Int), .int .i64 (M : Int), .int .i64 S, .int .i64 F, .int .i64 G]) W' := fun W' hb => q_load (HQr.out.below hb HQr.out.lt)
      have LP : ∀ W', Below wq.heap.size wq W' → (Instr.loadAt 2 (.pointer (some ⟨b, 1, none⟩))).run Tryz.prog W' = .ok (.int .i64 (P : Int)) W' := fun W' hb => by
        have c0 := (blk8 (HQr.out.below hb HQr.out.lt)).2.1
        go_simp
      have LM : ∀ W', Below wq.heap.size wq W' → (Instr.loadAt 3 (.pointer (some ⟨b, 4, none⟩))).run Tryz.prog W' = .ok (.int .i64 (M : Int)) W' := fun W' hb => by
        have c0 := (blk8 (HQr.out.below hb HQr.out.lt)).2.2.2.2.1
        go_simp
      go_upto_region 4 with (fail)
      rw [e2]
      refine wp_region_flow [some 21, some 22, some 23, some 24, some 25, some 26, some 27, some 28, some 29] (fun i => ([.is (.pointer (some ⟨b, 1, none⟩)), .is (.int .i64 (P : Int)), .is (.agg #[.int .u8 (K : Int), .int .i64 (P : Int), .int .u32 (R : Int), .int .u8 (B : Int), .int .i64 (M : Int), .int .i64 S, .int .i64 F, .int .i64 G]), .is (.agg #[.int .u32 (R : Int), .bool th]), .is (.pointer (some ⟨b, 4, none⟩)), .is (.int .i64 (M : Int)), .is (.int .i64 (m : Int)), .is (.int .i64 ((Z : Nat) : Int)), .is (.bool q)] : List Flw).getD i .any) (by kernel_rfl) (by kernel_rfl) rfl ?_ ?_
      · skip
        refine ⟨step_free rfl (fun aF wF hs hb => ?_), ?_⟩
        · obtain ⟨x0, -⟩ := hs
          have e0 : aF.eval (.tmp 1) = .pointer (some ⟨b, 0, none⟩) := x0
          refine opC_value (v := .pointer (some ⟨b, 1, none⟩)) ?_ ⟨rfl, below_same wF⟩
          have t0 := ev_of e0
          simp [execOp, go_sem, t0]
        refine ⟨step_free rfl (fun aF wF hs hb => ?_), ?_⟩
        · obtain ⟨x0, -⟩ := hs
          have e0 : aF.eval (.tmp 21) = .pointer (some ⟨b, 1, none⟩) := x0
          exact opC_load e0 (LP wF hb) ⟨rfl, below_same wF⟩
        refine ⟨step_free rfl (fun aF wF hs hb => ?_), ?_⟩
        · obtain ⟨x0, -⟩ := hs
          have e0 : aF.eval (.tmp 1) = .pointer (some ⟨b, 0, none⟩) := x0
          exact opC_load e0 (LQ wF hb) ⟨rfl, below_same wF⟩
        refine ⟨step_free rfl (fun aF wF hs hb => ?_), ?_⟩
        · obtain ⟨x0, -⟩ := hs
          have e0 : aF.eval (.tmp 23) = .agg #[.int .u8 (K : Int), .int .i64 (P : Int), .int .u32 (R : Int), .int .u8 (B : Int), .int .i64 (M : Int), .int .i64 S, .int .i64 F, .int .i64 G] := x0
          exact opC_call (args := #[.agg #[.int .u8 (K : Int), .int .i64 (P : Int), .int .u32 (R : Int), .int .u8 (B : Int), .int .i64 (M : Int), .int .i64 S, .int .i64 F, .int .i64 G]]) (enters9 Tryz.func39 (by kernel_rfl) rfl) (by simp [e0]) (cR wF) (fun _ h => ⟨rfl, h⟩)
        refine ⟨step_free rfl (fun aF wF hs hb => ?_), ?_⟩
        · obtain ⟨x0, -⟩ := hs
          have e0 : aF.eval (.tmp 1) = .pointer (some ⟨b, 0, none⟩) := x0
          refine opC_value (v := .pointer (some ⟨b, 4, none⟩)) ?_ ⟨rfl, below_same wF⟩
          have t0 := ev_of e0
          simp [execOp, go_sem, t0]
        refine ⟨step_free rfl (fun aF wF hs hb => ?_), ?_⟩
        · obtain ⟨x0, -⟩ := hs
          have e0 : aF.eval (.tmp 25) = .pointer (some ⟨b, 4, none⟩) := x0
          exact opC_load e0 (LM wF hb) ⟨rfl, below_same wF⟩
        refine ⟨step_free rfl (fun aF wF hs hb => ?_), ?_⟩
        · obtain ⟨x0, -⟩ := hs
          have e0 : aF.eval (.tmp 5) = .int .i64 (m : Int) := x0
          exact opC_move e0 ⟨rfl, below_same wF⟩
        refine ⟨step_free rfl (fun aF wF hs hb => ?_), ?_⟩
        · obtain ⟨x0, x1, x2, x3, -⟩ := hs
          have e0 : aF.eval (.tmp 22) = .int .i64 (P : Int) := x0
          have e1 : aF.eval (.tmp 24) = .agg #[.int .u32 (R : Int), .bool th] := x1
          have e2 : aF.eval (.tmp 26) = .int .i64 (M : Int) := x2
          have e3 : aF.eval (.tmp 27) = .int .i64 (m : Int) := x3
          exact opC_call (args := #[.int .i64 (P : Int), .agg #[.int .u32 (R : Int), .bool th], .int .i64 (M : Int), .int .i64 (m : Int)]) (enters9 Tryz.func81 (by kernel_rfl) rfl) (by simp [e0, e1, e2, e3]) (cL wF) (fun _ h => ⟨rfl, h⟩)
        refine ⟨step_free rfl (fun aF wF hs hb => ?_), ?_⟩
        · obtain ⟨x0, -⟩ := hs
          have e0 : aF.eval (.tmp 28) = .int .i64 ((Z : Nat) : Int) := x0
          refine opC_value (v := .bool q) ?_ ⟨rfl, below_same wF⟩
          simp [execOp, go_sem, ev_of e0, hq2]
        exact trivial
      · intro f w6 hf hb6
        have h9 : f 8 = .bool q := hf 8 29 rfl
        have HQ6 := Lib.hid (HQr.out.below hb6 HQr.out.lt)
        have HB6 := Lib.hid (HBr.out.trans (hb6.mono HBr.out.size))
        simp only [putF, Act.put, List.setIfInBounds_toArray, List.set_cons_zero, List.set_cons_succ]
        rw [h9]
        clear hf h9 hb6 LP LQ LM cL e2 HQr HBr
        cases q with
        | true =>
          have hym := hif.1 (of_decide_eq_true hqe)
          clear hqe hq2 hif
          go_wp2_with fail
          go_roundw
          case rel => exact ⟨l, m, rfl, rfl, h1, h2, hym, by omega, HQ6, HB6⟩
          case measure => simp [intOf]; omega
        | false =>
          have hym : m < y := by
            rcases Nat.lt_or_ge m y with h | h
            · exact h
            · exact absurd (hif.2 h) (of_decide_eq_false hqe)
          clear hqe hq2 hif
          go_wp2_with fail
          go_roundw
          case rel => exact ⟨m + 1, u, by first | rfl | go_num, rfl, by omega, by omega, h3, h4, HQ6, HB6⟩
          case measure => simp [intOf]; omega
    · have hly : l = y := by omega
      subst hly
      go_wp2_with fail
      go_ret
      exact ⟨rfl, HBr.out⟩
end Go.Proofs.YtjcnglkjjhnpbaaGreatDoor
namespace Go.Proofs.YtjcnglkjjhnpbaaGreatDoor
open Go.ChangeShapes Go.WideShapes Go.ChangeAt Go.RowKit

/-- How an element lies: its cells, how many. -/
structure Lies (α : Type) where
  cells : α → List Value
  k : Nat
  len : ∀ x, (cells x).length = k
  one : ∀ x, ∀ u ∈ cells x, u.oneCell' = true
section
variable {α : Type} (T : Lies α)
/-- A slice of elements. -/
def Rs (w : World) (B : Nat) (A : Option Addr) (l : List α) : Prop :=
  0 < l.length → ∃ b o, A = some ⟨b, o, none⟩ ∧ b < B ∧ ∀ (j : Nat) v, l[j]? = some v → ∀ (i : Nat) x, (T.cells v)[i]? = some x → w.cell? ⟨b, o + (j * T.k + i), none⟩ = some x
/-- All of their cells, one behind the other. -/
def flatS (l : List α) : List Value := l.flatMap T.cells
variable {T} {w w' : World} {B B' : Nat} {A : Option Addr} {l : List α}
theorem Rs.nil_ : Rs T w B A [] := fun h => absurd h (by simp)
theorem Rs.at_ {k : Nat} (h : Rs T w B A l) (hk : k < l.length) : ∃ b o, A = some ⟨b, o, none⟩ ∧ b < B ∧ ∀ (i : Nat) x, (T.cells (l[k]'hk))[i]? = some x → w.cell? ⟨b, o + (k * T.k + i), none⟩ = some x := by
  obtain ⟨b, o, e, hb, hc⟩ := h (by omega)
  exact ⟨b, o, e, hb, hc k _ (List.getElem?_eq_getElem hk)⟩
theorem Rs.below (h : Rs T w B A l) (hb : Below B w w') : Rs T w' B A l := fun hn => by
  obtain ⟨b, o, e, hlt, hc⟩ := h hn
  exact ⟨b, o, e, hlt, fun j v hv i x hx => (hb.cell (p := ⟨b, _, none⟩) hlt).trans (hc j v hv i x hx)⟩
theorem Rs.more (h : Rs T w B A l) (hB : B ≤ B') : Rs T w B' A l := fun hn => by
  obtain ⟨b, o, e, hlt, hc⟩ := h hn
  exact ⟨b, o, e, by omega, hc⟩
theorem Rs.keep (h : Rs T w B A l) (hk : ∀ p : Addr, p.block < B → w'.cell? p = w.cell? p) : Rs T w' B A l := fun hn => by
  obtain ⟨b, o, e, hlt, hc⟩ := h hn
  exact ⟨b, o, e, hlt, fun j v hv i x hx => (hk ⟨b, _, none⟩ hlt).trans (hc j v hv i x hx)⟩
theorem Rs.take (h : Rs T w B A l) (k : Nat) : Rs T w B A (l.take k) := fun hn => by
  obtain ⟨b, o, e, hb, hc⟩ := h (by rw [List.length_take] at hn; omega)
  refine ⟨b, o, e, hb, fun j u hu => hc j u ?_⟩
  rw [List.getElem?_take] at hu
  split at hu
  · exact hu
  · cases hu
theorem flatS_len (l : List α) : (flatS T l).length = l.length * T.k := by
  induction l with
  | nil => simp [flatS]
  | cons v l ih =>
    simp only [flatS, List.flatMap_cons, List.length_append, T.len, List.length_cons] at ih ⊢
    rw [ih, Nat.add_mul, Nat.one_mul, Nat.add_comm]
theorem flatS_at (l : List α) : ∀ (j : Nat) v, l[j]? = some v → ∀ (i : Nat) x, (T.cells v)[i]? = some x → (flatS T l)[j * T.k + i]? = some x := by
  induction l with
  | nil => intro j v hv; simp at hv
  | cons a l ih =>
    intro j v hv i x hx
    have hi : i < T.k := by
      rcases Nat.lt_or_ge i T.k with h | h
      · exact h
      · rw [List.getElem?_eq_none (by rw [T.len]; exact h)] at hx; cases hx
    cases j with
    | zero =>
      simp only [List.getElem?_cons_zero, Option.some.injEq] at hv
      subst hv
      simp only [flatS, List.flatMap_cons]
      rw [List.getElem?_append_left (by rw [T.len]; omega)]
      simpa using hx
    | succ j =>
      simp only [List.getElem?_cons_succ] at hv
      simp only [flatS, List.flatMap_cons]
      have e : (j + 1) * T.k + i = T.k + (j * T.k + i) := by rw [Nat.add_mul, Nat.one_mul]; omega
      rw [List.getElem?_append_right (by rw [T.len, e]; omega), T.len, e, Nat.add_sub_cancel_left]
      exact ih j v hv i x hx
theorem flatS_cut (hk : 0 < T.k) (l : List α) : ∀ (j : Nat) x, (flatS T l)[j]? = some x → ∃ v, l[j / T.k]? = some v ∧ (T.cells v)[j % T.k]? = some x := by
  intro j x hx
  have hj : j < l.length * T.k := by
    rcases Nat.lt_or_ge j (l.length * T.k) with h | h
    · exact h
    · rw [List.getElem?_eq_none (by rw [flatS_len]; exact h)] at hx; cases hx
  have hq : j / T.k < l.length := Nat.div_lt_of_lt_mul (by rw [Nat.mul_comm]; exact hj)
  have hr : j % T.k < T.k := Nat.mod_lt _ hk
  refine ⟨l[j / T.k], List.getElem?_eq_getElem hq, ?_⟩
  have h2 := flatS_at (T := T) l (j / T.k) _ (List.getElem?_eq_getElem hq) (j % T.k) _ (List.getElem?_eq_getElem (by rw [T.len]; exact hr))
  rw [show j / T.k * T.k + j % T.k = j by rw [Nat.mul_comm]; exact Nat.div_add_mod j T.k, hx] at h2
  rw [List.getElem?_eq_getElem (by rw [T.len]; exact hr)]
  exact h2.symm
theorem flatS_one (l : List α) : ∀ u ∈ flatS T l, u.oneCell' = true := by
  intro u hu
  simp only [flatS, List.mem_flatMap] at hu
  obtain ⟨v, _, hu⟩ := hu
  exact T.one v u hu
theorem flatS_snoc (l : List α) (u : α) : flatS T (l ++ [u]) = flatS T l ++ T.cells u := by simp [flatS]
theorem flatS_append (l m : List α) : flatS T (l ++ m) = flatS T l ++ flatS T m := by simp [flatS]

/-- A row of the call's own. -/
def OwnS (T : Lies α) (e : TypeId) (w : World) (base : Nat) (v : Value) (n : Nat) (l : List α) : Prop := w.ownsRow base e T.k v n (flatS T l)
theorem OwnS.alloc {e : TypeId} {b n : Nat} {v : Value} (h : OwnS T e w b v n l) (o : Obj) : OwnS T e (w.alloc o) b v n l := World.ownsRow.alloc h o
theorem OwnS.length {e : TypeId} {b n : Nat} {v : Value} (hk : 0 < T.k) (h : OwnS T e w b v n l) : l.length = n := by
  have := h.1
  rw [flatS_len] at this
  exact Nat.eq_of_mul_eq_mul_right hk this
theorem OwnS.form {e : TypeId} {b n : Nat} {v : Value} (hk : 0 < T.k) (h : OwnS T e w b v n l) :
    l.length = n ∧ ∃ A c, v = .slice A n c ∧ n ≤ c ∧ c ≤ maxLen ∧ Rs T w w.heap.size A l := by
  have hl := h.length hk
  refine ⟨hl, ?_⟩
  unfold OwnS at h
  rcases h.2 with ⟨rfl, rfl⟩ | ⟨g, cap, cur, rfl, _, hg, hnc, hcm, _⟩
  · exact ⟨_, _, rfl, Nat.le_refl _, by decide, fun hn => by omega⟩
  · refine ⟨_, _, rfl, hnc, hcm, fun _ => ⟨g, 0, rfl, (Array.getElem?_eq_some_iff.1 hg).1, fun j v hv i x hx => ?_⟩⟩
    have := World.ownsRow.cells h (g := g) rfl (j * T.k + i) x (flatS_at l j v hv i x hx)
    simpa [go_sem] using this
theorem OwnS.below {e : TypeId} {b n : Nat} {v : Value} (h : OwnS T e w b v n l) (hb : Below w.heap.size w w') : OwnS T e w' b v n l := by
  unfold OwnS at h ⊢
  refine ⟨h.1, ?_⟩
  rcases h.2 with ⟨h1, h2⟩ | ⟨g, cap, cur, h1, h2, hg, h3⟩
  · exact .inl ⟨h1, h2⟩
  · exact .inr ⟨g, cap, cur, h1, h2, (hb.block g (Array.getElem?_eq_some_iff.1 hg).1).trans hg, h3⟩
theorem OwnS.grown {e : TypeId} {b n : Nat} {v : Value} {row : Option Nat} (h : OwnS T e w b v n l) (hb : w.grownBy w' row) (hr : row ≠ v.ownBlock ∨ row = Option.none) : OwnS T e w' b v n l := by
  unfold OwnS at h ⊢
  refine ⟨h.1, ?_⟩
  rcases h.2 with ⟨h1, h2⟩ | ⟨g, cap, cur, rfl, h2, hg, h3⟩
  · exact .inl ⟨h1, h2⟩
  · refine .inr ⟨g, cap, cur, rfl, h2, (hb.block g (Array.getElem?_eq_some_iff.1 hg).1 ?_).trans hg, h3⟩
    rcases hr with hr | rfl
    · exact fun e => hr e.symm
    · simp
theorem OwnS.apart {β : Type} {U : Lies β} {e1 e2 : TypeId} {b1 b2 n1 n2 : Nat} {v1 v2 : Value} {l2 : List β} (h1 : OwnS T e1 w b1 v1 n1 l) (h2 : OwnS U e2 w b2 v2 n2 l2) (he : e1 ≠ e2) : v1.ownBlock = Option.none ∨ v1.ownBlock ≠ v2.ownBlock := by
  unfold OwnS at h1 h2
  rcases h1.2 with ⟨rfl, _⟩ | ⟨g1, c1, cur1, rfl, _, e1, _⟩
  · exact .inl rfl
  · refine .inr fun e => ?_
    rcases h2.2 with ⟨rfl, _⟩ | ⟨g2, c2, cur2, rfl, _, e2, _⟩
    · simp [Value.ownBlock] at e
    · simp only [Value.ownBlock, Option.some.injEq] at e
      subst e
      rw [e1] at e2
      simp only [Option.some.injEq, Obj.cells.injEq] at e2
      exact he e2.2.1
theorem OwnS.past {β : Type} {U : Lies β} {e1 e2 : TypeId} {b1 b2 n1 n2 : Nat} {v1 v2 : Value} {l2 : List β} (h1 : OwnS T e1 w b1 v1 n1 l) (h2 : OwnS U e2 w b2 v2 n2 l2) (he : e1 ≠ e2) (hg : w.grownBy w' v2.ownBlock) : OwnS T e1 w' b1 v1 n1 l := World.ownsRow.kept h1 hg (h1.apart h2 he)
theorem OwnS.made {e : TypeId} (w : World) {cap : Nat} {cur : Array Value} {b : Nat} (hb : b ≤ w.heap.size) (hm : cap ≤ maxLen) (hs : cur.size = cap * T.k) : OwnS T e (w.alloc (.cells cur e)) b (.slice (some ⟨w.heap.size, 0, none⟩) 0 cap) 0 [] := World.ownsRow_made w cur cap hb hm hs
theorem OwnS.nil_ (w : World) (b : Nat) (e : TypeId) : OwnS T e w b (.slice none 0 0) 0 [] := World.ownsRow_nil w b e T.k
theorem OwnS.lt {e : TypeId} {b n : Nat} {v : Value} (h : OwnS T e w b v n l) : ∀ k, v.ownBlock = some k → b ≤ k ∧ k < w.heap.size := World.ownsRow.lt h
/-- What a type is of which a row is made. -/
structure RowOf (T : Lies α) (P : Program) (t e : TypeId) (bytes : Nat) : Prop where
  und : P.underlying t = some (.slice e)
  info : ∃ i z, P.info? e = some i ∧ i.zero = some z ∧ i.size = T.k ∧ i.bytes = bytes ∧ z.cells.size = T.k
  pos : 0 < T.k
theorem RowOf.of {P : Program} {t e : TypeId} {bytes : Nat} {z : Value} (hu : P.underlying t = some (.slice e)) (hi : (P.info? e).map (fun i => (i.zero, i.size, i.bytes)) = some (some z, T.k, bytes)) (hz : z.cells.size = T.k) (hp : 0 < T.k) : RowOf T P t e bytes := by
  obtain ⟨i0, hi0, hz0, hz1, hz2⟩ := info_parts hi
  exact ⟨hu, ⟨i0, z, hi0, hz0, hz1, hz2, hz⟩, hp⟩
variable {P : Program} {t e : TypeId} {bytes : Nat}
theorem append_voidS (hT : RowOf T P t e bytes) (w : World) (base : Nat) (ty : TypeId) (v : Value) (n : Nat) (l : List α) (hown : OwnS T e w base v n l) (A : Option Addr) (c : Nat) :
    (Builtin.append_ #[t, t] ty #[v, .slice A 0 c]).run P w = .ok v w := by
  obtain ⟨i0, z, hi, hz0, hz1, hz2, hz3⟩ := hT.info
  unfold OwnS at hown
  cases A <;> rcases hown.2 with ⟨rfl, rfl⟩ | ⟨g, cap, cur, rfl, _, _, hnc, _⟩ <;>
    simp [Builtin.append_, run_underlying hT.und, sizeOf, typeInfo, Builtin.lenOf, Builtin.firstCells, storeCells, loadCells, loadCellsFrom, *]
theorem run_appendS (hT : RowOf T P t e bytes) (w : World) (base : Nat) (ty : TypeId) (v : Value) (n : Nat) (l : List α) (hown : OwnS T e w base v n l) (B : Nat) (A : Option Addr) (m c : Nat) (news : List α)
    (hR : Rs T w B A news) (hm : news.length = m) (h63 : n + m ≤ maxLen) (hby : (n + m) * bytes ≤ 140737488355328) (hbase : base ≤ w.heap.size) :
    ∃ v' w', (Builtin.append_ #[t, t] ty #[v, .slice A m c]).run P w = .ok v' w' ∧ OwnS T e w' base v' (n + m) (l ++ news) ∧ w.grownBy w' v.ownBlock ∧ (v'.ownBlock = v.ownBlock ∨ v'.ownBlock = some w.heap.size) ∧ (v' = .slice none 0 0 → v = .slice none 0 0) := by
  rcases Nat.eq_zero_or_pos m with h0 | h0
  · subst h0
    obtain rfl : news = [] := List.eq_nil_of_length_eq_zero hm
    exact ⟨v, w, append_voidS hT w base ty v n _ hown A c, by simpa using hown, grown_refl _ _, .inl rfl, id⟩
  · obtain ⟨b, o, rfl, _, hc⟩ := hR (by omega)
    obtain ⟨i0, z, hi, hz0, hz1, hz2, hz3⟩ := hT.info
    obtain ⟨v', w', hr, h2, h3, h4, h5⟩ := run_append_own_at (P := P) w base t ty e i0 z T.k bytes hT.und hi hz0 hz1 hz2 hz3 hT.pos v n (flatS T l) hown
      ⟨b, o, none⟩ m c (flatS T news) (by rw [flatS_len, hm]) (fun j u hu => by
        obtain ⟨x, hx, hx2⟩ := flatS_cut hT.pos news j u hu
        have := hc _ _ hx _ _ hx2
        rw [show j / T.k * T.k + j % T.k = j by rw [Nat.mul_comm]; exact Nat.div_add_mod j T.k] at this
        rwa [add_plain]) (flatS_one news) h63 hby hbase
    exact ⟨v', w', hr, by unfold OwnS; rw [flatS_append]; exact h2, h3, h5, fun he => (h4.1 he).1⟩
theorem wp_appendS {o : Oper} {a : Act} {K : Act → World → Prop} {Q : Exit → Act → World → Prop} (hT : RowOf T P t e bytes) (s x : Operand)
    (ho : o.op = .call { callee := .builtin .append, args := #[s, x], argTypes := #[t, t] })
    (base : Nat) (v : Value) (n : Nat) (l : List α) (hs : a.eval s = v) (hown : OwnS T e w base v n l)
    (B : Nat) (A : Option Addr) (m c : Nat) (news : List α) (hx : a.eval x = .slice A m c) (hR : Rs T w B A news) (hm : news.length = m) (h63 : n + m ≤ maxLen) (hby : (n + m) * bytes ≤ 140737488355328) (hbase : base ≤ w.heap.size)
    (h : ∀ v' w', OwnS T e w' base v' (n + m) (l ++ news) → w.grownBy w' v.ownBlock → (v'.ownBlock = v.ownBlock ∨ v'.ownBlock = some w.heap.size) → (v' = .slice none 0 0 → v = .slice none 0 0) → K (a.put o.dst v') w') : o.wp P a w K Q := by
  obtain ⟨v', w', hr, h2, h3, h4, h5⟩ := run_appendS hT w base o.type v n l hown B A m c news hR hm h63 hby hbase
  unfold Oper.wp execOp
  simp only [ho, resolve, invoke, builtin, Sem.run_bind, Sem.run_pure, Result.andThen_ok, List.map_toArray, List.map_cons, List.map_nil, hs, hx, hr]
  exact h v' w' h2 h3 h4 h5
theorem wpList_appendS {ops : Array Oper} {rest : List Oper} {o : Oper} {a : Act} {Q : Exit → Act → World → Prop} (hgd : o.guard = Option.none) (hT : RowOf T P t e bytes) (s x : Operand)
    (ho : o.op = .call { callee := .builtin .append, args := #[s, x], argTypes := #[t, t] })
    (base : Nat) (v : Value) (n : Nat) (l : List α) (hs : a.eval s = v) (hown : OwnS T e w base v n l)
    (B : Nat) (A : Option Addr) (m c : Nat) (news : List α) (hx : a.eval x = .slice A m c) (hR : Rs T w B A news) (hm : news.length = m) (h63 : n + m ≤ maxLen) (hby : (n + m) * bytes ≤ 140737488355328) (hbase : base ≤ w.heap.size)
    (h : ∀ v' w', OwnS T e w' base v' (n + m) (l ++ news) → w.grownBy w' v.ownBlock → (v'.ownBlock = v.ownBlock ∨ v'.ownBlock = some w.heap.size) → (v' = .slice none 0 0 → v = .slice none 0 0) → wpList P ops Q rest (a.put o.dst v') w') : wpList P ops Q (o :: rest) a w :=
  wpList_plain hgd fun _ hK => wp_appendS hT s x ho base v n l hs hown B A m c news hx hR hm h63 hby hbase fun v' w' h2 h3 h4 h5 => hK _ _ (h v' w' h2 h3 h4 h5)
theorem step_appendS {ops : Array Oper} {o : Oper} {a : Act} {K : Act → World → Prop} {Q : Exit → Act → World → Prop} {E : Prop} (hgd : o.guard = Option.none) (hT : RowOf T P t e bytes) (s x : Operand)
    (ho : o.op = .call { callee := .builtin .append, args := #[s, x], argTypes := #[t, t] })
    (base : Nat) (v : Value) (n : Nat) (l : List α) (hs : a.eval s = v) (hown : OwnS T e w base v n l)
    (B : Nat) (A : Option Addr) (m c : Nat) (news : List α) (hx : a.eval x = .slice A m c) (hR : Rs T w B A news) (hm : news.length = m) (h63 : n + m ≤ maxLen) (hby : (n + m) * bytes ≤ 140737488355328) (hbase : base ≤ w.heap.size)
    (h : ∀ v' w', OwnS T e w' base v' (n + m) (l ++ news) → w.grownBy w' v.ownBlock → (v'.ownBlock = v.ownBlock ∨ v'.ownBlock = some w.heap.size) → (v' = .slice none 0 0 → v = .slice none 0 0) → K (a.put o.dst v') w') :
    if Region.wanted o (yielded ops a.tmps) = true then Oper.wp P o a w K Q else E := by
  rw [if_pos (show Region.wanted o (yielded ops a.tmps) = true by simp [Region.wanted, hgd])]
  exact wp_appendS hT s x ho base v n l hs hown B A m c news hx hR hm h63 hby hbase h
/-- One element in a block of its own reads as itself. -/
theorem Rs.block {b : Nat} {ty : TypeId} {u : α} (h : Blk w b ty (T.cells u).toArray) : Rs T w w.heap.size (some ⟨b, 0, none⟩) [u] := fun _ =>
  ⟨b, 0, rfl, h.lt, fun j v hv i x hx => by
    rcases j with _ | j
    · simp only [List.getElem?_cons_zero, Option.some.injEq] at hv
      subst hv
      rw [h.cell]
      simpa using hx
    · simp at hv⟩
section
variable {H : Type} {enc : TypeId × Value → H} {W : World}
/-- A slice of such elements among a law's arguments, opened; its reach too. -/
theorem open_S {In : α → Prop} (hu : P.underlying t = some (.slice e)) (hk : P.cellsOf e = T.k) (hkp : 0 < T.k)
    (hone : ∀ {base : Nat} {spare : Nat → Bool} {held : Bool} {n : Nat} {cs : List Value} {x : DataW H × List MemPlace}, DataW.trod enc P W base spare held n e cs = some x → ∃ v : α, In v ∧ cs = T.cells v)
    {b0 : Nat} {v : Value} {d : DataW H} {p : List MemPlace} (hval : Value.okWide P W .any b0 t v) (h : DataW.Trod enc P W 0 (fun _ => true) true t v d p) (hlt : ∀ x ∈ p, x.block < W.heap.size) :
    ∃ (A : Option Addr) (n c : Nat) (l : List α), v = .slice A n c ∧ l.length = n ∧ n ≤ c ∧ c ≤ maxLen ∧ Rs T W W.heap.size A l ∧ (∀ u ∈ l, In u) := by
  obtain ⟨a0, len, cap, rfl⟩ := okWide_slice hu hval
  obtain ⟨fuel, hf⟩ := h
  rcases Go.Deep.open_slice hu hf with ⟨hcs, hx⟩ | ⟨a, len', cap', m, n, D, Pl, hcs, _, hl, hm, hmm, hx, hi⟩
  · simp [Value.cells] at hcs
    obtain ⟨rfl, rfl, rfl⟩ := hcs
    exact ⟨Option.none, 0, 0, [], rfl, rfl, Nat.le_refl _, Nat.zero_le _, (fun hn => absurd hn (by simp)), (fun u hu => nomatch hu)⟩
  · simp [Value.cells] at hcs
    obtain ⟨rfl, rfl, rfl⟩ := hcs
    simp only [if_true] at hmm
    subst hmm
    simp only [Prod.mk.injEq] at hx
    obtain ⟨_, rfl⟩ := hx
    rw [hk] at hi hlt
    have hv : ∀ i, i < m → ∃ v : α, In v ∧ ∀ (j : Nat) x, (T.cells v)[j]? = some x → W.cell? (a.add (i * T.k + j)) = some x := by
      intro i him
      obtain ⟨cs', hc, ht⟩ := hi i him
      obtain ⟨v, hin, rfl⟩ := hone ht
      obtain ⟨_, hcl, hat⟩ := World.cells?_some hc
      refine ⟨v, hin, fun j x hx => ?_⟩
      have hj : j < T.k := by
        rcases Nat.lt_or_ge j T.k with h | h
        · exact h
        · rw [List.getElem?_eq_none (by rw [T.len]; exact h)] at hx; cases hx
      rw [← Go.Deep.add_add, hat j hj, hx]
    have hl2 : ∀ k, k ≤ len → ∃ l : List α, l.length = k ∧ (∀ u ∈ l, In u) ∧ ∀ (j : Nat) v, l[j]? = some v → ∀ (i : Nat) x, (T.cells v)[i]? = some x → W.cell? (a.add (j * T.k + i)) = some x := by
      intro k
      induction k with
      | zero => exact fun _ => ⟨[], rfl, (fun u hu => nomatch hu), (fun j v hv => by simp at hv)⟩
      | succ k ih =>
        intro hk
        obtain ⟨l, h1, h2, h3⟩ := ih (by omega)
        obtain ⟨v, g1, g2⟩ := hv k (by omega)
        refine ⟨l ++ [v], by simp [h1], fun u hu => ?_, fun j u hu => ?_⟩
        · rcases List.mem_append.1 hu with hu | hu
          · exact h2 u hu
          · rw [List.mem_singleton.1 hu]; exact g1
        · rcases Nat.lt_or_ge j k with hj | hj
          · rw [List.getElem?_append_left (by omega)] at hu
            exact h3 j u hu
          · rw [List.getElem?_append_right (by omega), h1] at hu
            have hj2 : j = k := by
              rcases Nat.lt_or_ge k j with h | h
              · rw [List.getElem?_eq_none (by simp; omega)] at hu; cases hu
              · omega
            subst hj2
            simp only [Nat.sub_self, List.getElem?_cons_zero, Option.some.injEq] at hu
            subst hu
            exact g2
    obtain ⟨l, h1, h2, h3⟩ := hl2 len (Nat.le_refl _)
    refine ⟨some a, len, m, l, rfl, h1, hl, hm, fun hn => ?_, h2⟩
    obtain ⟨b, off, spot⟩ := a
    have hne : 0 < (T.cells (l[0]'hn)).length := by rw [T.len]; exact hkp
    have h0 := h3 0 _ (List.getElem?_eq_getElem hn) 0 _ (List.getElem?_eq_getElem hne)
    have hspot : spot = Option.none := by simpa [Addr.add] using World.cell?_spot h0
    subst hspot
    have hmk : 0 < m * T.k := Nat.mul_pos (by omega) hkp
    refine ⟨b, off, rfl, hlt (.cell b off) (List.mem_append_left _ (MemPlace.mem_row.2 ⟨0, hmk, by simp⟩)), fun j v hv i x hx => ?_⟩
    have := h3 j v hv i x hx
    rwa [add_plain] at this
end
end
end Go.Proofs.YtjcnglkjjhnpbaaGreatDoor
namespace Go.Proofs.YtjcnglkjjhnpbaaGreatDoor
open Go.ChangeShapes Go.WideShapes Go.ChangeAt Go.RowKit

def refT : Lies (Int × Int) := ⟨fun d => [.int .i64 d.1, .int .i64 d.2], 2, fun _ => rfl, fun d u hu => by
  simp only [List.mem_cons, List.not_mem_nil, or_false] at hu
  rcases hu with rfl | rfl <;> rfl⟩
theorem rowRef : RowOf refT Tryz.prog 47 52 16 := RowOf.of (z := .agg #[.int .i64 0, .int .i64 0]) Tryz.underlying47 (by kernel_rfl) rfl (by decide)
theorem Rws3.belowF {w w' : World} {A : Option Addr} {n : Nat} {F : Nat → Int × Int × Int} (h : Rws3 w A n F) (hb : Below w.heap.size w w') : Rws3 w' A n F := by
  obtain ⟨b, e, hlt, hc⟩ := h
  exact ⟨b, e, Nat.lt_of_lt_of_le hlt hb.size, fun k hk => ⟨(hb.cell (p := ⟨b, k * 3, none⟩) hlt).trans (hc k hk).1, (hb.cell (p := ⟨b, k * 3 + 1, none⟩) hlt).trans (hc k hk).2.1, (hb.cell (p := ⟨b, k * 3 + 2, none⟩) hlt).trans (hc k hk).2.2⟩⟩
def rws3F (n : Nat) (FF : Nat → Int × Int × Int) : Flw := ⟨fun v w => ∃ g c, v = .slice (some ⟨g, 0, none⟩) n c ∧ Rws3 w (some ⟨g, 0, none⟩) n FF, fun ⟨g, c, h1, h2⟩ hb => ⟨g, c, h1, h2.belowF hb⟩⟩
theorem Rws3.grown {w w' : World} {A : Option Addr} {n : Nat} {F : Nat → Int × Int × Int} (h : Rws3 w A n F) {row : Option Nat} (hg : w.grownBy w' row) (hr : ∀ a, A = some a → row ≠ some a.block) : Rws3 w' A n F := by
  obtain ⟨b, e, hlt, hc⟩ := h
  have hk : ∀ o, w'.cell? ⟨b, o, none⟩ = w.cell? ⟨b, o, none⟩ := fun o => World.cell?_of_block (hg.block b hlt (fun e2 => hr _ e (by rw [e2])))
  exact ⟨b, e, Nat.lt_of_lt_of_le hlt hg.size, fun k hkn => ⟨(hk _).trans (hc k hkn).1, (hk _).trans (hc k hkn).2.1, (hk _).trans (hc k hkn).2.2⟩⟩
/-- The dues as the document has them. -/
def duesL (D Sm : Nat → Int) (k : Nat) : List (Int × Int) := (List.range k).map fun j => (D j, Sm j)
theorem duesL_len (D Sm : Nat → Int) (k : Nat) : (duesL D Sm k).length = k := by simp [duesL]
theorem duesL_next (D Sm : Nat → Int) (k : Nat) : duesL D Sm k ++ [(D k, Sm k)] = duesL D Sm (k + 1) := by
  unfold duesL
  rw [List.range_succ, List.map_append]
  rfl
def RDPost (M : Nat) (D Sm : Nat → Int) (w : World) (e : Ending) (w' : World) : Prop :=
  ∃ A c, e = .returned (.slice A M c) ∧ Rs refT w' w'.heap.size A (duesL D Sm M) ∧ Below w.heap.size w w'
theorem effN_t (m y : Nat) : effN true m y = m := rfl
theorem effN_f (m y : Nat) : effN false m y = y := rfl
theorem eff_of {K R M P y z : Nat} (hK : K = 1 ∨ K = 2) (hy : LstK K R M P y) (hz : Lst R M P z) : effN (decide (K = 2)) (mi R P) z = y := by
  obtain ⟨m, hm⟩ : ∃ m, mi R P = m := ⟨_, rfl⟩
  unfold LstK at hy
  rw [hm] at hy ⊢
  clear hm
  rcases hK with e | e
  · rw [decide_eq_false (by omega), effN_f]
    exact Nat.le_antisymm (hz.2 y (hy.1 e).1) ((hy.1 e).2 z hz.1)
  · rw [decide_eq_true e, effN_t]
    exact (hy.2 e).symm
set_option maxRecDepth 100000 in
set_option maxHeartbeats 4000000 in
theorem RDues16 {K P R B M y : Nat} {S F G : Int} (h : Trm.Right ⟨K, P, R, B, M, S, F, G⟩) (hy : LstK K R M P y) (A : Option Addr) (n c : Nat) (l : List Int) (w : World)
    (hR : Rv w w.heap.size A (l.map encN)) (hn : l.length = n) (hm : n ≤ 200) :
    Calls Tryz.prog 14 #[.agg #[.int .u8 (K : Int), .int .i64 (P : Int), .int .u32 (R : Int), .int .u8 (B : Int), .int .i64 (M : Int), .int .i64 S, .int .i64 F, .int .i64 G], .slice A n c] w (RDPost M (dueD l S) (fun k => paysTo (rowF R y P M) (k + 1)) w) := by
  obtain ⟨z, hz⟩ := lst_any (p := R) (n := M) (P := P) (by have := h.M; dsimp only at this; omega)
  have cY := fun W => RPay16 h hz W
  obtain ⟨hK, ⟨hR1, hB⟩, hP, hM, hS, hF, hG⟩ := h
  dsimp only at hK hR1 hB hP hM hS hF hG
  have heff := eff_of hK hy hz
  have hmi := mi_bd (p := R) (Q := P) (by omega) hR1
  have hzb := high_clr (by omega) (by omega) hz
  have hzg := hz.gt (by omega)
  have hyy : mi R P ≤ y := by
    rcases hK with e | e
    · rw [← heff, e]; exact Nat.le_of_lt hzg
    · rw [hy.2 e]; exact Nat.le_refl _
  have cR := fun W => RRate16 (K := K) (P := P) (R := R) (B := B) (M := M) (S := S) (F := F) (G := G) hB W
  obtain ⟨th, hth⟩ : ∃ th, decide (B = 2) = th := ⟨_, rfl⟩
  obtain ⟨on, hone⟩ : ∃ on, decide (K = 2) = on := ⟨_, rfl⟩
  rw [hth] at cR
  have cW0 := fun W => RRows_any (P := P) (p := R) (n := M) (y := z) th on (by omega) hR1 (by omega) (by omega) (by omega) (by omega) W
  rw [← hone, heff, hone] at cW0
  have hb1 := row_bd (n := M) hyy (by omega : P ≤ 1000000000000) hR1
  obtain ⟨FF, hFF⟩ : ∃ FF, rowF R y P M = FF := ⟨_, rfl⟩
  rw [hFF] at cW0 hb1 ⊢
  have cW : ∀ W, Calls Tryz.prog 38 #[.bool on, .int .i64 (P : Int), rr R th, .int .i64 (M : Int), .int .i64 (z : Int)] W (ToF (rws3F M FF) W) := fun W => (cW0 W).mono fun e w' ⟨g, c, e1, _, _, hb, hr⟩ => ⟨_, e1, ⟨g, c, rfl, hr⟩, hb⟩
  have hb2 := pays_bd (n := M) (fun k _ => hb1 k)
  have hon : ((K : Int) == 2) = on := by
    rw [← hone]
    by_cases h2 : K = 2
    · subst h2; rfl
    · rw [decide_eq_false h2, beq_eq_false_iff_ne]; omega
  have hD : ∀ k, k < M → nextD l (plainD S ((k : Int) + 1)) = some (dueD l S k) ∧ 0 ≤ plainD S ((k : Int) + 1) ∧ plainD S ((k : Int) + 1) ≤ 3652058 ∧ pT S ((k : Int) + 1) < 119988 := fun k hk => by
    have h1 := plain_top hS.1 hS.2 (k := (k : Int) + 1) (by omega) (by omega)
    exact ⟨dueD_is hS.1 hS.2 (by omega) (by omega), h1.1, by omega, pT_bd hS.1 hS.2 (by omega)⟩
  obtain ⟨D, hDD⟩ : ∃ D, dueD l S = D := ⟨_, rfl⟩
  rw [hDD] at hD ⊢
  unfold rr at *
  have HQ := Lib.hid (Blk.new w 33 #[.int .u8 (K : Int), .int .i64 (P : Int), .int .u32 (R : Int), .int .u8 (B : Int), .int .i64 (M : Int), .int .i64 S, .int .i64 F, .int .i64 G])
  have HB0 := Lib.hid (b_alloc w (.cells #[.int .u8 (K : Int), .int .i64 (P : Int), .int .u32 (R : Int), .int .u8 (B : Int), .int .i64 (M : Int), .int .i64 S, .int .i64 F, .int .i64 G] 33))
  have HR := Lib.hid hR
  have HN := Lib.hid (And.intro hn hm)
  have HBD := Lib.hid (And.intro hb1 hb2)
  have HD := Lib.hid hD
  have HS := Lib.hid (And.intro hS hM)
  clear hK hR1 hB hP hM hS hF hG hth hone cW0 hb1 hb2 hD hDD hFF heff hmi hzb hzg hyy hy hz hR hn hm
  go_enter Tryz.func14, Tryz.ntmps14
  go_upto_region 3 with (fail)
  obtain ⟨w1, hw1⟩ : ∃ W, w.alloc (.cells #[.int .u8 (K : Int), .int .i64 (P : Int), .int .u32 (R : Int), .int .u8 (B : Int), .int .i64 (M : Int), .int .i64 S, .int .i64 F, .int .i64 G] 33) = W := ⟨_, rfl⟩
  obtain ⟨b, hb⟩ : ∃ b, w.heap.size = b := ⟨_, rfl⟩
  rw [hw1] at HQ HB0
  rw [hb] at HQ
  rw [hw1, hb]
  have HBE := Lib.hid hb
  clear hw1 hb
  have LQ : ∀ W', Below w1.heap.size w1 W' → (Instr.loadAt 33 (.pointer (some ⟨b, 0, none⟩))).run Tryz.prog W' = .ok (.agg #[.int .u8 (K : Int), .int .i64 (P : Int), .int .u32 (R : Int), .int .u8 (B : Int), .int .i64 (M : Int), .int .i64 S, .int .i64 F, .int .i64 G]) W' := fun W' hb => q_load (HQ.out.below hb HQ.out.lt)
  have LK : ∀ W', Below w1.heap.size w1 W' → (Instr.loadAt 5 (.pointer (some ⟨b, 0, none⟩))).run Tryz.prog W' = .ok (.int .u8 (K : Int)) W' := fun W' hb => by
    have c0 := (blk8 (HQ.out.below hb HQ.out.lt)).1
    go_simp
  have LP : ∀ W', Below w1.heap.size w1 W' → (Instr.loadAt 2 (.pointer (some ⟨b, 1, none⟩))).run Tryz.prog W' = .ok (.int .i64 (P : Int)) W' := fun W' hb => by
    have c0 := (blk8 (HQ.out.below hb HQ.out.lt)).2.1
    go_simp
  have LM : ∀ W', Below w1.heap.size w1 W' → (Instr.loadAt 3 (.pointer (some ⟨b, 4, none⟩))).run Tryz.prog W' = .ok (.int .i64 (M : Int)) W' := fun W' hb => by
    have c0 := (blk8 (HQ.out.below hb HQ.out.lt)).2.2.2.2.1
    go_simp
  refine wp_region_flow [some 11, some 12, some 13, some 14, some 15, some 16, some 17, some 18, some 19, some 20, some 21, some 22, some 23, some 24] (fun i => ([.is (.pointer (some ⟨b, 0, none⟩)), .is (.int .u8 (K : Int)), .is (.bool on), .is (.pointer (some ⟨b, 1, none⟩)), .is (.int .i64 (P : Int)), .is (.agg #[.int .u8 (K : Int), .int .i64 (P : Int), .int .u32 (R : Int), .int .u8 (B : Int), .int .i64 (M : Int), .int .i64 S, .int .i64 F, .int .i64 G]), .is (.agg #[.int .u32 (R : Int), .bool th]), .is (.pointer (some ⟨b, 4, none⟩)), .is (.int .i64 (M : Int)), .is (.agg #[.int .u8 (K : Int), .int .i64 (P : Int), .int .u32 (R : Int), .int .u8 (B : Int), .int .i64 (M : Int), .int .i64 S, .int .i64 F, .int .i64 G]), .is (.int .i64 (z : Int)), (rws3F M FF), .is (.int .i64 (M : Int)), .is (.int .i64 0)] : List Flw).getD i .any) (by kernel_rfl) (by kernel_rfl) rfl ?_ ?_
  · skip
    refine ⟨step_free rfl (fun aF wF hs hb => ?_), ?_⟩
    · obtain ⟨x0, -⟩ := hs
      have e0 : aF.eval (.tmp 2) = .pointer (some ⟨b, 0, none⟩) := x0
      refine opC_value (v := .pointer (some ⟨b, 0, none⟩)) ?_ ⟨rfl, below_same wF⟩
      have t0 := ev_of e0
      simp [execOp, go_sem, t0]
    refine ⟨step_free rfl (fun aF wF hs hb => ?_), ?_⟩
    · obtain ⟨x0, -⟩ := hs
      have e0 : aF.eval (.tmp 11) = .pointer (some ⟨b, 0, none⟩) := x0
      exact opC_load e0 (LK wF hb) ⟨rfl, below_same wF⟩
    refine ⟨step_free rfl (fun aF wF hs hb => ?_), ?_⟩
    · obtain ⟨x0, -⟩ := hs
      have e0 : aF.eval (.tmp 12) = .int .u8 (K : Int) := x0
      refine opC_value (v := .bool on) ?_ ⟨rfl, below_same wF⟩
      simp [execOp, go_sem, ev_of e0, hon]
    refine ⟨step_free rfl (fun aF wF hs hb => ?_), ?_⟩
    · obtain ⟨x0, -⟩ := hs
      have e0 : aF.eval (.tmp 2) = .pointer (some ⟨b, 0, none⟩) := x0
      refine opC_value (v := .pointer (some ⟨b, 1, none⟩)) ?_ ⟨rfl, below_same wF⟩
      have t0 := ev_of e0
      simp [execOp, go_sem, t0]
    refine ⟨step_free rfl (fun aF wF hs hb => ?_), ?_⟩
    · obtain ⟨x0, -⟩ := hs
      have e0 : aF.eval (.tmp 14) = .pointer (some ⟨b, 1, none⟩) := x0
      exact opC_load e0 (LP wF hb) ⟨rfl, below_same wF⟩
    refine ⟨step_free rfl (fun aF wF hs hb => ?_), ?_⟩
    · obtain ⟨x0, -⟩ := hs
      have e0 : aF.eval (.tmp 2) = .pointer (some ⟨b, 0, none⟩) := x0
      exact opC_load e0 (LQ wF hb) ⟨rfl, below_same wF⟩
    refine ⟨step_free rfl (fun aF wF hs hb => ?_), ?_⟩
    · obtain ⟨x0, -⟩ := hs
      have e0 : aF.eval (.tmp 16) = .agg #[.int .u8 (K : Int), .int .i64 (P : Int), .int .u32 (R : Int), .int .u8 (B : Int), .int .i64 (M : Int), .int .i64 S, .int .i64 F, .int .i64 G] := x0
      exact opC_call (args := #[.agg #[.int .u8 (K : Int), .int .i64 (P : Int), .int .u32 (R : Int), .int .u8 (B : Int), .int .i64 (M : Int), .int .i64 S, .int .i64 F, .int .i64 G]]) (enters9 Tryz.func39 (by kernel_rfl) rfl) (by simp [e0]) (cR wF) (fun _ h => ⟨rfl, h⟩)
    refine ⟨step_free rfl (fun aF wF hs hb => ?_), ?_⟩
    · obtain ⟨x0, -⟩ := hs
      have e0 : aF.eval (.tmp 2) = .pointer (some ⟨b, 0, none⟩) := x0
      refine opC_value (v := .pointer (some ⟨b, 4, none⟩)) ?_ ⟨rfl, below_same wF⟩
      have t0 := ev_of e0
      simp [execOp, go_sem, t0]
    refine ⟨step_free rfl (fun aF wF hs hb => ?_), ?_⟩
    · obtain ⟨x0, -⟩ := hs
      have e0 : aF.eval (.tmp 18) = .pointer (some ⟨b, 4, none⟩) := x0
      exact opC_load e0 (LM wF hb) ⟨rfl, below_same wF⟩
    refine ⟨step_free rfl (fun aF wF hs hb => ?_), ?_⟩
    · obtain ⟨x0, -⟩ := hs
      have e0 : aF.eval (.tmp 2) = .pointer (some ⟨b, 0, none⟩) := x0
      exact opC_load e0 (LQ wF hb) ⟨rfl, below_same wF⟩
    refine ⟨step_free rfl (fun aF wF hs hb => ?_), ?_⟩
    · obtain ⟨x0, -⟩ := hs
      have e0 : aF.eval (.tmp 20) = .agg #[.int .u8 (K : Int), .int .i64 (P : Int), .int .u32 (R : Int), .int .u8 (B : Int), .int .i64 (M : Int), .int .i64 S, .int .i64 F, .int .i64 G] := x0
      exact opC_call (args := #[.agg #[.int .u8 (K : Int), .int .i64 (P : Int), .int .u32 (R : Int), .int .u8 (B : Int), .int .i64 (M : Int), .int .i64 S, .int .i64 F, .int .i64 G]]) (enters9 Tryz.func40 (by kernel_rfl) rfl) (by simp [e0]) (cY wF) (fun _ h => ⟨rfl, h⟩)
    refine ⟨step_free rfl (fun aF wF hs hb => ?_), ?_⟩
    · obtain ⟨x0, x1, x2, x3, x4, -⟩ := hs
      have e0 : aF.eval (.tmp 13) = .bool on := x0
      have e1 : aF.eval (.tmp 15) = .int .i64 (P : Int) := x1
      have e2 : aF.eval (.tmp 17) = .agg #[.int .u32 (R : Int), .bool th] := x2
      have e3 : aF.eval (.tmp 19) = .int .i64 (M : Int) := x3
      have e4 : aF.eval (.tmp 21) = .int .i64 (z : Int) := x4
      exact opC_callF (args := #[.bool on, .int .i64 (P : Int), .agg #[.int .u32 (R : Int), .bool th], .int .i64 (M : Int), .int .i64 (z : Int)]) (enters9 Tryz.func38 (by kernel_rfl) rfl) (by simp [e0, e1, e2, e3, e4]) (cW wF) (fun _ _ h1 h2 => ⟨h1, h2⟩)
    refine ⟨step_free rfl (fun aF wF hs hb => ?_), ?_⟩
    · obtain ⟨x0, -⟩ := hs
      obtain ⟨g0, c0, e0, -⟩ : (rws3F M FF).p (aF.eval (.tmp 22)) wF := x0
      refine opC_value (v := .int .i64 (M : Int)) ?_ ⟨rfl, below_same wF⟩
      have t0 := ev_of e0
      simp [go_sem, t0]
    refine ⟨step_free rfl (fun aF wF hs hb => ?_), ?_⟩
    · exact opC_move rfl ⟨rfl, below_same wF⟩
    exact trivial
  · intro f w2 hf hb2
    obtain ⟨g, c9, e22, hr22⟩ : (rws3F M FF).p (f 11) w2 := hf 11 22 rfl
    have e23 : f 12 = .int .i64 (M : Int) := hf 12 23 rfl
    have e24 : f 13 = .int .i64 0 := hf 13 24 rfl
    have HW2 := Lib.hid hr22
    have HB2 := Lib.hid (HB0.out.trans (hb2.mono HB0.out.size))
    have HQ2 := Lib.hid (HQ.out.below hb2 HQ.out.lt)
    simp only [putF, Act.put, List.setIfInBounds_toArray, List.set_cons_zero, List.set_cons_succ]
    rw [e22, e23, e24]
    clear hf e22 e23 e24 hr22 hb2 LQ LK LP LM HQ HB0 cR cY cW hon
    go_wp2_with fail
    go_loopw [5, 6, 7, 8, 9, 10, 24] (fun v s _ _ _ _ i wr => ∃ (k : Nat), k ≤ M ∧ i = .int .i64 k ∧ s = .int .i64 (paysTo FF k) ∧ Hid (OwnS refT 52 wr w.heap.size v k (duesL D (fun k => paysTo FF (k + 1)) k)) ∧ Hid (v.ownBlock ≠ some g ∧ v.ownBlock ≠ some b) ∧ Hid (Rws3 wr (some ⟨g, 0, none⟩) M FF) ∧ Hid (g < w2.heap.size) ∧ Hid (Blk wr b 33 #[.int .u8 (K : Int), .int .i64 (P : Int), .int .u32 (R : Int), .int .u8 (B : Int), .int .i64 (M : Int), .int .i64 S, .int .i64 F, .int .i64 G]) ∧ Hid (Below w.heap.size w wr)) (fun _ _ _ _ _ _ i _ => M - (intOf i).toNat)
    case atStart => exact ⟨0, Nat.zero_le _, rfl, rfl, Lib.hid (OwnS.nil_ w2 w.heap.size _), Lib.hid ⟨nofun, nofun⟩, HW2, Lib.hid (by obtain ⟨b9, e9, h9, -⟩ := HW2.out; injection e9 with e9; injection e9 with e9; omega), HQ2, HB2⟩
    case round =>
      obtain ⟨k, hk, rfl, rfl, HO, HNB, HRW, HGL, HQr, HBr⟩ := hrel
      by_cases hlt : k < M
      · obtain ⟨b9, e9, h9, hc9⟩ := HRW.out
        injection e9 with e9
        injection e9 with e9 _ _
        subst e9
        obtain ⟨d0, d1, d2⟩ := hc9 k hlt
        have hx1 := HBD.out.1 k
        have hx2 := HBD.out.2 k (by omega)
        have hx3 := HBD.out.2 (k + 1) hlt
        have hnext : paysTo FF (k + 1) = paysTo FF k + ((FF k).1 + (FF k).2.1) := rfl
        have hMM := HS.out.2
        obtain ⟨hD1, hD2, hD3, hD4⟩ := HD.out k hlt
        obtain ⟨x, hx⟩ : ∃ x, (FF k).1 = x := ⟨_, rfl⟩
        obtain ⟨y1, hy1⟩ : ∃ x, (FF k).2.1 = x := ⟨_, rfl⟩
        obtain ⟨z1, hz1⟩ : ∃ x, (FF k).2.2 = x := ⟨_, rfl⟩
        obtain ⟨s0, hs0⟩ : ∃ x, paysTo FF k = x := ⟨_, rfl⟩
        obtain ⟨s1, hs1⟩ : ∃ x, paysTo FF (k + 1) = x := ⟨_, rfl⟩
        rw [hx, hy1] at hx1 hnext
        rw [hx] at d0
        rw [hy1] at d1
        rw [hz1] at d2
        rw [hs0] at hnext hx2
        rw [hs1] at hnext hx3
        rw [hs0]
        have i1 : IntKind.i64.wrap (x + y1) = x + y1 := by rw [IntKind.wrap_i64]; omega
        have i2 : IntKind.i64.wrap (s0 + (x + y1)) = s1 := by rw [IntKind.wrap_i64]; omega
        have cP := RPlain9 S ((k : Int) + 1) (by have := HS.out.1; omega) (by have := HS.out.1; omega) (by omega) (by omega)
        obtain ⟨pd, hpd⟩ : ∃ p, plainD S ((k : Int) + 1) = p := ⟨_, rfl⟩
        unfold RpPost at cP
        rw [hpd] at hD1 hD2 hD3
        simp only [hpd, hD4, true_implies] at cP
        have cN := fun W (hW : Rv W W.heap.size A (l.map encN)) => RNext9 A n c W.heap.size l pd W hW HN.out.1 (by have := HN.out.2; omega) ⟨hD2, hD3⟩
        rw [hD1] at cN
        have HT := Lib.hid (show duesL D (fun k => paysTo FF (k + 1)) k ++ [(D k, s1)] = duesL D (fun k => paysTo FF (k + 1)) (k + 1) from by rw [← hs1]; exact duesL_next D (fun k => paysTo FF (k + 1)) k)
        have HS1 := Lib.hid hs1
        obtain ⟨dk, hdk⟩ : ∃ x, D k = x := ⟨_, rfl⟩
        rw [hdk] at cN HT
        simp only [Option.getD_some] at cN
        obtain ⟨t0, t1, t2, t3, t4, t5, t6, t7⟩ := blk8 HQr.out
        have lz := HQr.out.lt
        clear hx hy1 hz1 hs0 hs1 hpd hdk hD1 hD2 hD3 hD4 hx2 hx3 hc9
        have HX8 := Lib.hid (Blk.new wr 92 #[.int .i64 x, .int .i64 y1, .int .i64 z1])
        have hb8 := b_alloc wr (.cells #[.int .i64 x, .int .i64 y1, .int .i64 z1] 92)
        have HQ8 := Lib.hid (HQr.out.below hb8 HQr.out.lt)
        have HO8 := Lib.hid (HO.out.below hb8)
        have HRW8 := Lib.hid (HRW.out.belowF hb8)
        have HB8 := Lib.hid (HBr.out.trans (hb8.mono HBr.out.size))
        clear hb8 HQr HO HRW HBr
        go_wp2_with fail
        rw [← hnext]
        refine (cP _).mono ?_
        rintro e w5 ⟨rfl, -, hb5⟩
        have HQ5 := Lib.hid (HQ8.out.below hb5 HQ8.out.lt)
        have HO5 := Lib.hid (HO8.out.below hb5)
        have HRW5 := Lib.hid (HRW8.out.belowF hb5)
        have HB5 := Lib.hid (HB8.out.trans (hb5.mono HB8.out.size))
        clear hb5 cP HQ8 HO8 HRW8 HB8 HX8 t0 t1 t2 t3 t4 t5 t6 t7 lz d0 d1 d2 i1 i2 hx1 hnext
        go_wp2_with fail
        refine (cN w5 (rv_later HR.out HB5.out)).mono ?_
        rintro e w5b ⟨rfl, rfl⟩
        have hb6 := b_alloc w5b (.cells #[.int .i64 dk, .int .i64 s1] 52)
        have HX1 := Lib.hid (HO5.out.alloc (.cells #[.int .i64 dk, .int .i64 s1] 52))
        have HA1 := Lib.hid (HB5.out.alloc HB5.out.size (.cells #[.int .i64 dk, .int .i64 s1] 52))
        have HQ6 := Lib.hid (HQ5.out.below hb6 HQ5.out.lt)
        have HRW6 := Lib.hid (HRW5.out.belowF hb6)
        have HNW := Lib.hid (Rs.block (T := refT) (u := (dk, s1)) (Blk.new w5b 52 #[.int .i64 dk, .int .i64 s1]))
        have hsz5 : w.heap.size ≤ w5b.heap.size := HB5.out.size
        have HG5 : Hid (g < w5b.heap.size ∧ b < w5b.heap.size) := Lib.hid ⟨by obtain ⟨b9, e9, h9, -⟩ := HRW5.out; injection e9 with e9; injection e9 with e9; omega, HQ5.out.lt⟩
        clear hb6 cN HQ5 HO5 HRW5 HB5
        go_wp2_with (with_reducible refine wpList_appendS (o := ⟨some 51, _, _, _, _, _⟩) rfl rowRef (.tmp 44) (.tmp 50) rfl w.heap.size _ k (duesL D (fun k => paysTo FF (k + 1)) k) ?p1 HX1.out _ (some ⟨w5b.heap.size, 0, none⟩) 1 1 [(dk, s1)] ?p2 HNW.out rfl ?p3 ?p4 ?p5 ?_)
        try (case p1 => rfl)
        try (case p2 => rfl)
        try (case p3 => unfold maxLen; omega)
        try (case p4 => omega)
        try (case p5 => first | omega | (simp; omega))
        intro v2 w6 ho2 hg2 hloc _
        have hb2 : Below w.heap.size w w6 := HA1.out.grown hg2 HA1.out.size (fun g hg => (HX1.out.lt g hg).1)
        rw [HT.out] at ho2
        have HO2 := Lib.hid ho2
        have HB2b := Lib.hid hb2
        have HRW7 := Lib.hid (HRW6.out.grown hg2 (fun a ha e => by injection ha with ha; subst ha; exact HNB.out.1 e))
        have HQ7 := Lib.hid (HQ6.out.grown hg2 (Ne.symm HNB.out.2))
        have HNB2 : Hid (v2.ownBlock ≠ some g ∧ v2.ownBlock ≠ some b) := Lib.hid (by
          have h9 := HG5.out
          rcases hloc with e | e
          · rw [e]; exact HNB.out
          · rw [e]
            exact ⟨fun e2 => by injection e2 with e2; omega, fun e2 => by injection e2 with e2; omega⟩)
        clear ho2 hb2 hg2 hloc HX1 HA1 HQ6 HRW6 HNW HNB HG5 hsz5
        go_wp2_with fail
        refine ⟨?_, ?measure⟩
        repeat apply Exists.intro
        refine ⟨?rel, rfl⟩
        case rel => exact ⟨k + 1, by omega, by go_num, by rw [HS1.out], HO2, HNB2, HRW7, HGL, HQ7, HB2b⟩
        case measure => simp [intOf]; omega
      · have hkM : k = M := by omega
        subst hkM
        obtain ⟨_, A9, c9, rfl, _, _, hr9⟩ := HO.out.form (by decide)
        have HR9 := Lib.hid hr9
        clear hr9
        go_wp2_with fail
        go_ret
        exact ⟨A9, c9, rfl, HR9.out, HBr.out⟩
end Go.Proofs.YtjcnglkjjhnpbaaGreatDoor
