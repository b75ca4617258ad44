/-
terms.Text: of terms that are Right. Condition: the months' lengths and the powers of ten are laid.
-/
import Derived.Test.YtpbfipeinblfgaaGreatDoorTrmBQ9
import Derived.Test.YtpbfipeinblfgaaGreatDoorCTxtQ9
import Derived.Test.YtpbfipeinblfgaaGreatDoorTextAQ9
import Derived.Test.YtpbfipeinblfgaaGreatDoorTextBQ9
import Derived.Test.YtpbfipeinblfgaaGreatDoorFlowQ9
import Derived.Lib.ItoaLen
import Derived.Great.BuildSlice
namespace Go.Proofs.YtpbfipeinblfgaaGreatDoor
open Go.RowKit

def spanB (b : Int) : ByteArray := if b = 1 then ⟨#[97, 99, 116, 117, 97, 108]⟩ else if b = 2 then ⟨#[116, 104, 105, 114, 116, 121]⟩ else ⟨#[]⟩
def basisB (s : ByteArray) : Int := if s.toList = [97, 99, 116, 117, 97, 108] then 1 else if s.toList = [116, 104, 105, 114, 116, 121] then 2 else 0
set_option maxRecDepth 20000 in
set_option maxHeartbeats 1000000 in
theorem Basis_any (s : ByteArray) (w : World) : Calls Tryz.prog 44 #[.string s] w fun e w' => e = .returned (.int .u8 (basisB s)) ∧ w = w' := by
  go_enter Tryz.func44, Tryz.ntmps44
  go_wp2_with fail
  all_goals
    go_ret
    refine ⟨congrArg Ending.returned (congrArg (Value.int .u8) ?_), rfl⟩
    unfold basisB
    simp_all
set_option maxRecDepth 20000 in
set_option maxHeartbeats 1000000 in
theorem SName_any (b : Int) (w : World) : Calls Tryz.prog 85 #[.int .u8 b] w fun e w' => e = .returned (.string (spanB b)) ∧ w = w' := by
  go_enter Tryz.func85, Tryz.ntmps85
  go_wp2_with fail
  all_goals
    go_ret
    refine ⟨congrArg Ending.returned (congrArg Value.string ?_), rfl⟩
    unfold spanB
    simp_all
def itS (n : Int) : ByteArray := ⟨(Lib.itoa n).toArray⟩
theorem below_grow9 (w : World) (k : Nat) (os : Array Obj) : Below w.heap.size w (Go.Sort.grow (w.drewN k) os) := below_grow0 w k os
theorem Itoa_any (n : Int) (h0 : -9223372036854775808 ≤ n) (h1 : n ≤ 9223372036854775807) (w : World) (hp : Pows w) : Calls Tryz.prog 86 #[.int .i64 n] w fun e w' => e = .returned (.string (itS n)) ∧ Below w.heap.size w w' := by
  refine (Tryz.strconv_Itoa n h0 h1 w hp).mono ?_
  rintro e w' ⟨rfl, k, os, rfl⟩
  exact ⟨rfl, below_grow9 w k os⟩
theorem enters9 {P : Program} {f : FuncId} {fn : Func} {c : Code} (hf : P.funcs[f]? = some fn) (hname : (fn.name == "runtime.NumGoroutine") = false) (hb : fn.body = some c) : ∀ args w, (callFunc f args).run P w = .ok (.enter f args) w := by
  intro args w
  have h1 : fn.name ≠ "runtime.NumGoroutine" := by simpa using hname
  simp [callFunc, hf, h1, hb, mark]
theorem infoStr : (Tryz.prog.info? 9).map (fun i => (i.zero, i.size, i.bytes)) = some (some (.string ⟨#[]⟩), 1, 16) := by kernel_rfl
theorem opC_strs8 {dst : Option Tmp} {x0 x1 x2 x3 x4 x5 x6 x7 : Operand} {ty : TypeId} {pos : String} {af : Array Edge} {a : Act} {w : World} {K : Value → World → Prop} {s0 s1 s2 s3 s4 s5 s6 s7 : ByteArray} (h0 : a.eval x0 = .string s0) (h1 : a.eval x1 = .string s1) (h2 : a.eval x2 = .string s2) (h3 : a.eval x3 = .string s3) (h4 : a.eval x4 = .string s4) (h5 : a.eval x5 = .string s5) (h6 : a.eval x6 = .string s6) (h7 : a.eval x7 = .string s7)
    (hk : K (.slice (some ⟨w.heap.size, 0, none⟩) 8 8) (w.alloc (.cells #[.string s0, .string s1, .string s2, .string s3, .string s4, .string s5, .string s6, .string s7] 9))) : opC Tryz.prog ⟨dst, .buildSlice 108 8 #[(0, x0), (1, x1), (2, x2), (3, x3), (4, x4), (5, x5), (6, x6), (7, x7)], ty, pos, af, none⟩ a w K := by
  obtain ⟨i0, hi, hz0, hz1, hz2⟩ := info_parts infoStr
  have hrun : (Instr.buildSlice 108 8 #[(0, .string s0), (1, .string s1), (2, .string s2), (3, .string s3), (4, .string s4), (5, .string s5), (6, .string s6), (7, .string s7)]).run Tryz.prog w = .ok (.slice (some ⟨w.heap.size, 0, none⟩) 8 8) (w.alloc (.cells #[.string s0, .string s1, .string s2, .string s3, .string s4, .string s5, .string s6, .string s7] 9)) := by
    refine run_buildSlice w 108 9 8 _ #[.string s0, .string s1, .string s2, .string s3, .string s4, .string s5, .string s6, .string s7] i0 (.string ⟨#[]⟩) Tryz.underlying108 hi hz0 (by rw [hz1]; decide) (by rw [hz1]; decide) ?_
    rw [hz1]
    simp [Instr.fill, Value.cells]
    apply Array.toList_inj.1
    simp [List.range_succ]
  constructor
  rw [show (execOp a.eval ⟨dst, .buildSlice 108 8 #[(0, x0), (1, x1), (2, x2), (3, x3), (4, x4), (5, x5), (6, x6), (7, x7)], ty, pos, af, none⟩).run Tryz.prog w = .ok (.value (.slice (some ⟨w.heap.size, 0, none⟩) 8 8)) (w.alloc (.cells #[.string s0, .string s1, .string s2, .string s3, .string s4, .string s5, .string s6, .string s7] 9)) by
    simp [execOp, h0, h1, h2, h3, h4, h5, h6, h7, hrun, Result.andThen]]
  exact hk
def strs8F (cs : Array Value) : Flw := ⟨fun v W => ∃ g, v = .slice (some ⟨g, 0, none⟩) 8 8 ∧ Blk W g 9 cs, fun ⟨g, h1, h2⟩ hb => ⟨g, h1, h2.below hb h2.lt⟩⟩
def sps (l : List ByteArray) : ByteArray := ⟨(Lib.join (l.map (·.data.toList)) [32]).toArray⟩
def Trm.l (t : Trm) : List ByteArray := [nameB t.K, textC t.P, dec t.R, spanB (t.B : Int), itS t.M, dayText t.S, textC t.F, itS t.G]
def Trm.text (t : Trm) : ByteArray := sps t.l
/-- Join of eight with a blank between. -/
theorem Join8 {s0 s1 s2 s3 s4 s5 s6 s7 : ByteArray} (hl : (Lib.join (([s0, s1, s2, s3, s4, s5, s6, s7] : List ByteArray).map (·.data.toList)) [32]).length ≤ 140737488355328) {v : Value} {W : World} (hv : (strs8F #[.string s0, .string s1, .string s2, .string s3, .string s4, .string s5, .string s6, .string s7]).p v W) :
    Calls Tryz.prog 81 #[v, .string ⟨#[32]⟩] W fun e w' => e = .returned (.string (sps [s0, s1, s2, s3, s4, s5, s6, s7])) ∧ Below W.heap.size W w' := by
  obtain ⟨g, rfl, hg⟩ := hv
  exact Tryz.strings_Join g 0 8 [s0, s1, s2, s3, s4, s5, s6, s7] ⟨#[32]⟩ W (fun j x hj => by
    rw [hg.cell, Nat.zero_add]
    rcases j with _ | _ | _ | _ | _ | _ | _ | _ | j
    all_goals first | (simp only [List.getElem?_cons_zero, List.getElem?_cons_succ, Option.some.injEq] at hj; subst hj; rfl) | (simp at hj)) hg.lt (by simp) (by simp) hl
set_option maxRecDepth 100000 in
set_option maxHeartbeats 4000000 in
theorem TText_yes {t : Trm} (h : t.Right) (hlen : (Lib.join (t.l.map (·.data.toList)) [32]).length ≤ 140737488355328) (w : World) (hw : Lens w) (hp : Pows w) : Calls Tryz.prog 45 #[t.v] w (Ret (.string t.text) w) := by
  have hT := fun W => TRight_true h W
  obtain ⟨K, P, R, B, M, S, F, G⟩ := t
  obtain ⟨hK, ⟨hR, hB⟩, hP, hM, hS, hF, hG⟩ := h
  dsimp only at hK hR hB hP hM hS hF hG
  unfold Trm.text
  unfold Trm.l at hlen ⊢
  unfold Trm.v at hT ⊢
  dsimp only at hT hlen ⊢
  have hbx := Blk.new w 28 #[.int .u8 (K : Int), .int .i64 P, .int .u32 (R : Int), .int .u8 (B : Int), .int .i64 M, .int .i32 S, .int .i64 F, .int .i64 G]
  have hbl := (Below.refl _ w).alloc (Nat.le_refl _) (.cells #[.int .u8 (K : Int), .int .i64 P, .int .u32 (R : Int), .int .u8 (B : Int), .int .i64 M, .int .i32 S, .int .i64 F, .int .i64 G] 28)
  go_enter Tryz.func45, Tryz.ntmps45
  go_wp2_with fail
  refine (hT _).mono ?_
  rintro e w1 ⟨rfl, hb1⟩
  obtain ⟨b, hb⟩ : ∃ b, w.heap.size = b := ⟨_, rfl⟩
  rw [hb] at hbx ⊢
  have hbx1 := hbx.below hb1 hbx.lt
  have hbw := hbl.trans (hb1.mono hbl.size)
  have hlw := hw.below hbw
  have hpw := hp.below hbw
  obtain ⟨s0, q0⟩ : ∃ s, nameB K = s := ⟨_, rfl⟩
  obtain ⟨s1, q1⟩ : ∃ s, textC P = s := ⟨_, rfl⟩
  obtain ⟨s2, q2⟩ : ∃ s, dec R = s := ⟨_, rfl⟩
  obtain ⟨s3, q3⟩ : ∃ s, spanB (B : Int) = s := ⟨_, rfl⟩
  obtain ⟨s4, q4⟩ : ∃ s, itS M = s := ⟨_, rfl⟩
  obtain ⟨s5, q5⟩ : ∃ s, dayText S = s := ⟨_, rfl⟩
  obtain ⟨s6, q6⟩ : ∃ s, textC F = s := ⟨_, rfl⟩
  obtain ⟨s7, q7⟩ : ∃ s, itS G = s := ⟨_, rfl⟩
  rw [q0, q1, q2, q3, q4, q5, q6, q7] at hlen
  rw [q0, q1, q2, q3, q4, q5, q6, q7]
  obtain ⟨sJ, qJ⟩ : ∃ s, sps [s0, s1, s2, s3, s4, s5, s6, s7] = s := ⟨_, rfl⟩
  rw [qJ]
  have hw2 : IntKind.u64.wrap (R : Int) = (R : Int) := by rw [IntKind.wrap_u64]; omega
  have C0 : ∀ W', Below w1.heap.size w1 W' → Calls Tryz.prog 82 #[.int .u8 (K : Int)] W' fun e w' => e = .returned (.string s0) ∧ Below W'.heap.size W' w' := fun W' _ => (Name_any K W').mono fun e w' ⟨h1, h2⟩ => ⟨by rw [h1, q0], by rw [h2]; exact Below.refl _ _⟩
  have C1 : ∀ W', Below w1.heap.size w1 W' → Calls Tryz.prog 83 #[.int .i64 P] W' fun e w' => e = .returned (.string s1) ∧ Below W'.heap.size W' w' := fun W' hb => q1 ▸ CText_any P (by omega) W' (hpw.below hb)
  have C2 : ∀ W', Below w1.heap.size w1 W' → Calls Tryz.prog 84 #[.int .u64 (R : Int), .int .i64 10] W' fun e w' => e = .returned (.string s2) ∧ Below W'.heap.size W' w' := fun W' hb => q2 ▸ Format_any R (by omega) W' (hpw.below hb)
  have C3 : ∀ W', Below w1.heap.size w1 W' → Calls Tryz.prog 85 #[.int .u8 (B : Int)] W' fun e w' => e = .returned (.string s3) ∧ Below W'.heap.size W' w' := fun W' _ => (SName_any (B : Int) W').mono fun e w' ⟨h1, h2⟩ => ⟨by rw [h1, q3], by rw [h2]; exact Below.refl _ _⟩
  have C4 : ∀ W', Below w1.heap.size w1 W' → Calls Tryz.prog 86 #[.int .i64 M] W' fun e w' => e = .returned (.string s4) ∧ Below W'.heap.size W' w' := fun W' hb => q4 ▸ Itoa_any M (by omega) (by omega) W' (hpw.below hb)
  have C5 : ∀ W', Below w1.heap.size w1 W' → Calls Tryz.prog 80 #[.int .i32 S] W' fun e w' => e = .returned (.string s5) ∧ Below W'.heap.size W' w' := fun W' hb => q5 ▸ DText_any S (by omega) (by omega) W' (hlw.below hb) (hpw.below hb)
  have C6 : ∀ W', Below w1.heap.size w1 W' → Calls Tryz.prog 83 #[.int .i64 F] W' fun e w' => e = .returned (.string s6) ∧ Below W'.heap.size W' w' := fun W' hb => q6 ▸ CText_any F (by omega) W' (hpw.below hb)
  have C7 : ∀ W', Below w1.heap.size w1 W' → Calls Tryz.prog 86 #[.int .i64 G] W' fun e w' => e = .returned (.string s7) ∧ Below W'.heap.size W' w' := fun W' hb => q7 ▸ Itoa_any G (by omega) (by omega) W' (hpw.below hb)
  have CJ : ∀ W' (hb : Below w1.heap.size w1 W') {v : Value}, (strs8F #[.string s0, .string s1, .string s2, .string s3, .string s4, .string s5, .string s6, .string s7]).p v W' → Calls Tryz.prog 81 #[v, .string ⟨#[32]⟩] W' fun e w' => e = .returned (.string sJ) ∧ Below W'.heap.size W' w' := fun W' _ v hv => qJ ▸ Join8 hlen hv
  have L0 : ∀ W', Below w1.heap.size w1 W' → (Instr.loadAt 5 (.pointer (some ⟨b, 0, none⟩))).run Tryz.prog W' = .ok (.int .u8 (K : Int)) W' := fun W' hb => by
    have c0 := (blk8 (hbx1.below hb hbx1.lt)).1
    go_simp
  have L1 : ∀ W', Below w1.heap.size w1 W' → (Instr.loadAt 22 (.pointer (some ⟨b, 1, none⟩))).run Tryz.prog W' = .ok (.int .i64 P) W' := fun W' hb => by
    have c0 := (blk8 (hbx1.below hb hbx1.lt)).2.1
    go_simp
  have L2 : ∀ W', Below w1.heap.size w1 W' → (Instr.loadAt 23 (.pointer (some ⟨b, 2, none⟩))).run Tryz.prog W' = .ok (.int .u32 (R : Int)) W' := fun W' hb => by
    have c0 := (blk8 (hbx1.below hb hbx1.lt)).2.2.1
    go_simp
  have L3 : ∀ W', Below w1.heap.size w1 W' → (Instr.loadAt 5 (.pointer (some ⟨b, 3, none⟩))).run Tryz.prog W' = .ok (.int .u8 (B : Int)) W' := fun W' hb => by
    have c0 := (blk8 (hbx1.below hb hbx1.lt)).2.2.2.1
    go_simp
  have L4 : ∀ W', Below w1.heap.size w1 W' → (Instr.loadAt 3 (.pointer (some ⟨b, 4, none⟩))).run Tryz.prog W' = .ok (.int .i64 M) W' := fun W' hb => by
    have c0 := (blk8 (hbx1.below hb hbx1.lt)).2.2.2.2.1
    go_simp
  have L5 : ∀ W', Below w1.heap.size w1 W' → (Instr.loadAt 26 (.pointer (some ⟨b, 5, none⟩))).run Tryz.prog W' = .ok (.int .i32 S) W' := fun W' hb => by
    have c0 := (blk8 (hbx1.below hb hbx1.lt)).2.2.2.2.2.1
    go_simp
  have L6 : ∀ W', Below w1.heap.size w1 W' → (Instr.loadAt 22 (.pointer (some ⟨b, 6, none⟩))).run Tryz.prog W' = .ok (.int .i64 F) W' := fun W' hb => by
    have c0 := (blk8 (hbx1.below hb hbx1.lt)).2.2.2.2.2.2.1
    go_simp
  have L7 : ∀ W', Below w1.heap.size w1 W' → (Instr.loadAt 3 (.pointer (some ⟨b, 7, none⟩))).run Tryz.prog W' = .ok (.int .i64 G) W' := fun W' hb => by
    have c0 := (blk8 (hbx1.below hb hbx1.lt)).2.2.2.2.2.2.2
    go_simp
  have HBW := Lib.hid hbw
  have HB := Lib.hid hb
  have HQ : RowKit.Hid (sps [nameB K, textC P, dec R, spanB (B : Int), itS M, dayText S, textC F, itS G] = sJ) := Lib.hid (by rw [q0, q1, q2, q3, q4, q5, q6, q7]; exact qJ)
  clear hT hbx hbx1 hbl hb1 hbw hlw hpw hw hp q0 q1 q2 q3 q4 q5 q6 q7 hlen hK hR hB hP hM hS hF hG qJ hb
  go_wp2_with fail
  refine wp_region_flow [some 6, some 7, some 8, some 9, some 10, some 11, some 12, some 13, some 14, some 15, some 16, some 17, some 18, some 19, some 20, some 21, some 22, some 23, some 24, some 25, some 26, some 27, some 28, some 29, some 30, some 31, some 32, some 33, some 34, some 2] (fun i => ([.is (.pointer (some ⟨b, 0, none⟩)), .is (.int .u8 (K : Int)), .is (.string s0), .is (.pointer (some ⟨b, 1, none⟩)), .is (.int .i64 P), .is (.string s1), .is (.pointer (some ⟨b, 2, none⟩)), .is (.pointer (some ⟨b, 2, none⟩)), .is (.int .u32 (R : Int)), .is (.int .u64 (R : Int)), .is (.string s2), .is (.pointer (some ⟨b, 2, none⟩)), .is (.pointer (some ⟨b, 3, none⟩)), .is (.int .u8 (B : Int)), .is (.string s3), .is (.pointer (some ⟨b, 4, none⟩)), .is (.int .i64 M), .is (.string s4), .is (.pointer (some ⟨b, 5, none⟩)), .is (.int .i32 S), .is (.string s5), .is (.pointer (some ⟨b, 6, none⟩)), .is (.int .i64 F), .is (.string s6), .is (.pointer (some ⟨b, 7, none⟩)), .is (.int .i64 G), .is (.string s7), strs8F #[.string s0, .string s1, .string s2, .string s3, .string s4, .string s5, .string s6, .string s7], .is (.string sJ), .is (.string sJ)] : List Flw).getD i .any) (by kernel_rfl) (by kernel_rfl) rfl ?_ ?_
  · refine ⟨step_free rfl (fun aF wF hs hb => ?_), ?_⟩
    · obtain ⟨x0, -⟩ := hs
      have e0 : aF.eval (.tmp 1) = .pointer (some ⟨b, 0, none⟩) := x0
      refine opC_value (v := .pointer (some ⟨b, 0, none⟩)) ?_ ⟨rfl, below_same wF⟩
      have t0 := ev_of e0
      simp [execOp, go_sem, t0]
    refine ⟨step_free rfl (fun aF wF hs hb => ?_), ?_⟩
    · obtain ⟨x0, -⟩ := hs
      have e0 : aF.eval (.tmp 6) = .pointer (some ⟨b, 0, none⟩) := x0
      exact opC_load e0 (L0 wF hb) ⟨rfl, below_same wF⟩
    refine ⟨step_free rfl (fun aF wF hs hb => ?_), ?_⟩
    · obtain ⟨x0, -⟩ := hs
      have e0 : aF.eval (.tmp 7) = .int .u8 (K : Int) := x0
      exact opC_call (args := #[.int .u8 (K : Int)]) (enters9 Tryz.func82 (by kernel_rfl) rfl) (by simp [e0]) (C0 wF hb) (fun _ h => ⟨rfl, h⟩)
    refine ⟨step_free rfl (fun aF wF hs hb => ?_), ?_⟩
    · obtain ⟨x0, -⟩ := hs
      have e0 : aF.eval (.tmp 1) = .pointer (some ⟨b, 0, none⟩) := x0
      refine opC_value (v := .pointer (some ⟨b, 1, none⟩)) ?_ ⟨rfl, below_same wF⟩
      have t0 := ev_of e0
      simp [execOp, go_sem, t0]
    refine ⟨step_free rfl (fun aF wF hs hb => ?_), ?_⟩
    · obtain ⟨x0, -⟩ := hs
      have e0 : aF.eval (.tmp 9) = .pointer (some ⟨b, 1, none⟩) := x0
      exact opC_load e0 (L1 wF hb) ⟨rfl, below_same wF⟩
    refine ⟨step_free rfl (fun aF wF hs hb => ?_), ?_⟩
    · obtain ⟨x0, -⟩ := hs
      have e0 : aF.eval (.tmp 10) = .int .i64 P := x0
      exact opC_call (args := #[.int .i64 P]) (enters9 Tryz.func83 (by kernel_rfl) rfl) (by simp [e0]) (C1 wF hb) (fun _ h => ⟨rfl, h⟩)
    refine ⟨step_free rfl (fun aF wF hs hb => ?_), ?_⟩
    · obtain ⟨x0, -⟩ := hs
      have e0 : aF.eval (.tmp 1) = .pointer (some ⟨b, 0, none⟩) := x0
      refine opC_value (v := .pointer (some ⟨b, 2, none⟩)) ?_ ⟨rfl, below_same wF⟩
      have t0 := ev_of e0
      simp [execOp, go_sem, t0]
    refine ⟨step_free rfl (fun aF wF hs hb => ?_), ?_⟩
    · obtain ⟨x0, -⟩ := hs
      have e0 : aF.eval (.tmp 12) = .pointer (some ⟨b, 2, none⟩) := x0
      refine opC_value (v := .pointer (some ⟨b, 2, none⟩)) ?_ ⟨rfl, below_same wF⟩
      have t0 := ev_of e0
      simp [execOp, go_sem, t0]
    refine ⟨step_free rfl (fun aF wF hs hb => ?_), ?_⟩
    · obtain ⟨x0, -⟩ := hs
      have e0 : aF.eval (.tmp 13) = .pointer (some ⟨b, 2, none⟩) := x0
      exact opC_load e0 (L2 wF hb) ⟨rfl, below_same wF⟩
    refine ⟨step_free rfl (fun aF wF hs hb => ?_), ?_⟩
    · obtain ⟨x0, -⟩ := hs
      have e0 : aF.eval (.tmp 14) = .int .u32 (R : Int) := x0
      refine opC_value (v := .int .u64 (R : Int)) ?_ ⟨rfl, below_same wF⟩
      simp [execOp, go_sem, ev_of e0, hw2]
    refine ⟨step_free rfl (fun aF wF hs hb => ?_), ?_⟩
    · obtain ⟨x0, -⟩ := hs
      have e0 : aF.eval (.tmp 15) = .int .u64 (R : Int) := x0
      exact opC_call (args := #[.int .u64 (R : Int), .int .i64 10]) (enters9 Tryz.func84 (by kernel_rfl) rfl) (by simp [e0]; rfl) (C2 wF hb) (fun _ h => ⟨rfl, h⟩)
    refine ⟨step_free rfl (fun aF wF hs hb => ?_), ?_⟩
    · obtain ⟨x0, -⟩ := hs
      have e0 : aF.eval (.tmp 1) = .pointer (some ⟨b, 0, none⟩) := x0
      refine opC_value (v := .pointer (some ⟨b, 2, none⟩)) ?_ ⟨rfl, below_same wF⟩
      have t0 := ev_of e0
      simp [execOp, go_sem, t0]
    refine ⟨step_free rfl (fun aF wF hs hb => ?_), ?_⟩
    · obtain ⟨x0, -⟩ := hs
      have e0 : aF.eval (.tmp 17) = .pointer (some ⟨b, 2, none⟩) := x0
      refine opC_value (v := .pointer (some ⟨b, 3, none⟩)) ?_ ⟨rfl, below_same wF⟩
      have t0 := ev_of e0
      simp [execOp, go_sem, t0]
    refine ⟨step_free rfl (fun aF wF hs hb => ?_), ?_⟩
    · obtain ⟨x0, -⟩ := hs
      have e0 : aF.eval (.tmp 18) = .pointer (some ⟨b, 3, none⟩) := x0
      exact opC_load e0 (L3 wF hb) ⟨rfl, below_same wF⟩
    refine ⟨step_free rfl (fun aF wF hs hb => ?_), ?_⟩
    · obtain ⟨x0, -⟩ := hs
      have e0 : aF.eval (.tmp 19) = .int .u8 (B : Int) := x0
      exact opC_call (args := #[.int .u8 (B : Int)]) (enters9 Tryz.func85 (by kernel_rfl) rfl) (by simp [e0]) (C3 wF hb) (fun _ h => ⟨rfl, h⟩)
    refine ⟨step_free rfl (fun aF wF hs hb => ?_), ?_⟩
    · obtain ⟨x0, -⟩ := hs
      have e0 : aF.eval (.tmp 1) = .pointer (some ⟨b, 0, none⟩) := x0
      refine opC_value (v := .pointer (some ⟨b, 4, none⟩)) ?_ ⟨rfl, below_same wF⟩
      have t0 := ev_of e0
      simp [execOp, go_sem, t0]
    refine ⟨step_free rfl (fun aF wF hs hb => ?_), ?_⟩
    · obtain ⟨x0, -⟩ := hs
      have e0 : aF.eval (.tmp 21) = .pointer (some ⟨b, 4, none⟩) := x0
      exact opC_load e0 (L4 wF hb) ⟨rfl, below_same wF⟩
    refine ⟨step_free rfl (fun aF wF hs hb => ?_), ?_⟩
    · obtain ⟨x0, -⟩ := hs
      have e0 : aF.eval (.tmp 22) = .int .i64 M := x0
      exact opC_call (args := #[.int .i64 M]) (enters9 Tryz.func86 (by kernel_rfl) rfl) (by simp [e0]) (C4 wF hb) (fun _ h => ⟨rfl, h⟩)
    refine ⟨step_free rfl (fun aF wF hs hb => ?_), ?_⟩
    · obtain ⟨x0, -⟩ := hs
      have e0 : aF.eval (.tmp 1) = .pointer (some ⟨b, 0, none⟩) := x0
      refine opC_value (v := .pointer (some ⟨b, 5, none⟩)) ?_ ⟨rfl, below_same wF⟩
      have t0 := ev_of e0
      simp [execOp, go_sem, t0]
    refine ⟨step_free rfl (fun aF wF hs hb => ?_), ?_⟩
    · obtain ⟨x0, -⟩ := hs
      have e0 : aF.eval (.tmp 24) = .pointer (some ⟨b, 5, none⟩) := x0
      exact opC_load e0 (L5 wF hb) ⟨rfl, below_same wF⟩
    refine ⟨step_free rfl (fun aF wF hs hb => ?_), ?_⟩
    · obtain ⟨x0, -⟩ := hs
      have e0 : aF.eval (.tmp 25) = .int .i32 S := x0
      exact opC_call (args := #[.int .i32 S]) (enters9 Tryz.func80 (by kernel_rfl) rfl) (by simp [e0]) (C5 wF hb) (fun _ h => ⟨rfl, h⟩)
    refine ⟨step_free rfl (fun aF wF hs hb => ?_), ?_⟩
    · obtain ⟨x0, -⟩ := hs
      have e0 : aF.eval (.tmp 1) = .pointer (some ⟨b, 0, none⟩) := x0
      refine opC_value (v := .pointer (some ⟨b, 6, none⟩)) ?_ ⟨rfl, below_same wF⟩
      have t0 := ev_of e0
      simp [execOp, go_sem, t0]
    refine ⟨step_free rfl (fun aF wF hs hb => ?_), ?_⟩
    · obtain ⟨x0, -⟩ := hs
      have e0 : aF.eval (.tmp 27) = .pointer (some ⟨b, 6, none⟩) := x0
      exact opC_load e0 (L6 wF hb) ⟨rfl, below_same wF⟩
    refine ⟨step_free rfl (fun aF wF hs hb => ?_), ?_⟩
    · obtain ⟨x0, -⟩ := hs
      have e0 : aF.eval (.tmp 28) = .int .i64 F := x0
      exact opC_call (args := #[.int .i64 F]) (enters9 Tryz.func83 (by kernel_rfl) rfl) (by simp [e0]) (C6 wF hb) (fun _ h => ⟨rfl, h⟩)
    refine ⟨step_free rfl (fun aF wF hs hb => ?_), ?_⟩
    · obtain ⟨x0, -⟩ := hs
      have e0 : aF.eval (.tmp 1) = .pointer (some ⟨b, 0, none⟩) := x0
      refine opC_value (v := .pointer (some ⟨b, 7, none⟩)) ?_ ⟨rfl, below_same wF⟩
      have t0 := ev_of e0
      simp [execOp, go_sem, t0]
    refine ⟨step_free rfl (fun aF wF hs hb => ?_), ?_⟩
    · obtain ⟨x0, -⟩ := hs
      have e0 : aF.eval (.tmp 30) = .pointer (some ⟨b, 7, none⟩) := x0
      exact opC_load e0 (L7 wF hb) ⟨rfl, below_same wF⟩
    refine ⟨step_free rfl (fun aF wF hs hb => ?_), ?_⟩
    · obtain ⟨x0, -⟩ := hs
      have e0 : aF.eval (.tmp 31) = .int .i64 G := x0
      exact opC_call (args := #[.int .i64 G]) (enters9 Tryz.func86 (by kernel_rfl) rfl) (by simp [e0]) (C7 wF hb) (fun _ h => ⟨rfl, h⟩)
    refine ⟨step_free rfl (fun aF wF hs hb => ?_), ?_⟩
    · obtain ⟨x0, x1, x2, x3, x4, x5, x6, x7, -⟩ := hs
      have e0 : aF.eval (.tmp 8) = .string s0 := x0
      have e1 : aF.eval (.tmp 11) = .string s1 := x1
      have e2 : aF.eval (.tmp 16) = .string s2 := x2
      have e3 : aF.eval (.tmp 20) = .string s3 := x3
      have e4 : aF.eval (.tmp 23) = .string s4 := x4
      have e5 : aF.eval (.tmp 26) = .string s5 := x5
      have e6 : aF.eval (.tmp 29) = .string s6 := x6
      have e7 : aF.eval (.tmp 32) = .string s7 := x7
      exact opC_strs8 e0 e1 e2 e3 e4 e5 e6 e7 ⟨⟨_, rfl, Blk.new _ _ _⟩, (Below.refl _ wF).alloc (Nat.le_refl _) _⟩
    refine ⟨step_free rfl (fun aF wF hs hb => ?_), ?_⟩
    · obtain ⟨x0, -⟩ := hs
      have y0 : (strs8F #[.string s0, .string s1, .string s2, .string s3, .string s4, .string s5, .string s6, .string s7]).p (aF.eval (.tmp 33)) wF := x0
      exact opC_call (args := #[aF.eval (.tmp 33), .string ⟨#[32]⟩]) (enters9 Tryz.func81 (by kernel_rfl) rfl) (by simp; rfl) (CJ wF hb y0) (fun _ h => ⟨rfl, h⟩)
    refine ⟨step_free rfl (fun aF wF hs hb => ?_), ?_⟩
    · obtain ⟨x0, -⟩ := hs
      have e0 : aF.eval (.tmp 34) = .string sJ := x0
      exact opC_assign e0 ⟨rfl, below_same wF⟩
    exact trivial
  · intro f w6 hf hb6
    have h9 : f 29 = .string sJ := hf 29 2 rfl
    have HB6 := Lib.hid (HBW.out.trans (hb6.mono HBW.out.size))
    simp only [putF, Act.put, List.setIfInBounds_toArray, List.set_cons_zero, List.set_cons_succ]
    rw [h9]
    clear hf h9 hb6 C0 C1 C2 C3 C4 C5 C6 C7 CJ L0 L1 L2 L3 L4 L5 L6 L7
    go_wp2_with fail
    go_ret
    exact ⟨congrArg (fun s => Ending.returned (Value.string s)) HQ.out.symm, HB6.out⟩
end Go.Proofs.YtpbfipeinblfgaaGreatDoor
