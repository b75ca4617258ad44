/-
A teller's interest of a day. Condition: the teller is there.
A teller's end of a day. Condition: the teller is there.
A story is told. Condition: its deal may be; its events are sorted by a contract that is handed in.
-/
import Derived.Test.YtpbfipeinblfgaaGreatDoorSyEQ9
import Derived.Test.YtpbfipeinblfgaaGreatDoorYldDQ9
import Derived.Test.YtpbfipeinblfgaaGreatDoorSyTQ9
import Derived.Test.YtpbfipeinblfgaaGreatDoorSyRQ9
import Derived.Deep.LoopGhost
namespace Go.Proofs.YtpbfipeinblfgaaGreatDoor
open Go.ChangeShapes Go.WideShapes Go.ChangeAt Go.RowKit Go.Shelf

set_option maxRecDepth 100000 in
set_option maxHeartbeats 4000000 in
theorem accrue_any {o : Deal} {b0 g q : Nat} {day : Int} {l : List Ev} {x : TS} (w : World) (h : Tel w b0 g (.pointer (some ⟨q, 0, none⟩)) day l x) (hs : Sto w b0 q o) (hb : b0 ≤ w.heap.size) (hL : x.L.length ≤ 1000000000) (ho : o.Ok) {Z : Int} (hB : Bd o.b o.M x Z) (hZ : Z ≤ 100000000000000000) (hd : 0 ≤ day ∧ day < 3652058) :
    Calls Tryz.prog 60 #[.pointer (some ⟨g, 0, none⟩)] w (TelPost w b0 g (.pointer (some ⟨q, 0, none⟩)) day l (accM o.n o.R o.b day x)) := by
  have hone := one_bd (b := o.b) hd.1 hd.2
  have hqb := accS_bd (b := o.b) (c := x.c) hB.p ho.R hone.1 hB.c
  have hD := fun W (hl : Lens W) => Day_yes (P := x.p.toNat) (p := o.R) (c := x.c) (b := o.b) (D := oneD o.b day) (by have := hB.p; omega) ⟨ho.R, ho.b⟩ hd.1 hd.2 hB.c hone.2 hone.1 W hl
  rw [Int.toNat_of_nonneg hB.p.1] at hD
  unfold accM
  obtain ⟨Q, hQ⟩ : ∃ Q, (x.p.toNat * o.R * oneD o.b day + x.c) / unitN o.b = Q := ⟨_, rfl⟩
  obtain ⟨C, hC⟩ : ∃ C, (x.p.toNat * o.R * oneD o.b day + x.c) % unitN o.b = C := ⟨_, rfl⟩
  rw [hQ, hC] at hD
  rw [hQ] at hqb
  rw [hQ, hC]
  have hq1 := hqb.1
  have hi := hB.i
  have hw1 : -9223372036854775808 ≤ x.i + (Q : Int) := by omega
  have hw2 : x.i + (Q : Int) ≤ 9223372036854775807 := by omega
  have HD : Hid (∀ W, Below w.heap.size w W → Calls Tryz.prog 110 #[.agg #[.int .u32 (o.R : Int), .int .u8 (o.b : Int)], .int .i64 x.p, .int .i32 day, .int .u64 (x.c : Int)] W (Ret (.tuple #[.int .i64 (Q : Int), .int .u64 (C : Int), .nilIface]) W)) := Lib.hid fun W hW => hD W (hs.lens.below hW)
  clear hD hone hqb hQ hC hB
  obtain ⟨_, _, _, dq, ds, hS, -, -, -⟩ := id hs
  have HQ := Lib.hid hS
  have T0 := Lib.hid h
  obtain ⟨ev, en, hT, -⟩ := id h
  have HT := Lib.hid hT
  have HS := Lib.hid hs
  have HL := Lib.hid hL
  have HB := Lib.hid hb
  clear h hs hb hL hS hT
  have LD0_0 : ∀ W', Below w.heap.size w W' → (Instr.loadAt 37 (.pointer (some ⟨g, 0, none⟩))).run Tryz.prog W' = .ok (.pointer (some ⟨q, 0, none⟩)) W' := fun W' hb' => by
    have x0 := (HT.out.below hb' HT.out.lt).cell 0
    simp [telC] at x0
    go_simp
  have LD0_1 := fun W' (hb' : Below w.heap.size w W') => run_loadB (P := Tryz.prog) (HQ.out.below hb' HQ.out.lt) 25 3 #[.int .u32 (o.R : Int), .int .u8 (o.b : Int)] (part_of (by rfl)) rowRate9
  have LD0_2 : ∀ W', Below w.heap.size w W' → (Instr.loadAt 22 (.pointer (some ⟨g, 3, none⟩))).run Tryz.prog W' = .ok (.int .i64 x.p) W' := fun W' hb' => by
    have x0 := (HT.out.below hb' HT.out.lt).cell 3
    simp [telC] at x0
    go_simp
  have LD0_3 : ∀ W', Below w.heap.size w W' → (Instr.loadAt 26 (.pointer (some ⟨g, 10, none⟩))).run Tryz.prog W' = .ok (.int .i32 day) W' := fun W' hb' => by
    have x0 := (HT.out.below hb' HT.out.lt).cell 10
    simp [telC] at x0
    go_simp
  have LD0_4 : ∀ W', Below w.heap.size w W' → (Instr.loadAt 50 (.pointer (some ⟨g, 4, none⟩))).run Tryz.prog W' = .ok (.int .u64 (x.c : Int)) W' := fun W' hb' => by
    have x0 := (HT.out.below hb' HT.out.lt).cell 4
    simp [telC] at x0
    go_simp
  go_enter Tryz.func60, Tryz.ntmps60
  go_upto_region 0 with (fail)
  refine wp_region_flow [some 6, some 7, some 8, some 9, some 10, some 11, some 12, some 13, some 14, some 15, some 16, some 17, some 18, some 19, some 20, some 21, some 22, some 23, some 24, some 25, some 26, some 27, some 28, some 29, some 5, some 30, some 31, some 32, some 2, some 3, some 4] (fun i => ([.is (.pointer (some ⟨g, 0, none⟩)), .is (.pointer (some ⟨g, 0, none⟩)), .is (.pointer (some ⟨g, 0, none⟩)), .is (.pointer (some ⟨q, 0, none⟩)), .is (.pointer (some ⟨q, 0, none⟩)), .is (.pointer (some ⟨q, 1, none⟩)), .is (.pointer (some ⟨q, 3, none⟩)), .is (.agg #[.int .u32 (o.R : Int), .int .u8 (o.b : Int)]), .is (.pointer (some ⟨g, 0, none⟩)), .is (.pointer (some ⟨g, 0, none⟩)), .is (.pointer (some ⟨g, 1, none⟩)), .is (.pointer (some ⟨g, 1, none⟩)), .is (.pointer (some ⟨g, 3, none⟩)), .is (.int .i64 x.p), .is (.pointer (some ⟨g, 0, none⟩)), .is (.pointer (some ⟨g, 0, none⟩)), .is (.pointer (some ⟨g, 10, none⟩)), .is (.int .i32 day), .is (.pointer (some ⟨g, 0, none⟩)), .is (.pointer (some ⟨g, 0, none⟩)), .is (.pointer (some ⟨g, 1, none⟩)), .is (.pointer (some ⟨g, 4, none⟩)), .is (.int .u64 (x.c : Int)), .is (.tuple #[.int .i64 (Q : Int), .int .u64 (C : Int), .nilIface]), .is (.tuple #[.int .i64 (Q : Int), .int .u64 (C : Int), .nilIface]), .is (.int .i64 (Q : Int)), .is (.int .u64 (C : Int)), .is (.nilIface), .is (.int .i64 (Q : Int)), .is (.int .u64 (C : Int)), .is (.nilIface)] : List Flw).getD i .any) (by kernel_rfl) (by kernel_rfl) rfl ?_ ?_
  · skip
    refine ⟨step_free rfl (fun aF wF hs hb => ?_), ?_⟩
    · obtain ⟨x0, -⟩ := hs
      have e0 : aF.eval (.tmp 0) = .pointer (some ⟨g, 0, none⟩) := x0
      exact opC_move e0 ⟨rfl, below_same wF⟩
    refine ⟨step_free rfl (fun aF wF hs hb => ?_), ?_⟩
    · obtain ⟨x0, -⟩ := hs
      have e0 : aF.eval (.tmp 6) = .pointer (some ⟨g, 0, none⟩) := x0
      refine opC_value (v := .pointer (some ⟨g, 0, none⟩)) ?_ ⟨rfl, below_same wF⟩
      have t0 := ev_of e0
      go_simp
    refine ⟨step_free rfl (fun aF wF hs hb => ?_), ?_⟩
    · obtain ⟨x0, -⟩ := hs
      have e0 : aF.eval (.tmp 7) = .pointer (some ⟨g, 0, none⟩) := x0
      refine opC_value (v := .pointer (some ⟨g, 0, none⟩)) ?_ ⟨rfl, below_same wF⟩
      have t0 := ev_of e0
      go_simp
    refine ⟨step_free rfl (fun aF wF hs hb => ?_), ?_⟩
    · obtain ⟨x0, -⟩ := hs
      have e0 : aF.eval (.tmp 8) = .pointer (some ⟨g, 0, none⟩) := x0
      exact opC_load e0 (LD0_0 wF hb) ⟨rfl, below_same wF⟩
    refine ⟨step_free rfl (fun aF wF hs hb => ?_), ?_⟩
    · obtain ⟨x0, -⟩ := hs
      have e0 : aF.eval (.tmp 9) = .pointer (some ⟨q, 0, none⟩) := x0
      refine opC_value (v := .pointer (some ⟨q, 0, none⟩)) ?_ ⟨rfl, below_same wF⟩
      have t0 := ev_of e0
      go_simp
    refine ⟨step_free rfl (fun aF wF hs hb => ?_), ?_⟩
    · obtain ⟨x0, -⟩ := hs
      have e0 : aF.eval (.tmp 10) = .pointer (some ⟨q, 0, none⟩) := x0
      refine opC_value (v := .pointer (some ⟨q, 1, none⟩)) ?_ ⟨rfl, below_same wF⟩
      have t0 := ev_of e0
      go_simp
    refine ⟨step_free rfl (fun aF wF hs hb => ?_), ?_⟩
    · obtain ⟨x0, -⟩ := hs
      have e0 : aF.eval (.tmp 11) = .pointer (some ⟨q, 1, none⟩) := x0
      refine opC_value (v := .pointer (some ⟨q, 3, none⟩)) ?_ ⟨rfl, below_same wF⟩
      have t0 := ev_of e0
      go_simp
    refine ⟨step_free rfl (fun aF wF hs hb => ?_), ?_⟩
    · obtain ⟨x0, -⟩ := hs
      have e0 : aF.eval (.tmp 12) = .pointer (some ⟨q, 3, none⟩) := x0
      exact opC_load e0 (LD0_1 wF hb) ⟨rfl, below_same wF⟩
    refine ⟨step_free rfl (fun aF wF hs hb => ?_), ?_⟩
    · obtain ⟨x0, -⟩ := hs
      have e0 : aF.eval (.tmp 0) = .pointer (some ⟨g, 0, none⟩) := x0
      exact opC_move e0 ⟨rfl, below_same wF⟩
    refine ⟨step_free rfl (fun aF wF hs hb => ?_), ?_⟩
    · obtain ⟨x0, -⟩ := hs
      have e0 : aF.eval (.tmp 14) = .pointer (some ⟨g, 0, none⟩) := x0
      refine opC_value (v := .pointer (some ⟨g, 0, none⟩)) ?_ ⟨rfl, below_same wF⟩
      have t0 := ev_of e0
      go_simp
    refine ⟨step_free rfl (fun aF wF hs hb => ?_), ?_⟩
    · obtain ⟨x0, -⟩ := hs
      have e0 : aF.eval (.tmp 15) = .pointer (some ⟨g, 0, none⟩) := x0
      refine opC_value (v := .pointer (some ⟨g, 1, none⟩)) ?_ ⟨rfl, below_same wF⟩
      have t0 := ev_of e0
      go_simp
    refine ⟨step_free rfl (fun aF wF hs hb => ?_), ?_⟩
    · obtain ⟨x0, -⟩ := hs
      have e0 : aF.eval (.tmp 16) = .pointer (some ⟨g, 1, none⟩) := x0
      refine opC_value (v := .pointer (some ⟨g, 1, none⟩)) ?_ ⟨rfl, below_same wF⟩
      have t0 := ev_of e0
      go_simp
    refine ⟨step_free rfl (fun aF wF hs hb => ?_), ?_⟩
    · obtain ⟨x0, -⟩ := hs
      have e0 : aF.eval (.tmp 17) = .pointer (some ⟨g, 1, none⟩) := x0
      refine opC_value (v := .pointer (some ⟨g, 3, none⟩)) ?_ ⟨rfl, below_same wF⟩
      have t0 := ev_of e0
      go_simp
    refine ⟨step_free rfl (fun aF wF hs hb => ?_), ?_⟩
    · obtain ⟨x0, -⟩ := hs
      have e0 : aF.eval (.tmp 18) = .pointer (some ⟨g, 3, none⟩) := x0
      exact opC_load e0 (LD0_2 wF hb) ⟨rfl, below_same wF⟩
    refine ⟨step_free rfl (fun aF wF hs hb => ?_), ?_⟩
    · obtain ⟨x0, -⟩ := hs
      have e0 : aF.eval (.tmp 0) = .pointer (some ⟨g, 0, none⟩) := x0
      exact opC_move e0 ⟨rfl, below_same wF⟩
    refine ⟨step_free rfl (fun aF wF hs hb => ?_), ?_⟩
    · obtain ⟨x0, -⟩ := hs
      have e0 : aF.eval (.tmp 20) = .pointer (some ⟨g, 0, none⟩) := x0
      refine opC_value (v := .pointer (some ⟨g, 0, none⟩)) ?_ ⟨rfl, below_same wF⟩
      have t0 := ev_of e0
      go_simp
    refine ⟨step_free rfl (fun aF wF hs hb => ?_), ?_⟩
    · obtain ⟨x0, -⟩ := hs
      have e0 : aF.eval (.tmp 21) = .pointer (some ⟨g, 0, none⟩) := x0
      refine opC_value (v := .pointer (some ⟨g, 10, none⟩)) ?_ ⟨rfl, below_same wF⟩
      have t0 := ev_of e0
      go_simp
    refine ⟨step_free rfl (fun aF wF hs hb => ?_), ?_⟩
    · obtain ⟨x0, -⟩ := hs
      have e0 : aF.eval (.tmp 22) = .pointer (some ⟨g, 10, none⟩) := x0
      exact opC_load e0 (LD0_3 wF hb) ⟨rfl, below_same wF⟩
    refine ⟨step_free rfl (fun aF wF hs hb => ?_), ?_⟩
    · obtain ⟨x0, -⟩ := hs
      have e0 : aF.eval (.tmp 0) = .pointer (some ⟨g, 0, none⟩) := x0
      exact opC_move e0 ⟨rfl, below_same wF⟩
    refine ⟨step_free rfl (fun aF wF hs hb => ?_), ?_⟩
    · obtain ⟨x0, -⟩ := hs
      have e0 : aF.eval (.tmp 24) = .pointer (some ⟨g, 0, none⟩) := x0
      refine opC_value (v := .pointer (some ⟨g, 0, none⟩)) ?_ ⟨rfl, below_same wF⟩
      have t0 := ev_of e0
      go_simp
    refine ⟨step_free rfl (fun aF wF hs hb => ?_), ?_⟩
    · obtain ⟨x0, -⟩ := hs
      have e0 : aF.eval (.tmp 25) = .pointer (some ⟨g, 0, none⟩) := x0
      refine opC_value (v := .pointer (some ⟨g, 1, none⟩)) ?_ ⟨rfl, below_same wF⟩
      have t0 := ev_of e0
      go_simp
    refine ⟨step_free rfl (fun aF wF hs hb => ?_), ?_⟩
    · obtain ⟨x0, -⟩ := hs
      have e0 : aF.eval (.tmp 26) = .pointer (some ⟨g, 1, none⟩) := x0
      refine opC_value (v := .pointer (some ⟨g, 4, none⟩)) ?_ ⟨rfl, below_same wF⟩
      have t0 := ev_of e0
      go_simp
    refine ⟨step_free rfl (fun aF wF hs hb => ?_), ?_⟩
    · obtain ⟨x0, -⟩ := hs
      have e0 : aF.eval (.tmp 27) = .pointer (some ⟨g, 4, none⟩) := x0
      exact opC_load e0 (LD0_4 wF hb) ⟨rfl, below_same wF⟩
    refine ⟨step_free rfl (fun aF wF hs hb => ?_), ?_⟩
    · obtain ⟨x0, x1, x2, x3, -⟩ := hs
      have e0 : aF.eval (.tmp 13) = .agg #[.int .u32 (o.R : Int), .int .u8 (o.b : Int)] := x0
      have e1 : aF.eval (.tmp 19) = .int .i64 x.p := x1
      have e2 : aF.eval (.tmp 23) = .int .i32 day := x2
      have e3 : aF.eval (.tmp 28) = .int .u64 (x.c : Int) := x3
      exact opC_call (args := #[.agg #[.int .u32 (o.R : Int), .int .u8 (o.b : Int)], .int .i64 x.p, .int .i32 day, .int .u64 (x.c : Int)]) (enters_of Tryz.func110 (by kernel_rfl) rfl) (by simp [e0, e1, e2, e3]) (HD.out wF hb) (fun _ h => ⟨rfl, h⟩)
    refine ⟨step_free rfl (fun aF wF hs hb => ?_), ?_⟩
    · obtain ⟨x0, -⟩ := hs
      have e0 : aF.eval (.tmp 29) = .tuple #[.int .i64 (Q : Int), .int .u64 (C : Int), .nilIface] := x0
      exact opC_move e0 ⟨rfl, below_same wF⟩
    refine ⟨step_free rfl (fun aF wF hs hb => ?_), ?_⟩
    · obtain ⟨x0, -⟩ := hs
      have e0 : aF.eval (.tmp 5) = .tuple #[.int .i64 (Q : Int), .int .u64 (C : Int), .nilIface] := x0
      refine opC_value (v := .int .i64 (Q : Int)) ?_ ⟨rfl, below_same wF⟩
      have t0 := ev_of e0
      simp [execOp, go_sem, t0]
    refine ⟨step_free rfl (fun aF wF hs hb => ?_), ?_⟩
    · obtain ⟨x0, -⟩ := hs
      have e0 : aF.eval (.tmp 5) = .tuple #[.int .i64 (Q : Int), .int .u64 (C : Int), .nilIface] := x0
      refine opC_value (v := .int .u64 (C : Int)) ?_ ⟨rfl, below_same wF⟩
      have t0 := ev_of e0
      simp [execOp, go_sem, t0]
    refine ⟨step_free rfl (fun aF wF hs hb => ?_), ?_⟩
    · obtain ⟨x0, -⟩ := hs
      have e0 : aF.eval (.tmp 5) = .tuple #[.int .i64 (Q : Int), .int .u64 (C : Int), .nilIface] := x0
      refine opC_value (v := .nilIface) ?_ ⟨rfl, below_same wF⟩
      have t0 := ev_of e0
      simp [execOp, go_sem, t0]
    refine ⟨step_free rfl (fun aF wF hs hb => ?_), ?_⟩
    · obtain ⟨x0, -⟩ := hs
      have e0 : aF.eval (.tmp 30) = .int .i64 (Q : Int) := x0
      exact opC_assign e0 ⟨rfl, below_same wF⟩
    refine ⟨step_free rfl (fun aF wF hs hb => ?_), ?_⟩
    · obtain ⟨x0, -⟩ := hs
      have e0 : aF.eval (.tmp 31) = .int .u64 (C : Int) := x0
      exact opC_assign e0 ⟨rfl, below_same wF⟩
    refine ⟨step_free rfl (fun aF wF hs hb => ?_), ?_⟩
    · obtain ⟨x0, -⟩ := hs
      have e0 : aF.eval (.tmp 32) = .nilIface := x0
      exact opC_assign e0 ⟨rfl, below_same wF⟩
    exact trivial
  intro fv w1 hf hb1
  have e2 : fv 28 = .int .i64 (Q : Int) := hf 28 2 rfl
  have e3 : fv 29 = .int .u64 (C : Int) := hf 29 3 rfl
  simp only [putF, Act.put, List.setIfInBounds_toArray, List.set_cons_zero, List.set_cons_succ]
  simp only [e2, e3]
  clear hf e2 e3
  have T1 := Lib.hid (T0.out.below hb1)
  have B1 := Lib.hid (hb1.mono HB.out)
  obtain ⟨-, -, c2, -, c4, -, -, -, -, -, -, -, fz⟩ := T1.out.cells
  have f2 := fz 2
  have f4 := fz 4
  have T2 := Lib.hid ((T1.out.set (k := 2) (v := .int .i64 (x.i + (Q : Int))) (y := { x with i := x.i + (Q : Int) }) rfl (fun ev en => telC_2 _ _ _ ev en _)).set (k := 4) (v := .int .u64 (C : Int)) (y := { x with i := x.i + (Q : Int), c := C }) rfl (fun ev en => telC_4 _ _ _ ev en _))
  have B2 := Lib.hid (B1.out.trans ((T1.out.low (Nat.le_trans HB.out B1.out.size) 2 (.int .i64 (x.i + (Q : Int)))).setCell T1.out.base (p := ⟨g, 4, none⟩) (.int .u64 (C : Int))))
  clear T0 HT HQ HD T1 fz hb1 LD0_0 LD0_1 LD0_2 LD0_3 LD0_4
  go_wp2_with fail
  refine (debit_any 3 ((Q : Int)) _).mono ?_
  rintro e w3 ⟨rfl, b3⟩
  have T3 := Lib.hid (T2.out.below b3)
  have B3 := Lib.hid (B2.out.trans (b3.mono (Nat.le_trans HB.out B2.out.size)))
  clear T2 B2 b3
  go_wp2_with fail
  refine (credit_any 6 ((Q : Int)) (by omega) _).mono ?_
  rintro e w4 ⟨rfl, b4⟩
  have T4 := Lib.hid (T3.out.below b4)
  have B4 := Lib.hid (B3.out.trans (b4.mono (Nat.le_trans HB.out B3.out.size)))
  clear T3 B3 b4
  go_wp2_with fail
  have hbk := Blk.new w4 99 #[.int .u8 ((3 : Nat) : Int), .int .i64 ((Q : Int)), .int .u8 ((6 : Nat) : Int), .int .i64 (-((Q : Int)))]
  have hab := b_alloc w4 (.cells #[.int .u8 ((3 : Nat) : Int), .int .i64 ((Q : Int)), .int .u8 ((6 : Nat) : Int), .int .i64 (-((Q : Int)))] 99)
  have T5 := Lib.hid (T4.out.below hab)
  have B5 := Lib.hid (B4.out.trans (hab.mono (Nat.le_trans HB.out B4.out.size)))
  have hr := Rs.blkS (T := legT) (l := [(3, (Q : Int)), (6, -((Q : Int)))]) hbk (by rfl)
  refine (post_any _ T5.out (HS.out.below B5.out) (Nat.le_trans HB.out B5.out.size) HL.out 2 0 _ 2 2 _ _ hr rfl (by omega) (Nat.le_refl _) ?_).mono ?_
  · intro u hu
    simp at hu
    rcases hu with rfl | rfl <;> (unfold LegIn; dsimp only; omega)
  rintro e w6 ⟨rfl, b5, t5⟩
  have T6 := Lib.hid t5
  have B6 := Lib.hid (B5.out.trans b5)
  clear t5 b5 hr hbk hab T4 B4 T5 B5
  go_wp2_with fail
  go_end0
  exact ⟨rfl, B6.out, T6.out⟩
end Go.Proofs.YtpbfipeinblfgaaGreatDoor
namespace Go.Proofs.YtpbfipeinblfgaaGreatDoor
open Go.ChangeShapes Go.WideShapes Go.ChangeAt Go.RowKit Go.Shelf

set_option maxRecDepth 100000 in
set_option maxHeartbeats 4000000 in
theorem end_any {o : Deal} (ho : o.Ok) {b0 g q : Nat} {day : Int} {l : List Ev} {x : TS} (w : World) (h : Tel w b0 g (.pointer (some ⟨q, 0, none⟩)) day l x) (hs : Sto w b0 q o) (hb : b0 ≤ w.heap.size) {Z : Int} (hBd : Bd o.b o.M x Z) (hF : Few9 x Z) (hZ : Z + 1000000000 * ((o.M : Int) - x.m) + 10000000000 ≤ 100000000000000000) (hday : 0 ≤ day ∧ day < 3652058) :
    Calls Tryz.prog 26 #[.pointer (some ⟨g, 0, none⟩)] w (TelPost w b0 g (.pointer (some ⟨q, 0, none⟩)) day l (endM o day x)) := by
  have c9 := h.cells.2.2.2.2.2.2.2.2.2.1
  have hL := late_any ho w h hs hb hBd hF (by omega) ⟨hday.1, by omega⟩
  have hmM := hBd.m
  have hbd := Bd.lates (n := o.n) (M := o.M) (day := day) (G := o.G) (D := o.D) (Sm := o.Sm) ho.F (o.M - x.m) x Z hBd
  have hfw := Few9.lates (n := o.n) (M := o.M) (day := day) (F := o.F) (G := o.G) (D := o.D) (Sm := o.Sm) (o.M - x.m) x Z hF
  have hml := hbd.m
  unfold endM
  obtain ⟨X, hX⟩ : ∃ X, lateN o.n o.F o.G o.M o.D o.Sm day (o.M - x.m) x = X := ⟨_, rfl⟩
  rw [hX] at hL hbd hfw hml ⊢
  have hA := fun W (t : Tel W b0 g (.pointer (some ⟨q, 0, none⟩)) day l X) (s : Sto W b0 q o) (b : b0 ≤ W.heap.size) => accrue_any W t s b (hfw.few (by omega)) ho hbd (by omega) hday
  have HL := Lib.hid hL
  have HA := Lib.hid hA
  have HT := Lib.hid h
  have HS := Lib.hid hs
  have HB := Lib.hid hb
  clear h hs hb hBd hF hZ hday hL hA hbd hfw hml hmM hX
  by_cases t1 : x.t = 1
  · rw [if_pos t1]
    have tt : (x.t : Int) = 1 := by omega
    rw [tt] at c9
    clear t1 tt
    go_enter Tryz.func26, Tryz.ntmps26
    go_wp2_with fail
    refine HL.out.mono ?_
    rintro e w2 ⟨rfl, b2, t2⟩
    have T2 := Lib.hid t2
    have B2 := Lib.hid b2
    clear c9 t2 b2
    go_wp2_with fail
    refine (HA.out w2 T2.out (HS.out.below B2.out) (Nat.le_trans HB.out B2.out.size)).mono ?_
    rintro e w3 ⟨rfl, b3, t3⟩
    have T3 := Lib.hid t3
    have B3 := Lib.hid (B2.out.trans b3)
    clear t3 b3
    go_wp2_with fail
    go_end0
    exact ⟨rfl, B3.out, T3.out⟩
  · rw [if_neg t1]
    have tt : ¬ (x.t : Int) = 1 := by omega
    clear t1
    go_enter Tryz.func26, Tryz.ntmps26
    go_wp2_with fail
    go_end0
    exact ⟨rfl, Below.refl b0 w, HT.out⟩
end Go.Proofs.YtpbfipeinblfgaaGreatDoor
namespace Go.Proofs.YtpbfipeinblfgaaGreatDoor
open Go.ChangeShapes Go.WideShapes Go.ChangeAt Go.RowKit Go.Shelf

theorem Evs.one {w : World} {ev : Value} {l : List Ev} (h : Evs w ev l) : ev.oneCell' = true := by
  obtain ⟨A, c, rfl, -⟩ := h
  rfl
theorem neEnSt : (61 : TypeId) ≠ 52 := by decide
theorem neLeSt : (99 : TypeId) ≠ 52 := by decide
theorem Ents.lower {w : World} {b b' : Nat} {en : Value} {L : List En} (h : Ents w b en L) (hb : b' ≤ b) : Ents w b' en L := by
  obtain ⟨V, h1, h2⟩ := h
  refine ⟨V, ?_, h2.len, h2.y, h2.r, fun i v p hv hp => ?_⟩
  · unfold OwnS at h1 ⊢
    refine ⟨h1.1, ?_⟩
    rcases h1.2 with ⟨e1, e2⟩ | ⟨g, cap, cur, e1, e2, e3⟩
    · exact .inl ⟨e1, e2⟩
    · exact .inr ⟨g, cap, cur, e1, by omega, e3⟩
  · obtain ⟨h3, h4⟩ := h2.t i v p hv hp
    exact ⟨by omega, h4⟩
theorem OnlyAt.trans {g : Nat} {a b c : World} (h : OnlyAt g a b) (k : OnlyAt g b c) : OnlyAt g a c := ⟨k.os.trans h.os, k.tape.trans h.tape, k.output.trans h.output, k.size.trans h.size, fun i hi => (k.block i hi).trans (h.block i hi)⟩
theorem st_over {w : World} {r : Nat} {T : TypeId} {y0 y1 y2 y3 y4 y5 y6 y7 y8 : Value} (h : Blk w r T #[y0, y1, y2, y3, y4, y5, y6, y7, y8]) (v0 v1 v2 v3 v4 v5 v6 v7 v8 : Value) : Blk (((((((((w.setCell ⟨r, 0, none⟩ v0).setCell ⟨r, 1, none⟩ v1).setCell ⟨r, 2, none⟩ v2).setCell ⟨r, 3, none⟩ v3).setCell ⟨r, 4, none⟩ v4).setCell ⟨r, 5, none⟩ v5).setCell ⟨r, 6, none⟩ v6).setCell ⟨r, 7, none⟩ v7).setCell ⟨r, 8, none⟩ v8) r T #[v0, v1, v2, v3, v4, v5, v6, v7, v8] ∧ OnlyAt r w (((((((((w.setCell ⟨r, 0, none⟩ v0).setCell ⟨r, 1, none⟩ v1).setCell ⟨r, 2, none⟩ v2).setCell ⟨r, 3, none⟩ v3).setCell ⟨r, 4, none⟩ v4).setCell ⟨r, 5, none⟩ v5).setCell ⟨r, 6, none⟩ v6).setCell ⟨r, 7, none⟩ v7).setCell ⟨r, 8, none⟩ v8) := by
  refine ⟨?_, ((((((((only_set w r 0 v0).trans (only_set _ r 1 v1)).trans (only_set _ r 2 v2)).trans (only_set _ r 3 v3)).trans (only_set _ r 4 v4)).trans (only_set _ r 5 v5)).trans (only_set _ r 6 v6)).trans (only_set _ r 7 v7)).trans (only_set _ r 8 v8)⟩
  have k := (((((((((h.set_ 0 v0).set_ 1 v1).set_ 2 v2).set_ 3 v3).set_ 4 v4).set_ 5 v5).set_ 6 v6).set_ 7 v7).set_ 8 v8)
  simp only [List.setIfInBounds_toArray, List.set_cons_zero, List.set_cons_succ] at k
  exact k
theorem st_done {w V W : World} {r : Nat} {T : TypeId} {y0 y1 y2 y3 y4 y5 y6 y7 y8 v0 v1 v2 v3 v4 v5 v6 v7 v8 : Value} (hV : (((((((((w.setCell ⟨r, 0, none⟩ v0).setCell ⟨r, 1, none⟩ v1).setCell ⟨r, 2, none⟩ v2).setCell ⟨r, 3, none⟩ v3).setCell ⟨r, 4, none⟩ v4).setCell ⟨r, 5, none⟩ v5).setCell ⟨r, 6, none⟩ v6).setCell ⟨r, 7, none⟩ v7).setCell ⟨r, 8, none⟩ v8) = V) (hW : V.drew = W) (h : Blk w r T #[y0, y1, y2, y3, y4, y5, y6, y7, y8]) : Blk W r T #[v0, v1, v2, v3, v4, v5, v6, v7, v8] ∧ (∀ i : Nat, i ≠ r → W.heap[i]? = w.heap[i]?) ∧ w.heap.size ≤ W.heap.size ∧ ∀ (b : Nat) (a : World), b ≤ r → Below b a w → Below b a W := by
  obtain ⟨h1, h2⟩ := st_over h v0 v1 v2 v3 v4 v5 v6 v7 v8
  rw [hV] at h1 h2
  subst hW
  exact ⟨h1.drew, h2.block, Nat.le_of_eq h2.size.symm, fun b a hb ha => (ha.trans (below_only h2 hb)).drew⟩
theorem Sto.up {w : World} {b b' q : Nat} {o : Deal} (h : Sto w b q o) (hb : b ≤ b') : Sto w b' q o := by
  obtain ⟨h1, h2, h3, dq, ds, h4, h5, h6, h7⟩ := h
  exact ⟨by omega, h2, by omega, dq, ds, h4, h5, by omega, h7⟩
theorem beg_bd {o : Deal} (ho : o.Ok) : Bd o.b o.M (begM o) 1000000000000 := by
  have hP := ho.P
  have hU := unitN_bd o.b
  constructor <;> simp only [begM, TS.add] <;> omega
def evF (l : List Ev) : Flw := ⟨fun v w => Evs w v l, fun h hb => h.keep fun i _ hB => hb.block i hB.lt⟩
def telF (q : Nat) (S : Int) (l : List Ev) : Flw := ⟨fun v w => ∃ ev, v = .agg #[.pointer (some ⟨q, 0, none⟩), .int .i64 0, .int .i64 0, .int .i64 0, .int .u64 0, .int .i64 0, .int .i64 0, .int .i64 0, .int .i64 0, .int .u8 0, .int .i32 S, ev, .int .i64 0, .slice none 0 0] ∧ Evs w ev l, fun ⟨ev, h1, h2⟩ hb => ⟨ev, h1, h2.keep fun i _ hB => hb.block i hB.lt⟩⟩
/-- Where a story is told. -/
structure Run (w0 : World) (b0 g : Nat) (sp : Value) (o : Deal) (thr : Int) (y : TS) (k : Nat) (w : World) (d : Int) (l : List Ev) (x : TS) (Z : Int) : Prop where
  tel : Tel w b0 g sp d l x
  low : Below b0 w0 w
  end_ : tellN o (thr + 1 - d).toNat d x l = y
  ok : ∀ e ∈ l, EvOk e
  bd : Bd o.b o.M x Z
  few : Few9 x Z
  zz : Z + 1000000000000 * (l.length : Int) + 1000000000 * ((o.M : Int) - x.m) + 10000000000 * (thr + 1 - d) ≤ 100000000000000000
  dd : 0 ≤ d ∧ d ≤ thr + 1
  len : (thr + 1 - d).toNat ≤ k
theorem Run.next {w0 w w' : World} {b0 g k : Nat} {sp : Value} {o : Deal} {thr d : Int} {y x : TS} {l : List Ev} {Z : Int} (h : Run w0 b0 g sp o thr y k w d l x Z) (ho : o.Ok) (hd : d ≤ thr) (ht : Tel w' b0 g sp (d + 1) (hapN o.n d l x).2 (endM o d (hapN o.n d l x).1)) (hl : Below b0 w0 w') (hthr : thr < 3652058) :
    Run w0 b0 g sp o thr y (k - 1) w' (d + 1) (hapN o.n d l x).2 (endM o d (hapN o.n d l x).1) (Z + 1000000000000 * ((l.length : Int) - (hapN o.n d l x).2.length) + 1000000000 * (((endM o d (hapN o.n d l x).1).m : Int) - x.m) + 10000000000) := by
  obtain ⟨-, -, h3, h4, h5, h6, h7, h8, h9⟩ := h
  obtain ⟨g1, g2, g3, j, g4⟩ := Bd.haps (n := o.n) (day := d) l x Z h5 h4
  have gf := Few9.haps (n := o.n) (day := d) l x Z h6
  obtain ⟨e1, e2⟩ := g1.end_ ho (day := d) h8.1 (by omega)
  have ef := gf.end_ (o := o) (day := d)
  rw [g3] at e1 e2 ef
  have hk : (thr + 1 - d).toNat = (thr + 1 - (d + 1)).toNat + 1 := by omega
  refine ⟨ht, hl, ?_, ?_, e1, ef, ?_, ⟨by omega, by omega⟩, by omega⟩
  · rw [← h3, hk]
    conv => rhs; unfold tellN
  · rw [g4]
    exact fun e he => h4 e (List.mem_of_mem_drop he)
  · omega
theorem Tel.dayS {w : World} {b0 g : Nat} {sp : Value} {day : Int} {l : List Ev} {x : TS} (h : Tel w b0 g sp day l x) (d : Int) : Tel (w.setCell ⟨g, 10, none⟩ (.int .i32 d)) b0 g sp d l x :=
  h.only (only_set w g 10 _) rfl fun ev en hB => by
    have := hB.set_ 10 (.int .i32 d)
    simpa [telC] using this
def TellPost (X : TS) (w : World) (e : Ending) (w' : World) : Prop := ∃ en, e = .returned (.tuple #[stV X, en]) ∧ Below w.heap.size w w' ∧ Ents w' w.heap.size en X.L
theorem infoTel9 : (Tryz.prog.info? 96).map (·.size) = some 14 := by kernel_rfl
set_option maxRecDepth 100000 in
set_option maxHeartbeats 8000000 in
theorem Tell_any {o : Deal} (ho : o.Ok) {q : Nat} (w : World) (hs : Sto w w.heap.size q o) (lv : Value) (l9 : List Ev) (htd : ∀ W, Below w.heap.size w W → Calls Tryz.prog 23 #[.pointer (some ⟨q, 0, none⟩), lv] W (ToF (evF l9) W)) (hok : ∀ e ∈ l9, EvOk e) (hn : l9.length ≤ 1000) (thr : Int) (ht : o.S ≤ thr + 1 ∧ thr ≤ 3640000) :
    Calls Tryz.prog 11 #[.pointer (some ⟨q, 0, none⟩), lv, .int .i32 thr] w (TellPost (tellN o (thr + 1 - o.S).toNat o.S (begM o) l9) w) := by
  obtain ⟨Y, hY⟩ : ∃ Y, tellN o (thr + 1 - o.S).toNat o.S (begM o) l9 = Y := ⟨_, rfl⟩
  rw [hY]
  have hP := ho.P
  have hS0 := ho.S
  have hM0 := ho.M
  have hab := b_alloc w (.cells #[.int .i64 0, .int .i64 0, .int .i64 0, .int .u64 0, .int .i64 0, .int .i64 0, .int .i64 0, .int .i64 0, .int .u8 0] 52)
  have hbe := Blk.new w 52 #[.int .i64 0, .int .i64 0, .int .i64 0, .int .u64 0, .int .i64 0, .int .i64 0, .int .i64 0, .int .i64 0, .int .u8 0]
  obtain ⟨W1, hW⟩ : ∃ W, w.alloc (.cells #[.int .i64 0, .int .i64 0, .int .i64 0, .int .u64 0, .int .i64 0, .int .i64 0, .int .i64 0, .int .i64 0, .int .u8 0] 52) = W := ⟨_, rfl⟩
  obtain ⟨rb, hE⟩ : ∃ j, w.heap.size = j := ⟨_, rfl⟩
  have hs1 := hs.below hab
  rw [hW] at hab hbe hs1
  have hR1 : w.heap.size < W1.heap.size := hbe.lt
  have hRB : w.heap.size ≤ w.heap.size := Nat.le_refl _
  obtain ⟨-, -, -, dq, dcs, hSB, -, -, -⟩ := id hs1
  have HTD := Lib.hid (show ∀ W, Below W1.heap.size W1 W → Calls Tryz.prog 23 #[.pointer (some ⟨q, 0, none⟩), lv] W (ToF (evF l9) W) from fun W hW => htd W (hab.trans (hW.mono hab.size)))
  have HQ := Lib.hid hSB
  have HS1 := Lib.hid (show Sto W1 W1.heap.size q o from hs1.up (Nat.le_of_lt hR1))
  have HAB := Lib.hid hab
  rw [hE] at hbe
  have HR := Lib.hid hbe
  have HRB := Lib.hid (show w.heap.size ≤ rb from Nat.le_of_eq hE)
  clear hRB
  have HW := Lib.hid hW
  have HE := Lib.hid hE
  have hlt1 : w.heap.size < W1.heap.size := hR1
  have H0 : ∀ g wr, Tel wr W1.heap.size g (.pointer (some ⟨q, 0, none⟩)) o.S l9 (begM o) → Below W1.heap.size W1 wr → Run W1 W1.heap.size g (.pointer (some ⟨q, 0, none⟩)) o thr Y (thr + 1 - o.S).toNat wr o.S l9 (begM o) 1000000000000 := fun g wr h1 h2 =>
    ⟨h1, h2, hY, hok, beg_bd ho, ⟨by show ((begM o).L.length : Int) * 1000000000 ≤ _; simp [begM, TS.add]⟩, by show (1000000000000 : Int) + _ + 1000000000 * ((o.M : Int) - ((0 : Nat) : Int)) + _ ≤ _; omega, by omega, Nat.le_refl _⟩
  have H0 := Lib.hid H0
  have HLT := Lib.hid (show w.heap.size ≤ W1.heap.size from Nat.le_of_lt hlt1)
  have HO := Lib.hid ho
  have s6 := hSB.cell 6
  simp at s6
  have hg1 : ¬ (3640000 : Int) < thr := by omega
  have hg2 : ¬ thr + 1 < o.S := by omega
  have hw1 : -2147483648 ≤ thr + 1 := by omega
  have hw2 : thr + 1 ≤ 2147483647 := by omega
  have HT := Lib.hid ht
  have HS0 := Lib.hid hS0
  clear hs htd hok hn ht hP hS0 hM0 hab hbe hW hs1 hSB hY ho hE hlt1 hR1
  have LD3_0 : ∀ W', Below W1.heap.size W1 W' → (Instr.loadAt 26 (.pointer (some ⟨q, 6, none⟩))).run Tryz.prog W' = .ok (.int .i32 o.S) W' := fun W' hb' => by
    have x0 := (HQ.out.below hb' HQ.out.lt).cell 6
    simp at x0
    go_simp
  go_enter Tryz.func11, Tryz.ntmps11
  go_upto_region 1 with (fail)
  rw [HW.out, HE.out]
  clear HW
  go_upto_region 3 with (fail)
  refine wp_region_flow_lst _ [some 26, some 27, some 28, some 29, some 30, some 31, some 32, some 33, some 34, some 35, some 8] (fun i => ([.is (.pointer (some ⟨q, 0, none⟩)), .is (.pointer (some ⟨q, 0, none⟩)), .is (.pointer (some ⟨q, 0, none⟩)), .is (.pointer (some ⟨q, 1, none⟩)), .is (.pointer (some ⟨q, 6, none⟩)), .is (.int .i32 o.S), .is (.pointer (some ⟨q, 0, none⟩)), .is (lv), evF l9, telF q o.S l9, boxF W1.heap.size 96 #[.pointer none, .int .i64 0, .int .i64 0, .int .i64 0, .int .u64 0, .int .i64 0, .int .i64 0, .int .i64 0, .int .i64 0, .int .u8 0, .int .i32 0, .slice none 0 0, .int .i64 0, .slice none 0 0]] : List Flw).getD i .any) (by rfl) (by kernel_rfl) (by kernel_rfl) (by kernel_rfl) (by rfl) (by rfl) ?_ ?_
  · skip
    refine ⟨step_free rfl (fun aF wF hs hb => ?_), ?_⟩
    · obtain ⟨x0, -⟩ := hs
      have e0 : aF.eval (.tmp 0) = .pointer (some ⟨q, 0, none⟩) := x0
      exact opC_move e0 ⟨rfl, below_same wF⟩
    refine ⟨step_free rfl (fun aF wF hs hb => ?_), ?_⟩
    · obtain ⟨x0, -⟩ := hs
      have e0 : aF.eval (.tmp 0) = .pointer (some ⟨q, 0, none⟩) := x0
      exact opC_move e0 ⟨rfl, below_same wF⟩
    refine ⟨step_free rfl (fun aF wF hs hb => ?_), ?_⟩
    · obtain ⟨x0, -⟩ := hs
      have e0 : aF.eval (.tmp 27) = .pointer (some ⟨q, 0, none⟩) := x0
      refine opC_value (v := .pointer (some ⟨q, 0, none⟩)) ?_ ⟨rfl, below_same wF⟩
      have t0 := ev_of e0
      go_simp
    refine ⟨step_free rfl (fun aF wF hs hb => ?_), ?_⟩
    · obtain ⟨x0, -⟩ := hs
      have e0 : aF.eval (.tmp 28) = .pointer (some ⟨q, 0, none⟩) := x0
      refine opC_value (v := .pointer (some ⟨q, 1, none⟩)) ?_ ⟨rfl, below_same wF⟩
      have t0 := ev_of e0
      go_simp
    refine ⟨step_free rfl (fun aF wF hs hb => ?_), ?_⟩
    · obtain ⟨x0, -⟩ := hs
      have e0 : aF.eval (.tmp 29) = .pointer (some ⟨q, 1, none⟩) := x0
      refine opC_value (v := .pointer (some ⟨q, 6, none⟩)) ?_ ⟨rfl, below_same wF⟩
      have t0 := ev_of e0
      go_simp
    refine ⟨step_free rfl (fun aF wF hs hb => ?_), ?_⟩
    · obtain ⟨x0, -⟩ := hs
      have e0 : aF.eval (.tmp 30) = .pointer (some ⟨q, 6, none⟩) := x0
      exact opC_load e0 (LD3_0 wF hb) ⟨rfl, below_same wF⟩
    refine ⟨step_free rfl (fun aF wF hs hb => ?_), ?_⟩
    · obtain ⟨x0, -⟩ := hs
      have e0 : aF.eval (.tmp 0) = .pointer (some ⟨q, 0, none⟩) := x0
      exact opC_move e0 ⟨rfl, below_same wF⟩
    refine ⟨step_free rfl (fun aF wF hs hb => ?_), ?_⟩
    · obtain ⟨x0, -⟩ := hs
      have e0 : aF.eval (.tmp 1) = lv := x0
      exact opC_move e0 ⟨rfl, below_same wF⟩
    refine ⟨step_free rfl (fun aF wF hs hb => ?_), ?_⟩
    · obtain ⟨x0, x1, -⟩ := hs
      have e0 : aF.eval (.tmp 32) = .pointer (some ⟨q, 0, none⟩) := x0
      have e1 : aF.eval (.tmp 33) = lv := x1
      exact opC_callF (args := #[.pointer (some ⟨q, 0, none⟩), lv]) (enters_of Tryz.func23 (by kernel_rfl) rfl) (by simp [e0, e1]) (HTD.out wF hb) (fun _ _ h1 h2 => ⟨h1, h2⟩)
    refine ⟨step_free rfl (fun aF wF hs hb => ?_), ?_⟩
    · obtain ⟨x0, x1, x2, -⟩ := hs
      have e0 : aF.eval (.tmp 26) = .pointer (some ⟨q, 0, none⟩) := x0
      have e1 : aF.eval (.tmp 31) = .int .i32 o.S := x1
      have e2 : (evF l9).p (aF.eval (.tmp 34)) wF := x2
      obtain ⟨ev, he⟩ : ∃ ev, aF.eval (.tmp 34) = ev := ⟨_, rfl⟩
      rw [he] at e2
      obtain ⟨A9, c9, rfl, -⟩ := id e2
      refine opC_value (v := .agg #[.pointer (some ⟨q, 0, none⟩), .int .i64 0, .int .i64 0, .int .i64 0, .int .u64 0, .int .i64 0, .int .i64 0, .int .i64 0, .int .i64 0, .int .u8 0, .int .i32 o.S, (.slice A9 l9.length c9), .int .i64 0, .slice none 0 0]) ?_ ⟨⟨_, rfl, e2⟩, below_same wF⟩
      have t0 := ev_of e0
      have t1 := ev_of e1
      have t2 := ev_of he
      simp [execOp, go_sem, t0, t1, t2]
    refine ⟨step_free rfl (fun aF wF hs hb => ?_), ?_⟩
    · exact opC_alloc (by kernel_rfl) ⟨⟨wF.heap.size, rfl, hb.size, heap_alloc_new wF _⟩, b_alloc wF _⟩
    exact trivial
  intro fv w2 hf2 hb2
  obtain ⟨g, e8, hg, hgk⟩ : (boxF W1.heap.size 96 #[.pointer none, .int .i64 0, .int .i64 0, .int .i64 0, .int .u64 0, .int .i64 0, .int .i64 0, .int .i64 0, .int .i64 0, .int .u8 0, .int .i32 0, .slice none 0 0, .int .i64 0, .slice none 0 0]).p (fv 10) w2 := hf2 10 8 rfl
  obtain ⟨ev, e35, hev⟩ : (telF q o.S l9).p (fv 9) w2 := hf2 9 35 rfl
  simp only [putF, Act.put, List.setIfInBounds_toArray, List.set_cons_zero, List.set_cons_succ]
  simp only [e8, e35]
  refine opC_storeM (vs := #[.pointer (some ⟨q, 0, none⟩), .int .i64 0, .int .i64 0, .int .i64 0, .int .u64 0, .int .i64 0, .int .i64 0, .int .i64 0, .int .i64 0, .int .u8 0, .int .i32 o.S, ev, .int .i64 0, .slice none 0 0]) rfl rfl hgk (by simp) infoTel9 (by simp; repeat' (first | exact rfl | exact Evs.one hev | constructor)) ?_
  intro w3 ho3 hk3
  rw [putL_all (by rfl)] at hk3
  have hb3 : Below W1.heap.size W1 w3 := hb2.trans (below_only ho3 hg)
  have t3 : Tel w3 W1.heap.size g (.pointer (some ⟨q, 0, none⟩)) o.S l9 ⟨0, 0, 0, 0, 0, 0, 0, 0, 0, 0, []⟩ := ⟨ev, .slice none 0 0, hk3, hg, ⟨[], OwnS.nil_ w3 _ _, ⟨rfl, fun i v x hv => by simp at hv, fun i v x hv => by simp at hv, fun i v p hv => by simp at hv⟩⟩, hev.keep fun i cs hB => ho3.block i fun e => by
    subst e
    exact neEvTe (blk_type hB hgk)⟩
  have T3 := Lib.hid t3
  have B3 := Lib.hid hb3
  clear hf2 hb2 hgk e8 e35 hev ho3 hk3 hb3 t3 s6 hg1 hg2 HTD HQ LD3_0
  go_wp2_with fail
  refine (board_any HO.out w3 T3.out (HS1.out.below B3.out) B3.out.size).mono ?_
  rintro e w4 ⟨rfl, b4, t4⟩
  have R4 := Lib.hid (H0.out g w4 t4 (B3.out.trans b4))
  clear b4 t4 T3 B3 H0
  go_wp2
  go_loopg [] (thr + 1 - o.S).toNat (fun k wr => ∃ (d : Int) (l : List Ev) (x : TS) (Z : Int), Hid (Run W1 W1.heap.size g (.pointer (some ⟨q, 0, none⟩)) o thr Y k wr d l x Z))
  case atStart => exact ⟨_, _, _, _, R4⟩
  case round =>
    obtain ⟨d, l, x, Z, HH⟩ := hrel
    have c10 := HH.out.tel.cells.2.2.2.2.2.2.2.2.2.2.1
    have hhap := happen_any wr HH.out.tel (HS1.out.below HH.out.low) HH.out.low.size HH.out.ok HH.out.bd HH.out.few (by have := HH.out.zz; have := HH.out.dd; have := HH.out.bd.m; omega)
    have HHP := Lib.hid hhap
    clear hhap
    by_cases hd : d ≤ thr
    · have HD := Lib.hid hd
      obtain ⟨g1, g2, g3, kd, g4⟩ := Bd.haps (n := o.n) (day := d) l x Z HH.out.bd HH.out.ok
      have gf := Few9.haps (n := o.n) (day := d) l x Z HH.out.few
      have hend := fun W (t : Tel W W1.heap.size g (.pointer (some ⟨q, 0, none⟩)) d (hapN o.n d l x).2 (hapN o.n d l x).1) (s : Sto W W1.heap.size q o) (b : W1.heap.size ≤ W.heap.size) => end_any HO.out W t s b g1 gf (by have := HH.out.zz; have := HH.out.dd; have := HH.out.bd.m; rw [g3]; omega) ⟨HH.out.dd.1, by have := HT.out; omega⟩
      have HEN := Lib.hid hend
      have hnx := fun w' (t : Tel w' W1.heap.size g (.pointer (some ⟨q, 0, none⟩)) (d + 1) (hapN o.n d l x).2 (endM o d (hapN o.n d l x).1)) (b : Below W1.heap.size W1 w') => HH.out.next HO.out hd t b (by have := HT.out; omega)
      have HNX := Lib.hid hnx
      have HGK := Lib.hid (show gk - 1 < gk by have := HH.out.len; omega)
      have hw5 : -2147483648 ≤ d + 1 := by have := HH.out.dd; omega
      have hw6 : d + 1 ≤ 2147483647 := by have := HT.out; omega
      clear g1 g2 g3 g4 gf hend hnx
      go_wp2_with fail
      refine HHP.out.mono ?_
      rintro e w5 ⟨rfl, b5, t5⟩
      have T5 := Lib.hid t5
      have B5 := Lib.hid (HH.out.low.trans b5)
      clear b5 t5 c10
      go_wp2_with fail
      refine (HEN.out w5 T5.out (HS1.out.below B5.out) B5.out.size).mono ?_
      rintro e w6 ⟨rfl, b6, t6⟩
      have T6 := Lib.hid t6
      have B6 := Lib.hid (B5.out.trans b6)
      have d10 := t6.cells.2.2.2.2.2.2.2.2.2.2.1
      have f10 := t6.cells.2.2.2.2.2.2.2.2.2.2.2.2 10
      clear b6 t6 T5 B5
      go_wp2_with fail
      go_roundg (gk - 1)
      case measure => exact HGK.out
      case rel => exact ⟨d + 1, _, _, _, Lib.hid (HNX.out _ (T6.out.dayS (d + 1)) (B6.out.trans ((Below.refl _ w6).setCell T6.out.base (p := ⟨g, 10, none⟩) (.int .i32 (d + 1)))))⟩
    · have hd' : thr < d := by omega
      have hd2 : d = thr + 1 := by have := HH.out.dd; omega
      have hy := HH.out.end_
      rw [show (thr + 1 - d).toNat = 0 by omega] at hy
      have HY := Lib.hid (show (hapN o.n d l x).1 = Y from hy)
      clear hd hy hd2
      go_wp2_with fail
      refine HHP.out.mono ?_
      rintro e w5 ⟨rfl, b5, t5⟩
      have B5 := Lib.hid (HH.out.low.trans b5)
      rw [HY.out] at t5
      obtain ⟨ev5, en5, hT5, -, hEn5, -⟩ := id t5
      have HT5 := Lib.hid hT5
      have HEN5 := Lib.hid hEn5
      have R5 := Lib.hid (HR.out.below B5.out HR.out.lt)
      have d1 := hT5.cell 1
      have d2 := hT5.cell 2
      have d3 := hT5.cell 3
      have d4 := hT5.cell 4
      have d5 := hT5.cell 5
      have d6 := hT5.cell 6
      have d7 := hT5.cell 7
      have d8 := hT5.cell 8
      have d9 := hT5.cell 9
      have d13 := hT5.cell 13
      simp [telC] at d1 d2 d3 d4 d5 d6 d7 d8 d9 d13
      clear b5 t5 c10 hT5 hEn5 hd'
      have r0 := R5.out.cell 0
      have r1 := R5.out.cell 1
      have r2 := R5.out.cell 2
      have r3 := R5.out.cell 3
      have r4 := R5.out.cell 4
      have r5 := R5.out.cell 5
      have r6 := R5.out.cell 6
      have r7 := R5.out.cell 7
      have r8 := R5.out.cell 8
      have fz := R5.out.frozen
      have z0 := fz 0
      have z1 := fz 1
      have z2 := fz 2
      have z3 := fz 3
      have z4 := fz 4
      have z5 := fz 5
      have z6 := fz 6
      have z7 := fz 7
      have z8 := fz 8
      simp at r0 r1 r2 r3 r4 r5 r6 r7 r8
      clear fz
      go_upto_region 10 with (fail)
      go_region
      obtain ⟨V9, hV9⟩ : ∃ V, (((((((((w5.setCell ⟨rb, 0, none⟩ (.int .i64 Y.f)).setCell ⟨rb, 1, none⟩ (.int .i64 Y.i)).setCell ⟨rb, 2, none⟩ (.int .i64 Y.p)).setCell ⟨rb, 3, none⟩ (.int .u64 (Y.c : Int))).setCell ⟨rb, 4, none⟩ (.int .i64 Y.d)).setCell ⟨rb, 5, none⟩ (.int .i64 Y.s)).setCell ⟨rb, 6, none⟩ (.int .i64 Y.r)).setCell ⟨rb, 7, none⟩ (.int .i64 Y.h)).setCell ⟨rb, 8, none⟩ (.int .u8 (Y.t : Int))) = V := ⟨_, rfl⟩
      rw [hV9]
      obtain ⟨W9, hW9⟩ : ∃ W, V9.drew = W := ⟨_, rfl⟩
      rw [hW9]
      obtain ⟨k9, o9, s9, hl9⟩ := st_done hV9 hW9 R5.out
      have l9 := hl9 _ _ HRB.out (HAB.out.trans (B5.out.mono HLT.out))
      clear hV9
      clear hl9
      have e9 : Ents W9 w.heap.size en5 Y.L := (HEN5.out.keep s9 fun i T cs hb hT => o9 i fun e => by
        subst e
        have := blk_type hb R5.out
        rcases hT with rfl | rfl
        · exact neEnSt this
        · exact neLeSt this).lower HLT.out
      have K9 := Lib.hid k9
      have L9 := Lib.hid l9
      have E9 := Lib.hid e9
      have y0 := k9.cell 0
      have y1 := k9.cell 1
      have y2 := k9.cell 2
      have y3 := k9.cell 3
      have y4 := k9.cell 4
      have y5 := k9.cell 5
      have y6 := k9.cell 6
      have y7 := k9.cell 7
      have y8 := k9.cell 8
      simp at y0 y1 y2 y3 y4 y5 y6 y7 y8
      clear k9 l9 o9 s9 hW9 e9 r0 r1 r2 r3 r4 r5 r6 r7 r8 z0 z1 z2 z3 z4 z5 z6 z7 z8 d1 d2 d3 d4 d5 d6 d7 d8 d9 d13
      go_wp2_with fail
      exact bodyPost_ret (v := .tuple #[stV Y, en5]) (by simp [results, Tryz.results11, go_sem, Result.andThen, y0, y1, y2, y3, y4, y5, y6, y7, y8, stV]) rfl ⟨en5, rfl, L9.out, E9.out⟩
end Go.Proofs.YtpbfipeinblfgaaGreatDoor
