/-
A teller's methods: board, accrue, regain, waive. Condition: the teller is there.
A teller's payments of what was lost. Condition: the teller is there.
A teller's fees waived. Condition: the teller is there.
A teller takes a payment of what is owed. Condition: the teller is there.
How many entries there are: no more than what is counted allows. No condition.
A teller tells an event. Condition: the teller is there.
-/
import Derived.Test.YtpbfipeinblfgaaGreatDoorSyEQ9
import Derived.Test.YtpbfipeinblfgaaGreatDoorYldDQ9
import Derived.Test.YtpbfipeinblfgaaGreatDoorSyKQ9
import Derived.RegionTactic
import Derived.Test.YtpbfipeinblfgaaGreatDoorLvlAQ9
import Derived.Test.YtpbfipeinblfgaaGreatDoorSyCQ9
namespace Go.Proofs.YtpbfipeinblfgaaGreatDoor
open Go.ChangeShapes Go.WideShapes Go.ChangeAt Go.RowKit Go.Shelf

set_option maxRecDepth 100000 in
set_option maxHeartbeats 4000000 in
theorem board_any {o : Deal} (ho : o.Ok) {b0 g q : Nat} {l : List Ev} (w : World) (h : Tel w b0 g (.pointer (some ⟨q, 0, none⟩)) o.S l ⟨0, 0, 0, 0, 0, 0, 0, 0, 0, 0, []⟩) (hs : Sto w b0 q o) (hb : b0 ≤ w.heap.size) :
    Calls Tryz.prog 24 #[.pointer (some ⟨g, 0, none⟩)] w (TelPost w b0 g (.pointer (some ⟨q, 0, none⟩)) o.S l (begM o)) := by
  obtain ⟨c0, -, -, c3, -, -, -, -, -, c9, -, -, fz⟩ := h.cells
  have f3 := fz 3
  have f9 := fz 9
  obtain ⟨_, _, _, dq, ds, hS, -, -, -⟩ := id hs
  have s2 := hS.cell 2
  simp at s2
  have hP := ho.P
  have T1 := Lib.hid ((h.set (k := 3) (v := .int .i64 o.P) (y := ⟨0, 0, o.P, 0, 0, 0, 0, 0, 0, 0, []⟩) rfl (fun ev en => telC_3 _ _ _ ev en _)).set (k := 9) (v := .int .u8 ((1 : Nat) : Int)) (y := ⟨0, 0, o.P, 0, 0, 0, 0, 0, 1, 0, []⟩) rfl (fun ev en => telC_9 _ _ _ ev en _))
  have B1 := Lib.hid ((h.low hb 3 (.int .i64 o.P)).setCell h.base (p := ⟨g, 9, none⟩) (.int .u8 ((1 : Nat) : Int)))
  have HS := Lib.hid hs
  have HB := Lib.hid hb
  clear h hs hb fz hS
  go_enter Tryz.func24, Tryz.ntmps24
  go_wp2_with fail
  refine (debit_any 2 (o.P) _).mono ?_
  rintro e w2 ⟨rfl, b2⟩
  have T2 := Lib.hid (T1.out.below b2)
  have B2 := Lib.hid (B1.out.trans (b2.mono (Nat.le_trans HB.out B1.out.size)))
  clear T1 B1 b2
  go_wp2_with fail
  refine (credit_any 1 (o.P) (by omega) _).mono ?_
  rintro e w3 ⟨rfl, b3⟩
  have T3 := Lib.hid (T2.out.below b3)
  have B3 := Lib.hid (B2.out.trans (b3.mono (Nat.le_trans HB.out B2.out.size)))
  clear T2 B2 b3
  go_wp2_with fail
  have hbk := Blk.new w3 99 #[.int .u8 ((2 : Nat) : Int), .int .i64 (o.P), .int .u8 ((1 : Nat) : Int), .int .i64 (-(o.P))]
  have hab := b_alloc w3 (.cells #[.int .u8 ((2 : Nat) : Int), .int .i64 (o.P), .int .u8 ((1 : Nat) : Int), .int .i64 (-(o.P))] 99)
  have T4 := Lib.hid (T3.out.below hab)
  have B4 := Lib.hid (B3.out.trans (hab.mono (Nat.le_trans HB.out B3.out.size)))
  have hr := Rs.blkS (T := legT) (l := [(2, o.P), (1, -(o.P))]) hbk (by rfl)
  refine (post_any _ T4.out (HS.out.below B4.out) (Nat.le_trans HB.out B4.out.size) (by simp) 1 0 _ 2 2 _ _ hr rfl (by omega) (Nat.le_refl _) ?_).mono ?_
  · intro u hu
    simp at hu
    rcases hu with rfl | rfl <;> (unfold LegIn; dsimp only; omega)
  rintro e w5 ⟨rfl, b5, t5⟩
  have T5 := Lib.hid t5
  have B5 := Lib.hid (B4.out.trans b5)
  clear t5 b5 hr hbk hab T3 B3 T4 B4
  go_wp2_with fail
  go_end0
  exact ⟨rfl, B5.out, T5.out⟩
end Go.Proofs.YtpbfipeinblfgaaGreatDoor
namespace Go.Proofs.YtpbfipeinblfgaaGreatDoor
open Go.ChangeShapes Go.WideShapes Go.ChangeAt Go.RowKit Go.Shelf

set_option maxRecDepth 100000 in
set_option maxHeartbeats 4000000 in
theorem regain_any {o : Deal} {b0 g q : Nat} {day : Int} {l : List Ev} {x : TS} (w : World) (h : Tel w b0 g (.pointer (some ⟨q, 0, none⟩)) day l x) (hs : Sto w b0 q o) (hb : b0 ≤ w.heap.size) (hL : x.L.length ≤ 1000000000) (e : Ev) (he : EvOk e) (hr : 0 ≤ x.r ∧ x.r ≤ 1000000000000000000) (hh : 0 ≤ x.h ∧ x.h ≤ 1000000000000000000) :
    Calls Tryz.prog 105 #[.pointer (some ⟨g, 0, none⟩), .agg #[.int .u32 (e.s : Int), .int .i32 e.d, .int .u8 (e.k : Int), .int .i64 e.a]] w (TelPost w b0 g (.pointer (some ⟨q, 0, none⟩)) day l (regM o.n day x e)) := by
  obtain ⟨he1, he2, he3, he4⟩ := he
  have hab := b_alloc w (.cells #[.int .u32 (e.s : Int), .int .i32 e.d, .int .u8 (e.k : Int), .int .i64 e.a] 47)
  have hbe := Blk.new w 47 #[.int .u32 (e.s : Int), .int .i32 e.d, .int .u8 (e.k : Int), .int .i64 e.a]
  obtain ⟨W1, hW⟩ : ∃ W, w.alloc (.cells #[.int .u32 (e.s : Int), .int .i32 e.d, .int .u8 (e.k : Int), .int .i64 e.a] 47) = W := ⟨_, rfl⟩
  obtain ⟨eb, hE⟩ : ∃ j, w.heap.size = j := ⟨_, rfl⟩
  have hgl := h.lt
  rw [hW] at hab hbe
  rw [hE] at hbe hgl
  have hne : eb ≠ g := fun e => by omega
  have HNE := Lib.hid hne
  have T1 := Lib.hid (h.below hab)
  have B1 := Lib.hid (hab.mono hb)
  have E1 := Lib.hid hbe
  have HW := Lib.hid hW
  have HEB := Lib.hid hE
  have HS := Lib.hid hs
  have HL := Lib.hid hL
  have HB := Lib.hid hb
  clear h hs hb hL hab hbe hW hE hne hgl
  obtain ⟨-, -, -, -, -, -, -, -, c8, -, -, -, fz⟩ := T1.out.cells
  have f8 := fz 8
  have q3 := E1.out.cell 3
  simp at q3
  clear fz
  have hw1 : -9223372036854775808 ≤ x.h + e.a := by omega
  have hw2 : x.h + e.a ≤ 9223372036854775807 := by omega
  have hw3 : -9223372036854775808 ≤ x.r + e.a := by omega
  have hw4 : x.r + e.a ≤ 9223372036854775807 := by omega
  go_enter Tryz.func105, Tryz.ntmps105
  go_upto_region 1 with (fail)
  rw [HW.out, HEB.out]
  clear HW
  go_region
  clear c8 f8 q3
  have T2 := Lib.hid (T1.out.put (k := 8) (v := .int .i64 (x.h + e.a)) (y := { x with h := x.h + e.a }) rfl (fun ev en => telC_8 _ _ _ ev en _))
  have B2 := Lib.hid (B1.out.trans (T1.out.putB 8 (.int .i64 (x.h + e.a))))
  have E2 := Lib.hid (E1.out.putS HNE.out 8 (.int .i64 (x.h + e.a)))
  obtain ⟨W2, hW2⟩ : ∃ W, (W1.setCell ⟨g, 8, none⟩ (.int .i64 (x.h + e.a))).drew = W := ⟨_, rfl⟩
  rw [hW2] at T2 B2 E2 ⊢
  clear hW2 T1 B1 E1
  obtain ⟨-, -, -, -, -, -, -, c7, -, -, -, -, fz⟩ := T2.out.cells
  have f7 := fz 7
  have q3 := E2.out.cell 3
  simp at q3
  clear fz
  go_upto_region 2 with (fail)
  go_region
  clear c7 f7 q3
  have T3 := Lib.hid (T2.out.put (k := 7) (v := .int .i64 (x.r + e.a)) (y := { x with h := x.h + e.a, r := x.r + e.a }) rfl (fun ev en => telC_7 _ _ _ ev en _))
  have B3 := Lib.hid (B2.out.trans (T2.out.putB 7 (.int .i64 (x.r + e.a))))
  have E3 := Lib.hid (E2.out.putS HNE.out 7 (.int .i64 (x.r + e.a)))
  obtain ⟨W3, hW3⟩ : ∃ W, (W2.setCell ⟨g, 7, none⟩ (.int .i64 (x.r + e.a))).drew = W := ⟨_, rfl⟩
  rw [hW3] at T3 B3 E3 ⊢
  clear hW3 T2 B2 E2
  have LD3_0 : ∀ W', Below W3.heap.size W3 W' → (Instr.loadAt 23 (.pointer (some ⟨eb, 0, none⟩))).run Tryz.prog W' = .ok (.int .u32 (e.s : Int)) W' := fun W' hb' => by
    have x0 := (E3.out.below hb' E3.out.lt).cell 0
    simp at x0
    go_simp
  have LD3_1 : ∀ W', Below W3.heap.size W3 W' → (Instr.loadAt 22 (.pointer (some ⟨eb, 3, none⟩))).run Tryz.prog W' = .ok (.int .i64 e.a) W' := fun W' hb' => by
    have x0 := (E3.out.below hb' E3.out.lt).cell 3
    simp at x0
    go_simp
  go_upto_region 3 with (fail)
  refine wp_region_flow_lst _ [some 26, some 27, some 28, some 29, some 30, some 31, some 32, some 33, some 34, some 35] (fun i => ([.is (.pointer (some ⟨g, 0, none⟩)), .is (.pointer (some ⟨eb, 0, none⟩)), .is (.int .u32 (e.s : Int)), .is (.pointer (some ⟨eb, 3, none⟩)), .is (.int .i64 e.a), .is (.agg #[.int .u8 ((1 : Nat) : Int), .int .i64 (e.a)]), .is (.pointer (some ⟨eb, 3, none⟩)), .is (.int .i64 e.a), .is (.agg #[.int .u8 ((9 : Nat) : Int), .int .i64 (-e.a)]), legF W3.heap.size 2 #[.int .u8 ((1 : Nat) : Int), .int .i64 (e.a), .int .u8 ((9 : Nat) : Int), .int .i64 (-e.a)]] : List Flw).getD i .any) (by rfl) (by kernel_rfl) (by kernel_rfl) (by kernel_rfl) (by rfl) (by rfl) ?_ ?_
  · skip
    refine ⟨step_free rfl (fun aF wF hs hb => ?_), ?_⟩
    · obtain ⟨x0, -⟩ := hs
      have e0 : aF.eval (.tmp 0) = .pointer (some ⟨g, 0, none⟩) := x0
      exact opC_move e0 ⟨rfl, below_same wF⟩
    refine ⟨step_free rfl (fun aF wF hs hb => ?_), ?_⟩
    · obtain ⟨x0, -⟩ := hs
      have e0 : aF.eval (.tmp 3) = .pointer (some ⟨eb, 0, none⟩) := x0
      refine opC_value (v := .pointer (some ⟨eb, 0, none⟩)) ?_ ⟨rfl, below_same wF⟩
      have t0 := ev_of e0
      go_simp
    refine ⟨step_free rfl (fun aF wF hs hb => ?_), ?_⟩
    · obtain ⟨x0, -⟩ := hs
      have e0 : aF.eval (.tmp 27) = .pointer (some ⟨eb, 0, none⟩) := x0
      exact opC_load e0 (LD3_0 wF hb) ⟨rfl, below_same wF⟩
    refine ⟨step_free rfl (fun aF wF hs hb => ?_), ?_⟩
    · obtain ⟨x0, -⟩ := hs
      have e0 : aF.eval (.tmp 3) = .pointer (some ⟨eb, 0, none⟩) := x0
      refine opC_value (v := .pointer (some ⟨eb, 3, none⟩)) ?_ ⟨rfl, below_same wF⟩
      have t0 := ev_of e0
      go_simp
    refine ⟨step_free rfl (fun aF wF hs hb => ?_), ?_⟩
    · obtain ⟨x0, -⟩ := hs
      have e0 : aF.eval (.tmp 29) = .pointer (some ⟨eb, 3, none⟩) := x0
      exact opC_load e0 (LD3_1 wF hb) ⟨rfl, below_same wF⟩
    refine ⟨step_free rfl (fun aF wF hs hb => ?_), ?_⟩
    · obtain ⟨x0, -⟩ := hs
      have e0 : aF.eval (.tmp 30) = .int .i64 e.a := x0
      exact opC_call (args := #[.int .u8 ((1 : Nat) : Int), .int .i64 e.a]) (enters_of Tryz.func56 (by kernel_rfl) rfl) (by simp [e0]; rfl) (debit_any 1 e.a wF) (fun _ h => ⟨rfl, h⟩)
    refine ⟨step_free rfl (fun aF wF hs hb => ?_), ?_⟩
    · obtain ⟨x0, -⟩ := hs
      have e0 : aF.eval (.tmp 3) = .pointer (some ⟨eb, 0, none⟩) := x0
      refine opC_value (v := .pointer (some ⟨eb, 3, none⟩)) ?_ ⟨rfl, below_same wF⟩
      have t0 := ev_of e0
      go_simp
    refine ⟨step_free rfl (fun aF wF hs hb => ?_), ?_⟩
    · obtain ⟨x0, -⟩ := hs
      have e0 : aF.eval (.tmp 32) = .pointer (some ⟨eb, 3, none⟩) := x0
      exact opC_load e0 (LD3_1 wF hb) ⟨rfl, below_same wF⟩
    refine ⟨step_free rfl (fun aF wF hs hb => ?_), ?_⟩
    · obtain ⟨x0, -⟩ := hs
      have e0 : aF.eval (.tmp 33) = .int .i64 e.a := x0
      exact opC_call (args := #[.int .u8 ((9 : Nat) : Int), .int .i64 e.a]) (enters_of Tryz.func57 (by kernel_rfl) rfl) (by simp [e0]; rfl) (credit_any 9 e.a (by omega) wF) (fun _ h => ⟨rfl, h⟩)
    refine ⟨step_free rfl (fun aF wF hs hb => ?_), ?_⟩
    · obtain ⟨x0, x1, -⟩ := hs
      have e0 : aF.eval (.tmp 31) = .agg #[.int .u8 ((1 : Nat) : Int), .int .i64 (e.a)] := x0
      have e1 : aF.eval (.tmp 34) = .agg #[.int .u8 ((9 : Nat) : Int), .int .i64 (-e.a)] := x1
      exact opC_leg2 e0 e1 hb.size
    exact trivial
  intro fv w1 hf hb1
  obtain ⟨gl, el, hgl, hbk⟩ : (legF W3.heap.size 2 #[.int .u8 ((1 : Nat) : Int), .int .i64 (e.a), .int .u8 ((9 : Nat) : Int), .int .i64 (-e.a)]).p (fv 9) w1 := hf 9 35 rfl
  have et : fv 0 = .pointer (some ⟨g, 0, none⟩) := hf 0 26 rfl
  have es : fv 2 = .int .u32 (e.s : Int) := hf 2 28 rfl
  simp only [putF, Act.put, List.setIfInBounds_toArray, List.set_cons_zero, List.set_cons_succ]
  simp only [el, et, es]
  have T4 := Lib.hid (T3.out.below hb1)
  have B4 := Lib.hid (B3.out.trans (hb1.mono (Nat.le_trans HB.out B3.out.size)))
  have hr := Rs.blkS (T := legT) (l := [(1, e.a), (9, -e.a)]) hbk (by rfl)
  refine opC_callK (args := #[.pointer (some ⟨g, 0, none⟩), .int .u8 ((4 : Nat) : Int), .int .u32 (e.s : Int), .slice (some ⟨gl, 0, none⟩) 2 2]) (enters_of Tryz.func55 (by kernel_rfl) rfl) (by simp; try exact ⟨rfl, rfl, rfl, rfl⟩) ?_
  refine (post_any _ T4.out (HS.out.below B4.out) (Nat.le_trans HB.out B4.out.size) HL.out 4 e.s _ 2 2 _ _ hr rfl (by omega) (Nat.le_refl _) ?_).mono ?_
  · intro u hu
    simp at hu
    rcases hu with rfl | rfl <;> (unfold LegIn; dsimp only; omega)
  rintro e9 w9 ⟨rfl, b9, t9⟩
  refine ⟨_, rfl, ?_⟩
  have T5 := Lib.hid t9
  have B5 := Lib.hid (B4.out.trans b9)
  clear t9 b9 hr hbk hf el et es hb1 T3 B3 T4 B4
  go_end0
  exact ⟨rfl, B5.out, T5.out⟩
end Go.Proofs.YtpbfipeinblfgaaGreatDoor
namespace Go.Proofs.YtpbfipeinblfgaaGreatDoor
open Go.ChangeShapes Go.WideShapes Go.ChangeAt Go.RowKit Go.Shelf

set_option maxRecDepth 100000 in
set_option maxHeartbeats 4000000 in
theorem waive_any {o : Deal} {b0 g q : Nat} {day : Int} {l : List Ev} {x : TS} (w : World) (h : Tel w b0 g (.pointer (some ⟨q, 0, none⟩)) day l x) (hs : Sto w b0 q o) (hb : b0 ≤ w.heap.size) (hL : x.L.length ≤ 1000000000) (e : Ev) (he : EvOk e) (hf : 0 ≤ x.f ∧ x.f ≤ 1000000000000000000) :
    Calls Tryz.prog 108 #[.pointer (some ⟨g, 0, none⟩), .agg #[.int .u32 (e.s : Int), .int .i32 e.d, .int .u8 (e.k : Int), .int .i64 e.a]] w (TelPost w b0 g (.pointer (some ⟨q, 0, none⟩)) day l (waiM o.n day x e)) := by
  unfold waiM
  obtain ⟨he1, he2, he3, he4⟩ := he
  have hab := b_alloc w (.cells #[.int .u32 (e.s : Int), .int .i32 e.d, .int .u8 (e.k : Int), .int .i64 e.a] 47)
  have hbe := Blk.new w 47 #[.int .u32 (e.s : Int), .int .i32 e.d, .int .u8 (e.k : Int), .int .i64 e.a]
  obtain ⟨W1, hW⟩ : ∃ W, w.alloc (.cells #[.int .u32 (e.s : Int), .int .i32 e.d, .int .u8 (e.k : Int), .int .i64 e.a] 47) = W := ⟨_, rfl⟩
  obtain ⟨eb, hE⟩ : ∃ j, w.heap.size = j := ⟨_, rfl⟩
  have hgl := h.lt
  rw [hW] at hab hbe
  rw [hE] at hbe hgl
  have hne : eb ≠ g := fun e => by omega
  have HNE := Lib.hid hne
  have T1 := Lib.hid (h.below hab)
  have B1 := Lib.hid (hab.mono hb)
  have E1 := Lib.hid hbe
  have HW := Lib.hid hW
  have HEB := Lib.hid hE
  have HS := Lib.hid hs
  have HL := Lib.hid hL
  have HB := Lib.hid hb
  clear h hs hb hL hab hbe hW hE hne hgl
  obtain ⟨n, hn⟩ : ∃ n, min x.f e.a = n := ⟨_, rfl⟩
  have hm : ∀ W, Calls Tryz.prog 142 #[.int .i64 x.f, .int .i64 e.a] W (Ret (.int .i64 n) W) := fun W => by
    have := Least_any x.f e.a W
    rw [hn] at this
    exact this.mono fun e9 w9 h9 => ⟨h9.1, by rw [← h9.2]; exact below_same _⟩
  rw [hn]
  have hn0 : 0 ≤ n ∧ n ≤ x.f := by omega
  clear hn
  have HM := Lib.hid hm
  obtain ⟨ev, en, hT, -⟩ := id T1.out
  have HT := Lib.hid hT
  clear hT hm
  have hw1 : -9223372036854775808 ≤ x.f - n := by omega
  have hw2 : x.f - n ≤ 9223372036854775807 := by omega
  have LD1_0 : ∀ W', Below W1.heap.size W1 W' → (Instr.loadAt 22 (.pointer (some ⟨g, 1, none⟩))).run Tryz.prog W' = .ok (.int .i64 x.f) W' := fun W' hb' => by
    have x0 := (HT.out.below hb' HT.out.lt).cell 1
    simp [telC] at x0
    go_simp
  have LD1_1 : ∀ W', Below W1.heap.size W1 W' → (Instr.loadAt 22 (.pointer (some ⟨eb, 3, none⟩))).run Tryz.prog W' = .ok (.int .i64 e.a) W' := fun W' hb' => by
    have x0 := (E1.out.below hb' E1.out.lt).cell 3
    simp at x0
    go_simp
  go_enter Tryz.func108, Tryz.ntmps108
  go_upto_region 1 with (fail)
  rw [HW.out, HEB.out]
  clear HW
  refine wp_region_flow [some 5, some 6, some 7, some 8, some 9, some 10, some 11, some 12, some 13, some 4] (fun i => ([.is (.pointer (some ⟨g, 0, none⟩)), .is (.pointer (some ⟨g, 0, none⟩)), .is (.pointer (some ⟨g, 1, none⟩)), .is (.pointer (some ⟨g, 1, none⟩)), .is (.pointer (some ⟨g, 1, none⟩)), .is (.int .i64 x.f), .is (.pointer (some ⟨eb, 3, none⟩)), .is (.int .i64 e.a), .is (.int .i64 n), .is (.int .i64 n)] : List Flw).getD i .any) (by kernel_rfl) (by kernel_rfl) rfl ?_ ?_
  · skip
    refine ⟨step_free rfl (fun aF wF hs hb => ?_), ?_⟩
    · obtain ⟨x0, -⟩ := hs
      have e0 : aF.eval (.tmp 0) = .pointer (some ⟨g, 0, none⟩) := x0
      exact opC_move e0 ⟨rfl, below_same wF⟩
    refine ⟨step_free rfl (fun aF wF hs hb => ?_), ?_⟩
    · obtain ⟨x0, -⟩ := hs
      have e0 : aF.eval (.tmp 5) = .pointer (some ⟨g, 0, none⟩) := x0
      refine opC_value (v := .pointer (some ⟨g, 0, none⟩)) ?_ ⟨rfl, below_same wF⟩
      have t0 := ev_of e0
      go_simp
    refine ⟨step_free rfl (fun aF wF hs hb => ?_), ?_⟩
    · obtain ⟨x0, -⟩ := hs
      have e0 : aF.eval (.tmp 6) = .pointer (some ⟨g, 0, none⟩) := x0
      refine opC_value (v := .pointer (some ⟨g, 1, none⟩)) ?_ ⟨rfl, below_same wF⟩
      have t0 := ev_of e0
      go_simp
    refine ⟨step_free rfl (fun aF wF hs hb => ?_), ?_⟩
    · obtain ⟨x0, -⟩ := hs
      have e0 : aF.eval (.tmp 7) = .pointer (some ⟨g, 1, none⟩) := x0
      refine opC_value (v := .pointer (some ⟨g, 1, none⟩)) ?_ ⟨rfl, below_same wF⟩
      have t0 := ev_of e0
      go_simp
    refine ⟨step_free rfl (fun aF wF hs hb => ?_), ?_⟩
    · obtain ⟨x0, -⟩ := hs
      have e0 : aF.eval (.tmp 8) = .pointer (some ⟨g, 1, none⟩) := x0
      refine opC_value (v := .pointer (some ⟨g, 1, none⟩)) ?_ ⟨rfl, below_same wF⟩
      have t0 := ev_of e0
      go_simp
    refine ⟨step_free rfl (fun aF wF hs hb => ?_), ?_⟩
    · obtain ⟨x0, -⟩ := hs
      have e0 : aF.eval (.tmp 9) = .pointer (some ⟨g, 1, none⟩) := x0
      exact opC_load e0 (LD1_0 wF hb) ⟨rfl, below_same wF⟩
    refine ⟨step_free rfl (fun aF wF hs hb => ?_), ?_⟩
    · obtain ⟨x0, -⟩ := hs
      have e0 : aF.eval (.tmp 3) = .pointer (some ⟨eb, 0, none⟩) := x0
      refine opC_value (v := .pointer (some ⟨eb, 3, none⟩)) ?_ ⟨rfl, below_same wF⟩
      have t0 := ev_of e0
      go_simp
    refine ⟨step_free rfl (fun aF wF hs hb => ?_), ?_⟩
    · obtain ⟨x0, -⟩ := hs
      have e0 : aF.eval (.tmp 11) = .pointer (some ⟨eb, 3, none⟩) := x0
      exact opC_load e0 (LD1_1 wF hb) ⟨rfl, below_same wF⟩
    refine ⟨step_free rfl (fun aF wF hs hb => ?_), ?_⟩
    · obtain ⟨x0, x1, -⟩ := hs
      have e0 : aF.eval (.tmp 10) = .int .i64 x.f := x0
      have e1 : aF.eval (.tmp 12) = .int .i64 e.a := x1
      exact opC_call (args := #[.int .i64 x.f, .int .i64 e.a]) (enters_of Tryz.func142 (by kernel_rfl) rfl) (by simp [e0, e1]) (HM.out wF) (fun _ h => ⟨rfl, h⟩)
    refine ⟨step_free rfl (fun aF wF hs hb => ?_), ?_⟩
    · obtain ⟨x0, -⟩ := hs
      have e0 : aF.eval (.tmp 13) = .int .i64 n := x0
      exact opC_assign e0 ⟨rfl, below_same wF⟩
    exact trivial
  intro fv w2 hf2 hb2
  have e4 : fv 9 = .int .i64 n := hf2 9 4 rfl
  simp only [putF, Act.put, List.setIfInBounds_toArray, List.set_cons_zero, List.set_cons_succ]
  simp only [e4]
  have T2 := Lib.hid (T1.out.below hb2)
  have B2 := Lib.hid (B1.out.trans (hb2.mono (Nat.le_trans HB.out B1.out.size)))
  have E2 := Lib.hid (E1.out.below hb2 E1.out.lt)
  clear hf2 e4 hb2 HM HT T1 B1 E1 LD1_0 LD1_1
  obtain ⟨-, c1, -, -, -, -, -, -, -, -, -, -, fz⟩ := T2.out.cells
  have f1 := fz 1
  clear fz
  go_upto_region 3 with (fail)
  clear c1 f1
  have T3 := Lib.hid (T2.out.set (k := 1) (v := .int .i64 (x.f - n)) (y := { x with f := x.f - n }) rfl (fun ev en => telC_1 _ _ _ ev en _))
  have B3 := Lib.hid (B2.out.trans ((Below.refl b0 w2).setCell T2.out.base (p := ⟨g, 1, none⟩) (.int .i64 (x.f - n))))
  have E3 := Lib.hid (E2.out.far (p := ⟨g, 1, none⟩) HNE.out (.int .i64 (x.f - n)))
  obtain ⟨W3, hW3⟩ : ∃ W, (w2.setCell ⟨g, 1, none⟩ (.int .i64 (x.f - n))) = W := ⟨_, rfl⟩
  rw [hW3] at T3 B3 E3 ⊢
  clear hW3 T2 B2 E2
  have LD3_0 : ∀ W', Below W3.heap.size W3 W' → (Instr.loadAt 23 (.pointer (some ⟨eb, 0, none⟩))).run Tryz.prog W' = .ok (.int .u32 (e.s : Int)) W' := fun W' hb' => by
    have x0 := (E3.out.below hb' E3.out.lt).cell 0
    simp at x0
    go_simp
  go_upto_region 3 with (fail)
  refine wp_region_flow_lst _ [some 26, some 27, some 28, some 29, some 30, some 31, some 32, some 33] (fun i => ([.is (.pointer (some ⟨g, 0, none⟩)), .is (.pointer (some ⟨eb, 0, none⟩)), .is (.int .u32 (e.s : Int)), .is (.int .i64 n), .is (.agg #[.int .u8 ((7 : Nat) : Int), .int .i64 (n)]), .is (.int .i64 n), .is (.agg #[.int .u8 ((4 : Nat) : Int), .int .i64 (-n)]), legF W3.heap.size 2 #[.int .u8 ((7 : Nat) : Int), .int .i64 (n), .int .u8 ((4 : Nat) : Int), .int .i64 (-n)]] : List Flw).getD i .any) (by rfl) (by kernel_rfl) (by kernel_rfl) (by kernel_rfl) (by rfl) (by rfl) ?_ ?_
  · skip
    refine ⟨step_free rfl (fun aF wF hs hb => ?_), ?_⟩
    · obtain ⟨x0, -⟩ := hs
      have e0 : aF.eval (.tmp 0) = .pointer (some ⟨g, 0, none⟩) := x0
      exact opC_move e0 ⟨rfl, below_same wF⟩
    refine ⟨step_free rfl (fun aF wF hs hb => ?_), ?_⟩
    · obtain ⟨x0, -⟩ := hs
      have e0 : aF.eval (.tmp 3) = .pointer (some ⟨eb, 0, none⟩) := x0
      refine opC_value (v := .pointer (some ⟨eb, 0, none⟩)) ?_ ⟨rfl, below_same wF⟩
      have t0 := ev_of e0
      go_simp
    refine ⟨step_free rfl (fun aF wF hs hb => ?_), ?_⟩
    · obtain ⟨x0, -⟩ := hs
      have e0 : aF.eval (.tmp 27) = .pointer (some ⟨eb, 0, none⟩) := x0
      exact opC_load e0 (LD3_0 wF hb) ⟨rfl, below_same wF⟩
    refine ⟨step_free rfl (fun aF wF hs hb => ?_), ?_⟩
    · obtain ⟨x0, -⟩ := hs
      have e0 : aF.eval (.tmp 4) = .int .i64 n := x0
      exact opC_move e0 ⟨rfl, below_same wF⟩
    refine ⟨step_free rfl (fun aF wF hs hb => ?_), ?_⟩
    · obtain ⟨x0, -⟩ := hs
      have e0 : aF.eval (.tmp 29) = .int .i64 n := x0
      exact opC_call (args := #[.int .u8 ((7 : Nat) : Int), .int .i64 n]) (enters_of Tryz.func56 (by kernel_rfl) rfl) (by simp [e0]; rfl) (debit_any 7 n wF) (fun _ h => ⟨rfl, h⟩)
    refine ⟨step_free rfl (fun aF wF hs hb => ?_), ?_⟩
    · obtain ⟨x0, -⟩ := hs
      have e0 : aF.eval (.tmp 4) = .int .i64 n := x0
      exact opC_move e0 ⟨rfl, below_same wF⟩
    refine ⟨step_free rfl (fun aF wF hs hb => ?_), ?_⟩
    · obtain ⟨x0, -⟩ := hs
      have e0 : aF.eval (.tmp 31) = .int .i64 n := x0
      exact opC_call (args := #[.int .u8 ((4 : Nat) : Int), .int .i64 n]) (enters_of Tryz.func57 (by kernel_rfl) rfl) (by simp [e0]; rfl) (credit_any 4 n (by omega) wF) (fun _ h => ⟨rfl, h⟩)
    refine ⟨step_free rfl (fun aF wF hs hb => ?_), ?_⟩
    · obtain ⟨x0, x1, -⟩ := hs
      have e0 : aF.eval (.tmp 30) = .agg #[.int .u8 ((7 : Nat) : Int), .int .i64 (n)] := x0
      have e1 : aF.eval (.tmp 32) = .agg #[.int .u8 ((4 : Nat) : Int), .int .i64 (-n)] := x1
      exact opC_leg2 e0 e1 hb.size
    exact trivial
  intro fv w1 hf hb1
  obtain ⟨gl, el, hgl, hbk⟩ : (legF W3.heap.size 2 #[.int .u8 ((7 : Nat) : Int), .int .i64 (n), .int .u8 ((4 : Nat) : Int), .int .i64 (-n)]).p (fv 7) w1 := hf 7 33 rfl
  have et : fv 0 = .pointer (some ⟨g, 0, none⟩) := hf 0 26 rfl
  have es : fv 2 = .int .u32 (e.s : Int) := hf 2 28 rfl
  simp only [putF, Act.put, List.setIfInBounds_toArray, List.set_cons_zero, List.set_cons_succ]
  simp only [el, et, es]
  have T4 := Lib.hid (T3.out.below hb1)
  have B4 := Lib.hid (B3.out.trans (hb1.mono (Nat.le_trans HB.out B3.out.size)))
  have hr := Rs.blkS (T := legT) (l := [(7, n), (4, -n)]) hbk (by rfl)
  refine opC_callK (args := #[.pointer (some ⟨g, 0, none⟩), .int .u8 ((6 : Nat) : Int), .int .u32 (e.s : Int), .slice (some ⟨gl, 0, none⟩) 2 2]) (enters_of Tryz.func55 (by kernel_rfl) rfl) (by simp; try exact ⟨rfl, rfl, rfl, rfl⟩) ?_
  refine (post_any _ T4.out (HS.out.below B4.out) (Nat.le_trans HB.out B4.out.size) HL.out 6 e.s _ 2 2 _ _ hr rfl (by omega) (Nat.le_refl _) ?_).mono ?_
  · intro u hu
    simp at hu
    rcases hu with rfl | rfl <;> (unfold LegIn; dsimp only; omega)
  rintro e9 w9 ⟨rfl, b9, t9⟩
  refine ⟨_, rfl, ?_⟩
  have T5 := Lib.hid t9
  have B5 := Lib.hid (B4.out.trans b9)
  clear t9 b9 hr hbk hf el et es hb1 T3 B3 T4 B4
  go_end0
  exact ⟨rfl, B5.out, T5.out⟩
end Go.Proofs.YtpbfipeinblfgaaGreatDoor
namespace Go.Proofs.YtpbfipeinblfgaaGreatDoor
open Go.ChangeShapes Go.WideShapes Go.ChangeAt Go.RowKit Go.Shelf

theorem Tel.onlyS {w w' : World} {b0 g : Nat} {sp ev en : Value} {day : Int} {l : List Ev} {x y : TS} (h : Tel w b0 g sp day l x) (hB : Blk w g 96 (telC sp x day ev en)) (hE : Ents w b0 en x.L) (hV : Evs w ev l) (hw : OnlyAt g w w') (hL : y.L = x.L) (hB' : Blk w' g 96 (telC sp y day ev en)) : Tel w' b0 g sp day l y := by
  refine ⟨ev, en, hB', h.base, ?_, hV.keep fun i cs hb => hw.block i fun e => ?_⟩
  · rw [hL]
    refine hE.keep (by rw [hw.size]; exact Nat.le_refl _) fun i T cs hb hT => hw.block i fun e => ?_
    subst e
    have := blk_type hb hB
    rcases hT with rfl | rfl
    · exact neEnTe this
    · exact neLeTe this
  · subst e
    exact neEvTe (blk_type hb hB)
set_option maxRecDepth 100000 in
set_option maxHeartbeats 8000000 in
theorem pay_any {o : Deal} {b0 g q : Nat} {day : Int} {l : List Ev} {x : TS} (w : World) (h : Tel w b0 g (.pointer (some ⟨q, 0, none⟩)) day l x) (hs : Sto w b0 q o) (hb : b0 ≤ w.heap.size) (hL : x.L.length ≤ 1000000000) (e : Ev) (he : EvOk e) {b M : Nat} {Z : Int} (hBd : Bd b M x Z) (hZ : Z ≤ 100000000000000000) :
    Calls Tryz.prog 106 #[.pointer (some ⟨g, 0, none⟩), .agg #[.int .u32 (e.s : Int), .int .i32 e.d, .int .u8 (e.k : Int), .int .i64 e.a]] w (TelPost w b0 g (.pointer (some ⟨q, 0, none⟩)) day l (payM o.n day x e)) := by
  have hgo := go_bd hBd he.a.1
  have hpay := fun W => Pay_ok (f := x.f) (i := x.i) (p := x.p) (a := e.a) (x := goF x e.a) (y := goI x e.a) (z := goP x e.a) (r := goL x e.a) ⟨hBd.f.1, hBd.i.1, hBd.p.1⟩ he.a.1 (by have := he.a; omega) (by unfold Goes goL goP goI goF; simp) W
  have hless := fun W => Less_ok (f := x.f) (i := x.i) (p := x.p) (x := goF x e.a) (y := goI x e.a) (z := goP x e.a) (a := x.f - goF x e.a) (b := x.i - goI x e.a) (c := x.p - goP x e.a) ⟨hBd.f.1, hBd.i.1, hBd.p.1⟩ ⟨by omega, by omega, by omega⟩ rfl rfl rfl ⟨by omega, by omega, by omega⟩ (by have := hBd.f; omega) (by have := hBd.i; omega) (by have := hBd.p; omega) W
  unfold payM
  obtain ⟨F1, hF1⟩ : ∃ z, goF x e.a = z := ⟨_, rfl⟩
  obtain ⟨I1, hI1⟩ : ∃ z, goI x e.a = z := ⟨_, rfl⟩
  obtain ⟨P1, hP1⟩ : ∃ z, goP x e.a = z := ⟨_, rfl⟩
  obtain ⟨L1, hL1⟩ : ∃ z, goL x e.a = z := ⟨_, rfl⟩
  rw [hF1, hI1, hP1, hL1] at hgo hpay
  rw [hF1, hI1, hP1] at hless
  rw [hF1, hI1, hP1, hL1]
  unfold ov at hpay hless
  obtain ⟨⟨g1, g2⟩, ⟨g3, g4⟩, ⟨g5, g6⟩, g7, g8⟩ := hgo
  have b1 := hBd.f
  have b2 := hBd.i
  have b3 := hBd.p
  have b4 := hBd.d
  have b5 := hBd.s
  have b6 := hBd.h
  clear hF1 hI1 hP1 hL1 hBd
  obtain ⟨he1, he2, he3, he4⟩ := he
  have hab := b_alloc w (.cells #[.int .u32 (e.s : Int), .int .i32 e.d, .int .u8 (e.k : Int), .int .i64 e.a] 47)
  have hbe := Blk.new w 47 #[.int .u32 (e.s : Int), .int .i32 e.d, .int .u8 (e.k : Int), .int .i64 e.a]
  obtain ⟨W1, hW⟩ : ∃ W, w.alloc (.cells #[.int .u32 (e.s : Int), .int .i32 e.d, .int .u8 (e.k : Int), .int .i64 e.a] 47) = W := ⟨_, rfl⟩
  obtain ⟨eb, hE⟩ : ∃ j, w.heap.size = j := ⟨_, rfl⟩
  have hgl := h.lt
  rw [hW] at hab hbe
  rw [hE] at hbe hgl
  have hne : eb ≠ g := fun e => by omega
  have HNE := Lib.hid hne
  have T1 := Lib.hid (h.below hab)
  have B1 := Lib.hid (hab.mono hb)
  have E1 := Lib.hid hbe
  have HW := Lib.hid hW
  have HEB := Lib.hid hE
  have HS := Lib.hid hs
  have HL := Lib.hid hL
  have HB := Lib.hid hb
  clear h hs hb hL hab hbe hW hE hne hgl
  have HP := Lib.hid hpay
  have HLS := Lib.hid hless
  obtain ⟨ev, en, hT, hbg, hEn, hEv⟩ := id T1.out
  have HT := Lib.hid hT
  have LA : ∀ W', Below W1.heap.size W1 W' → (Instr.loadAt 49 (.pointer (some ⟨g, 1, none⟩))).run Tryz.prog W' = .ok (.agg #[.int .i64 x.f, .int .i64 x.i, .int .i64 x.p]) W' := fun W' hb' => run_loadB (P := Tryz.prog) (HT.out.below hb' HT.out.lt) 49 1 #[.int .i64 x.f, .int .i64 x.i, .int .i64 x.p] (part_of (by rfl)) rowOwed
  have LB : ∀ W', Below W1.heap.size W1 W' → (Instr.loadAt 22 (.pointer (some ⟨eb, 3, none⟩))).run Tryz.prog W' = .ok (.int .i64 e.a) W' := fun W' hb' => by
    have x0 := (E1.out.below hb' E1.out.lt).cell 3
    simp at x0
    go_simp
  clear hT hbg hEn hEv hpay hless
  go_enter Tryz.func106, Tryz.ntmps106
  go_upto_region 1 with (fail)
  rw [HW.out, HEB.out]
  clear HW
  refine wp_region_flowG [some 8, some 9, some 10, some 11, some 12, some 13, some 14, some 15, some 7, some 16, some 17, some 18, some 4, none, some 5, some 6] (fun i => ([.is (.pointer (some ⟨g, 0, none⟩)), .is (.pointer (some ⟨g, 0, none⟩)), .is (.pointer (some ⟨g, 1, none⟩)), .is (.pointer (some ⟨g, 1, none⟩)), .is (.agg #[.int .i64 x.f, .int .i64 x.i, .int .i64 x.p]), .is (.pointer (some ⟨eb, 3, none⟩)), .is (.int .i64 e.a), .is (.tuple #[.agg #[.int .i64 F1, .int .i64 I1, .int .i64 P1], .int .i64 L1, .nilIface]), .is (.tuple #[.agg #[.int .i64 F1, .int .i64 I1, .int .i64 P1], .int .i64 L1, .nilIface]), .is (.agg #[.int .i64 F1, .int .i64 I1, .int .i64 P1]), .is (.int .i64 L1), .is (.nilIface), newF W1.heap.size (.cells #[.int .i64 0, .int .i64 0, .int .i64 0] 49) (.cells #[.int .i64 F1, .int .i64 I1, .int .i64 P1] 49), doneF W1.heap.size (.cells #[.int .i64 0, .int .i64 0, .int .i64 0] 49) (.cells #[.int .i64 F1, .int .i64 I1, .int .i64 P1] 49), .is (.int .i64 L1), .is (.nilIface)] : List (FlwG _)).getD i .any) (by kernel_rfl) (by kernel_rfl) rfl ?_ ?_
  · skip
    refine ⟨step_freeG rfl (fun aF wF hs hb => ?_), ?_⟩
    · obtain ⟨x0, -⟩ := hs
      have e0 : aF.eval (.tmp 0) = .pointer (some ⟨g, 0, none⟩) := x0
      exact opC_move e0 ⟨rfl, (relT _ _).refl wF⟩
    refine ⟨step_freeG rfl (fun aF wF hs hb => ?_), ?_⟩
    · obtain ⟨x0, -⟩ := hs
      have e0 : aF.eval (.tmp 8) = .pointer (some ⟨g, 0, none⟩) := x0
      refine opC_value (v := .pointer (some ⟨g, 0, none⟩)) ?_ ⟨rfl, (relT _ _).refl wF⟩
      have t0 := ev_of e0
      go_simp
    refine ⟨step_freeG rfl (fun aF wF hs hb => ?_), ?_⟩
    · obtain ⟨x0, -⟩ := hs
      have e0 : aF.eval (.tmp 9) = .pointer (some ⟨g, 0, none⟩) := x0
      refine opC_value (v := .pointer (some ⟨g, 1, none⟩)) ?_ ⟨rfl, (relT _ _).refl wF⟩
      have t0 := ev_of e0
      go_simp
    refine ⟨step_freeG rfl (fun aF wF hs hb => ?_), ?_⟩
    · obtain ⟨x0, -⟩ := hs
      have e0 : aF.eval (.tmp 10) = .pointer (some ⟨g, 1, none⟩) := x0
      refine opC_value (v := .pointer (some ⟨g, 1, none⟩)) ?_ ⟨rfl, (relT _ _).refl wF⟩
      have t0 := ev_of e0
      go_simp
    refine ⟨step_freeG rfl (fun aF wF hs hb => ?_), ?_⟩
    · obtain ⟨x0, -⟩ := hs
      have e0 : aF.eval (.tmp 11) = .pointer (some ⟨g, 1, none⟩) := x0
      exact opC_load e0 (LA wF (hb.below)) ⟨rfl, (relT _ _).refl wF⟩
    refine ⟨step_freeG rfl (fun aF wF hs hb => ?_), ?_⟩
    · obtain ⟨x0, -⟩ := hs
      have e0 : aF.eval (.tmp 3) = .pointer (some ⟨eb, 0, none⟩) := x0
      refine opC_value (v := .pointer (some ⟨eb, 3, none⟩)) ?_ ⟨rfl, (relT _ _).refl wF⟩
      have t0 := ev_of e0
      go_simp
    refine ⟨step_freeG rfl (fun aF wF hs hb => ?_), ?_⟩
    · obtain ⟨x0, -⟩ := hs
      have e0 : aF.eval (.tmp 13) = .pointer (some ⟨eb, 3, none⟩) := x0
      exact opC_load e0 (LB wF (hb.below)) ⟨rfl, (relT _ _).refl wF⟩
    refine ⟨step_freeG rfl (fun aF wF hs hb => ?_), ?_⟩
    · obtain ⟨x0, x1, -⟩ := hs
      have e0 : aF.eval (.tmp 12) = .agg #[.int .i64 x.f, .int .i64 x.i, .int .i64 x.p] := x0
      have e1 : aF.eval (.tmp 14) = .int .i64 e.a := x1
      exact opC_call (args := #[.agg #[.int .i64 x.f, .int .i64 x.i, .int .i64 x.p], .int .i64 e.a]) (enters_of Tryz.func154 (by kernel_rfl) rfl) (by simp [e0, e1]) (HP.out wF) (fun _ h => ⟨rfl, TurnR.of_below h hb.size⟩)
    refine ⟨step_freeG rfl (fun aF wF hs hb => ?_), ?_⟩
    · obtain ⟨x0, -⟩ := hs
      have e0 : aF.eval (.tmp 15) = .tuple #[.agg #[.int .i64 F1, .int .i64 I1, .int .i64 P1], .int .i64 L1, .nilIface] := x0
      exact opC_move e0 ⟨rfl, (relT _ _).refl wF⟩
    refine ⟨step_freeG rfl (fun aF wF hs hb => ?_), ?_⟩
    · obtain ⟨x0, -⟩ := hs
      have e0 : aF.eval (.tmp 7) = .tuple #[.agg #[.int .i64 F1, .int .i64 I1, .int .i64 P1], .int .i64 L1, .nilIface] := x0
      refine opC_value (v := .agg #[.int .i64 F1, .int .i64 I1, .int .i64 P1]) ?_ ⟨rfl, (relT _ _).refl wF⟩
      have t0 := ev_of e0
      simp [execOp, go_sem, t0]
    refine ⟨step_freeG rfl (fun aF wF hs hb => ?_), ?_⟩
    · obtain ⟨x0, -⟩ := hs
      have e0 : aF.eval (.tmp 7) = .tuple #[.agg #[.int .i64 F1, .int .i64 I1, .int .i64 P1], .int .i64 L1, .nilIface] := x0
      refine opC_value (v := .int .i64 L1) ?_ ⟨rfl, (relT _ _).refl wF⟩
      have t0 := ev_of e0
      simp [execOp, go_sem, t0]
    refine ⟨step_freeG rfl (fun aF wF hs hb => ?_), ?_⟩
    · obtain ⟨x0, -⟩ := hs
      have e0 : aF.eval (.tmp 7) = .tuple #[.agg #[.int .i64 F1, .int .i64 I1, .int .i64 P1], .int .i64 L1, .nilIface] := x0
      refine opC_value (v := .nilIface) ?_ ⟨rfl, (relT _ _).refl wF⟩
      have t0 := ev_of e0
      simp [execOp, go_sem, t0]
    refine ⟨step_freeG rfl (fun aF wF hs hb => ?_), ?_⟩
    · refine opC_alloc (cs := #[.int .i64 0, .int .i64 0, .int .i64 0]) (by kernel_rfl) ⟨⟨wF.heap.size, rfl, hb.size, .inl ?_⟩, TurnR.of_below (b_alloc wF _) hb.size⟩
      exact heap_alloc_new wF _
    refine ⟨step_freeG rfl (fun aF wF hs hb => ?_), ?_⟩
    · obtain ⟨x0, x1, -⟩ := hs
      obtain ⟨g, hg1, hg2, hg3⟩ : (newF W1.heap.size (.cells #[.int .i64 0, .int .i64 0, .int .i64 0] 49) (.cells #[.int .i64 F1, .int .i64 I1, .int .i64 P1] 49)).p (aF.eval (.tmp 4)) wF := x0
      have e1 : aF.eval (.tmp 16) = .agg (#[.int .i64 F1, .int .i64 I1, .int .i64 P1]) := x1
      rcases hg3 with hg3 | hg3
      · exact opC_store hg1 e1 hg3 rfl (by kernel_rfl) (by simp; exact ⟨rfl, rfl, rfl⟩) (fun w9 ho hv => ⟨⟨g, hg1, hg2, hv⟩, TurnR.only ho hg2 hg3 hv (.inr ⟨rfl, rfl⟩)⟩)
      · exact opC_store hg1 e1 hg3 rfl (by kernel_rfl) (by simp; exact ⟨rfl, rfl, rfl⟩) (fun w9 ho hv => ⟨⟨g, hg1, hg2, hv⟩, TurnR.only ho hg2 hg3 hv (.inl rfl)⟩)
    refine ⟨step_freeG rfl (fun aF wF hs hb => ?_), ?_⟩
    · obtain ⟨x0, -⟩ := hs
      have e0 : aF.eval (.tmp 17) = .int .i64 L1 := x0
      exact opC_assign e0 ⟨rfl, (relT _ _).refl wF⟩
    refine ⟨step_freeG rfl (fun aF wF hs hb => ?_), ?_⟩
    · obtain ⟨x0, -⟩ := hs
      have e0 : aF.eval (.tmp 18) = .nilIface := x0
      exact opC_assign e0 ⟨rfl, (relT _ _).refl wF⟩
    exact trivial
  intro fv w2 hf2 hn2 hr2
  obtain ⟨pb, hp1, hp2, hp3⟩ := hn2 13 _ 4 rfl rfl
  have e5 : fv 14 = .int .i64 L1 := hf2 14 5 rfl
  simp only [putF, Act.put, List.setIfInBounds_toArray, List.set_cons_zero, List.set_cons_succ] at hp1 ⊢
  have e4 : fv 12 = .pointer (some ⟨pb, 0, none⟩) := hp1
  simp only [e4, e5]
  have hb2 := hr2.below
  have T2 := Lib.hid (T1.out.below hb2)
  have B2 := Lib.hid (B1.out.trans (hb2.mono (Nat.le_trans HB.out B1.out.size)))
  have E2 := Lib.hid (E1.out.below hb2 E1.out.lt)
  have hp3' : Blk w2 pb 49 #[.int .i64 F1, .int .i64 I1, .int .i64 P1] := hp3
  have P2 := Lib.hid hp3'
  have hpg : pb ≠ g := fun e => by
    have := T1.out.lt
    omega
  have HPG := Lib.hid hpg
  clear hf2 hn2 hr2 hp1 hp2 hp3 hp3' e4 e5 hb2 hpg HP HT T1 B1 E1 LA LB
  obtain ⟨-, c1, c2, c3, -, -, -, -, -, -, -, -, fz⟩ := T2.out.cells
  have f1 := fz 1
  have f2 := fz 2
  have f3 := fz 3
  have p0 := P2.out.cell 0
  have p1 := P2.out.cell 1
  have p2 := P2.out.cell 2
  simp at p0 p1 p2
  clear fz
  go_upto_region 2 with (fail)
  go_region_law ((refine step_callK (enters_of Tryz.func155 (by kernel_rfl) rfl) (by simp [Act.eval]) ((HLS.out w2.drew).mono ?_)); rintro _ w3 ⟨rfl, hb3⟩; refine ⟨_, rfl, ?_⟩; have hbw := (below_drewS w2).trans hb3; obtain ⟨-, k1, k2, k3, -, -, -, -, -, -, -, -, gz⟩ := (T2.out.below hbw).cells; have m1 := gz 1; have m2 := gz 2; have m3 := gz 3; have HBW := Lib.hid hbw; clear gz hb3 hbw)
  all_goals
    have T4 := Lib.hid ((((T2.out.below HBW.out).set (k := 1) (v := .int .i64 (x.f - F1)) (y := { x with f := x.f - F1 }) rfl (fun ev en => telC_1 _ _ _ ev en _)).set (k := 2) (v := .int .i64 (x.i - I1)) (y := { x with f := x.f - F1, i := x.i - I1 }) rfl (fun ev en => telC_2 _ _ _ ev en _)).set (k := 3) (v := .int .i64 (x.p - P1)) (y := { x with f := x.f - F1, i := x.i - I1, p := x.p - P1 }) rfl (fun ev en => telC_3 _ _ _ ev en _))
    have B4 := Lib.hid (B2.out.trans ((HBW.out.mono (Nat.le_trans HB.out B2.out.size)).setCell T2.out.base (p := ⟨g, 1, none⟩) (.int .i64 (x.f - F1)) |>.setCell T2.out.base (p := ⟨g, 2, none⟩) (.int .i64 (x.i - I1)) |>.setCell T2.out.base (p := ⟨g, 3, none⟩) (.int .i64 (x.p - P1))))
    have E4 := Lib.hid ((((E2.out.below HBW.out E2.out.lt).far (p := ⟨g, 1, none⟩) HNE.out (.int .i64 (x.f - F1))).far (p := ⟨g, 2, none⟩) HNE.out (.int .i64 (x.i - I1))).far (p := ⟨g, 3, none⟩) HNE.out (.int .i64 (x.p - P1)))
    have P4 := Lib.hid ((((P2.out.below HBW.out P2.out.lt).far (p := ⟨g, 1, none⟩) HPG.out (.int .i64 (x.f - F1))).far (p := ⟨g, 2, none⟩) HPG.out (.int .i64 (x.i - I1))).far (p := ⟨g, 3, none⟩) HPG.out (.int .i64 (x.p - P1)))
    obtain ⟨W4, hW4⟩ : ∃ W, (((w3.setCell ⟨g, 1, none⟩ (.int .i64 (x.f - F1))).setCell ⟨g, 2, none⟩ (.int .i64 (x.i - I1))).setCell ⟨g, 3, none⟩ (.int .i64 (x.p - P1))) = W := ⟨_, rfl⟩
    rw [hW4] at T4 B4 E4 P4 ⊢
    clear hW4 T2 B2 E2 P2 HBW c1 c2 c3 f1 f2 f3 p0 p1 p2 k1 k2 k3 m1 m2 m3 HLS
    have hw1 : -9223372036854775808 ≤ x.d + (I1 + P1) := by omega
    have hw2 : x.d + (I1 + P1) ≤ 9223372036854775807 := by omega
    have hw3 : -9223372036854775808 ≤ x.s + L1 := by omega
    have hw4 : x.s + L1 ≤ 9223372036854775807 := by omega
    have hw5 : -9223372036854775808 ≤ x.h + e.a := by omega
    have hw6 : x.h + e.a ≤ 9223372036854775807 := by omega
    have hw7 : -9223372036854775808 ≤ I1 + P1 := by omega
    have hw8 : I1 + P1 ≤ 9223372036854775807 := by omega
    obtain ⟨-, -, -, -, -, c5, -, -, -, -, -, -, fz⟩ := T4.out.cells
    have f5 := fz 5
    clear fz
    have p1 := P4.out.cell 1
    have p2 := P4.out.cell 2
    simp at p1 p2
    go_upto_region 3 with (fail)
    go_region
    clear c5 f5 p1 p2
    have T5 := Lib.hid (T4.out.put (k := 5) (v := .int .i64 (x.d + (I1 + P1))) (y := { x with f := x.f - F1, i := x.i - I1, p := x.p - P1, d := x.d + (I1 + P1) }) rfl (fun ev en => telC_5 _ _ _ ev en _))
    have B5 := Lib.hid (B4.out.trans (T4.out.putB 5 (.int .i64 (x.d + (I1 + P1)))))
    have E5 := Lib.hid (E4.out.putS HNE.out 5 (.int .i64 (x.d + (I1 + P1))))
    have P5 := Lib.hid (P4.out.putS HPG.out 5 (.int .i64 (x.d + (I1 + P1))))
    obtain ⟨W5, hW5⟩ : ∃ W, (W4.setCell ⟨g, 5, none⟩ (.int .i64 (x.d + (I1 + P1)))).drew = W := ⟨_, rfl⟩
    rw [hW5] at T5 B5 E5 P5 ⊢
    clear hW5 T4 B4 E4 P4
    obtain ⟨-, -, -, -, -, -, c6, -, -, -, -, -, fz⟩ := T5.out.cells
    have f6 := fz 6
    clear fz
    go_upto_region 5 with (fail)
    clear c6 f6
    have T6 := Lib.hid (T5.out.set (k := 6) (v := .int .i64 (x.s + L1)) (y := { x with f := x.f - F1, i := x.i - I1, p := x.p - P1, d := x.d + (I1 + P1), s := x.s + L1 }) rfl (fun ev en => telC_6 _ _ _ ev en _))
    have B6 := Lib.hid (B5.out.trans (T5.out.low (Nat.le_trans HB.out B5.out.size) 6 (.int .i64 (x.s + L1))))
    have E6 := Lib.hid (E5.out.far (p := ⟨g, 6, none⟩) HNE.out (.int .i64 (x.s + L1)))
    have P6 := Lib.hid (P5.out.far (p := ⟨g, 6, none⟩) HPG.out (.int .i64 (x.s + L1)))
    obtain ⟨W6, hW6⟩ : ∃ W, (W5.setCell ⟨g, 6, none⟩ (.int .i64 (x.s + L1))  ) = W := ⟨_, rfl⟩
    rw [hW6] at T6 B6 E6 P6 ⊢
    clear hW6 T5 B5 E5 P5
    obtain ⟨-, -, -, -, -, -, -, -, c8, -, -, -, fz⟩ := T6.out.cells
    have f8 := fz 8
    have q3 := E6.out.cell 3
    simp at q3
    clear fz
    go_region
    clear c8 f8 q3
    have T7 := Lib.hid (T6.out.put (k := 8) (v := .int .i64 (x.h + e.a)) (y := { x with f := x.f - F1, i := x.i - I1, p := x.p - P1, d := x.d + (I1 + P1), s := x.s + L1, h := x.h + e.a }) rfl (fun ev en => telC_8 _ _ _ ev en _))
    have B7 := Lib.hid (B6.out.trans (T6.out.putB 8 (.int .i64 (x.h + e.a))))
    have E7 := Lib.hid (E6.out.putS HNE.out 8 (.int .i64 (x.h + e.a)))
    have P7 := Lib.hid (P6.out.putS HPG.out 8 (.int .i64 (x.h + e.a)))
    obtain ⟨W7, hW7⟩ : ∃ W, (W6.setCell ⟨g, 8, none⟩ (.int .i64 (x.h + e.a))).drew = W := ⟨_, rfl⟩
    rw [hW7] at T7 B7 E7 P7 ⊢
    clear hW7 T6 B6 E6 P6
    have LD6_0 : ∀ W', Below W7.heap.size W7 W' → (Instr.loadAt 23 (.pointer (some ⟨eb, 0, none⟩))).run Tryz.prog W' = .ok (.int .u32 (e.s : Int)) W' := fun W' hb' => by
      have x0 := (E7.out.below hb' E7.out.lt).cell 0
      simp at x0
      go_simp
    have LD6_1 : ∀ W', Below W7.heap.size W7 W' → (Instr.loadAt 22 (.pointer (some ⟨eb, 3, none⟩))).run Tryz.prog W' = .ok (.int .i64 e.a) W' := fun W' hb' => by
      have x0 := (E7.out.below hb' E7.out.lt).cell 3
      simp at x0
      go_simp
    have LD6_2 : ∀ W', Below W7.heap.size W7 W' → (Instr.loadAt 22 (.pointer (some ⟨pb, 0, none⟩))).run Tryz.prog W' = .ok (.int .i64 F1) W' := fun W' hb' => by
      have x0 := (P7.out.below hb' P7.out.lt).cell 0
      simp at x0
      go_simp
    have LD6_3 : ∀ W', Below W7.heap.size W7 W' → (Instr.loadAt 22 (.pointer (some ⟨pb, 1, none⟩))).run Tryz.prog W' = .ok (.int .i64 I1) W' := fun W' hb' => by
      have x0 := (P7.out.below hb' P7.out.lt).cell 1
      simp at x0
      go_simp
    have LD6_4 : ∀ W', Below W7.heap.size W7 W' → (Instr.loadAt 22 (.pointer (some ⟨pb, 2, none⟩))).run Tryz.prog W' = .ok (.int .i64 P1) W' := fun W' hb' => by
      have x0 := (P7.out.below hb' P7.out.lt).cell 2
      simp at x0
      go_simp
    go_upto_region 6 with (fail)
    refine wp_region_flow_lst _ [some 68, some 69, some 70, some 71, some 72, some 73, some 74, some 75, some 76, some 77, some 78, some 79, some 80, some 81, some 82, some 83, some 84, some 85] (fun i => ([.is (.pointer (some ⟨g, 0, none⟩)), .is (.pointer (some ⟨eb, 0, none⟩)), .is (.int .u32 (e.s : Int)), .is (.pointer (some ⟨eb, 3, none⟩)), .is (.int .i64 e.a), .is (.agg #[.int .u8 ((1 : Nat) : Int), .int .i64 (e.a)]), .is (.pointer (some ⟨pb, 0, none⟩)), .is (.int .i64 F1), .is (.agg #[.int .u8 ((4 : Nat) : Int), .int .i64 (-F1)]), .is (.pointer (some ⟨pb, 1, none⟩)), .is (.int .i64 I1), .is (.agg #[.int .u8 ((3 : Nat) : Int), .int .i64 (-I1)]), .is (.pointer (some ⟨pb, 2, none⟩)), .is (.int .i64 P1), .is (.agg #[.int .u8 ((2 : Nat) : Int), .int .i64 (-P1)]), .is (.int .i64 L1), .is (.agg #[.int .u8 ((5 : Nat) : Int), .int .i64 (-L1)]), legF W7.heap.size 5 #[.int .u8 ((1 : Nat) : Int), .int .i64 (e.a), .int .u8 ((4 : Nat) : Int), .int .i64 (-F1), .int .u8 ((3 : Nat) : Int), .int .i64 (-I1), .int .u8 ((2 : Nat) : Int), .int .i64 (-P1), .int .u8 ((5 : Nat) : Int), .int .i64 (-L1)]] : List Flw).getD i .any) (by rfl) (by kernel_rfl) (by kernel_rfl) (by kernel_rfl) (by rfl) (by rfl) ?_ ?_
    · skip
      refine ⟨step_free rfl (fun aF wF hs hb => ?_), ?_⟩
      · obtain ⟨x0, -⟩ := hs
        have e0 : aF.eval (.tmp 0) = .pointer (some ⟨g, 0, none⟩) := x0
        exact opC_move e0 ⟨rfl, below_same wF⟩
      refine ⟨step_free rfl (fun aF wF hs hb => ?_), ?_⟩
      · obtain ⟨x0, -⟩ := hs
        have e0 : aF.eval (.tmp 3) = .pointer (some ⟨eb, 0, none⟩) := x0
        refine opC_value (v := .pointer (some ⟨eb, 0, none⟩)) ?_ ⟨rfl, below_same wF⟩
        have t0 := ev_of e0
        go_simp
      refine ⟨step_free rfl (fun aF wF hs hb => ?_), ?_⟩
      · obtain ⟨x0, -⟩ := hs
        have e0 : aF.eval (.tmp 69) = .pointer (some ⟨eb, 0, none⟩) := x0
        exact opC_load e0 (LD6_0 wF hb) ⟨rfl, below_same wF⟩
      refine ⟨step_free rfl (fun aF wF hs hb => ?_), ?_⟩
      · obtain ⟨x0, -⟩ := hs
        have e0 : aF.eval (.tmp 3) = .pointer (some ⟨eb, 0, none⟩) := x0
        refine opC_value (v := .pointer (some ⟨eb, 3, none⟩)) ?_ ⟨rfl, below_same wF⟩
        have t0 := ev_of e0
        go_simp
      refine ⟨step_free rfl (fun aF wF hs hb => ?_), ?_⟩
      · obtain ⟨x0, -⟩ := hs
        have e0 : aF.eval (.tmp 71) = .pointer (some ⟨eb, 3, none⟩) := x0
        exact opC_load e0 (LD6_1 wF hb) ⟨rfl, below_same wF⟩
      refine ⟨step_free rfl (fun aF wF hs hb => ?_), ?_⟩
      · obtain ⟨x0, -⟩ := hs
        have e0 : aF.eval (.tmp 72) = .int .i64 e.a := x0
        exact opC_call (args := #[.int .u8 ((1 : Nat) : Int), .int .i64 e.a]) (enters_of Tryz.func56 (by kernel_rfl) rfl) (by simp [e0]; try rfl) (debit_any 1 e.a wF) (fun _ h => ⟨rfl, h⟩)
      refine ⟨step_free rfl (fun aF wF hs hb => ?_), ?_⟩
      · obtain ⟨x0, -⟩ := hs
        have e0 : aF.eval (.tmp 4) = .pointer (some ⟨pb, 0, none⟩) := x0
        refine opC_value (v := .pointer (some ⟨pb, 0, none⟩)) ?_ ⟨rfl, below_same wF⟩
        have t0 := ev_of e0
        go_simp
      refine ⟨step_free rfl (fun aF wF hs hb => ?_), ?_⟩
      · obtain ⟨x0, -⟩ := hs
        have e0 : aF.eval (.tmp 74) = .pointer (some ⟨pb, 0, none⟩) := x0
        exact opC_load e0 (LD6_2 wF hb) ⟨rfl, below_same wF⟩
      refine ⟨step_free rfl (fun aF wF hs hb => ?_), ?_⟩
      · obtain ⟨x0, -⟩ := hs
        have e0 : aF.eval (.tmp 75) = .int .i64 F1 := x0
        exact opC_call (args := #[.int .u8 ((4 : Nat) : Int), .int .i64 F1]) (enters_of Tryz.func57 (by kernel_rfl) rfl) (by simp [e0]; try rfl) (credit_any 4 F1 (by omega) wF) (fun _ h => ⟨rfl, h⟩)
      refine ⟨step_free rfl (fun aF wF hs hb => ?_), ?_⟩
      · obtain ⟨x0, -⟩ := hs
        have e0 : aF.eval (.tmp 4) = .pointer (some ⟨pb, 0, none⟩) := x0
        refine opC_value (v := .pointer (some ⟨pb, 1, none⟩)) ?_ ⟨rfl, below_same wF⟩
        have t0 := ev_of e0
        go_simp
      refine ⟨step_free rfl (fun aF wF hs hb => ?_), ?_⟩
      · obtain ⟨x0, -⟩ := hs
        have e0 : aF.eval (.tmp 77) = .pointer (some ⟨pb, 1, none⟩) := x0
        exact opC_load e0 (LD6_3 wF hb) ⟨rfl, below_same wF⟩
      refine ⟨step_free rfl (fun aF wF hs hb => ?_), ?_⟩
      · obtain ⟨x0, -⟩ := hs
        have e0 : aF.eval (.tmp 78) = .int .i64 I1 := x0
        exact opC_call (args := #[.int .u8 ((3 : Nat) : Int), .int .i64 I1]) (enters_of Tryz.func57 (by kernel_rfl) rfl) (by simp [e0]; try rfl) (credit_any 3 I1 (by omega) wF) (fun _ h => ⟨rfl, h⟩)
      refine ⟨step_free rfl (fun aF wF hs hb => ?_), ?_⟩
      · obtain ⟨x0, -⟩ := hs
        have e0 : aF.eval (.tmp 4) = .pointer (some ⟨pb, 0, none⟩) := x0
        refine opC_value (v := .pointer (some ⟨pb, 2, none⟩)) ?_ ⟨rfl, below_same wF⟩
        have t0 := ev_of e0
        go_simp
      refine ⟨step_free rfl (fun aF wF hs hb => ?_), ?_⟩
      · obtain ⟨x0, -⟩ := hs
        have e0 : aF.eval (.tmp 80) = .pointer (some ⟨pb, 2, none⟩) := x0
        exact opC_load e0 (LD6_4 wF hb) ⟨rfl, below_same wF⟩
      refine ⟨step_free rfl (fun aF wF hs hb => ?_), ?_⟩
      · obtain ⟨x0, -⟩ := hs
        have e0 : aF.eval (.tmp 81) = .int .i64 P1 := x0
        exact opC_call (args := #[.int .u8 ((2 : Nat) : Int), .int .i64 P1]) (enters_of Tryz.func57 (by kernel_rfl) rfl) (by simp [e0]; try rfl) (credit_any 2 P1 (by omega) wF) (fun _ h => ⟨rfl, h⟩)
      refine ⟨step_free rfl (fun aF wF hs hb => ?_), ?_⟩
      · obtain ⟨x0, -⟩ := hs
        have e0 : aF.eval (.tmp 5) = .int .i64 L1 := x0
        exact opC_move e0 ⟨rfl, below_same wF⟩
      refine ⟨step_free rfl (fun aF wF hs hb => ?_), ?_⟩
      · obtain ⟨x0, -⟩ := hs
        have e0 : aF.eval (.tmp 83) = .int .i64 L1 := x0
        exact opC_call (args := #[.int .u8 ((5 : Nat) : Int), .int .i64 L1]) (enters_of Tryz.func57 (by kernel_rfl) rfl) (by simp [e0]; try rfl) (credit_any 5 L1 (by omega) wF) (fun _ h => ⟨rfl, h⟩)
      refine ⟨step_free rfl (fun aF wF hs hb => ?_), ?_⟩
      · obtain ⟨x0, x1, x2, x3, x4, -⟩ := hs
        have e0 : aF.eval (.tmp 73) = .agg #[.int .u8 ((1 : Nat) : Int), .int .i64 (e.a)] := x0
        have e1 : aF.eval (.tmp 76) = .agg #[.int .u8 ((4 : Nat) : Int), .int .i64 (-F1)] := x1
        have e2 : aF.eval (.tmp 79) = .agg #[.int .u8 ((3 : Nat) : Int), .int .i64 (-I1)] := x2
        have e3 : aF.eval (.tmp 82) = .agg #[.int .u8 ((2 : Nat) : Int), .int .i64 (-P1)] := x3
        have e4 : aF.eval (.tmp 84) = .agg #[.int .u8 ((5 : Nat) : Int), .int .i64 (-L1)] := x4
        exact opC_leg5 e0 e1 e2 e3 e4 hb.size
      exact trivial
    intro fv w1 hf hb1
    obtain ⟨gl, el, hgl, hbk⟩ : (legF W7.heap.size 5 #[.int .u8 ((1 : Nat) : Int), .int .i64 (e.a), .int .u8 ((4 : Nat) : Int), .int .i64 (-F1), .int .u8 ((3 : Nat) : Int), .int .i64 (-I1), .int .u8 ((2 : Nat) : Int), .int .i64 (-P1), .int .u8 ((5 : Nat) : Int), .int .i64 (-L1)]).p (fv 17) w1 := hf 17 85 rfl
    have et : fv 0 = .pointer (some ⟨g, 0, none⟩) := hf 0 68 rfl
    have es : fv 2 = .int .u32 (e.s : Int) := hf 2 70 rfl
    simp only [putF, Act.put, List.setIfInBounds_toArray, List.set_cons_zero, List.set_cons_succ]
    simp only [el, et, es]
    have T8 := Lib.hid (T7.out.below hb1)
    have B8 := Lib.hid (B7.out.trans (hb1.mono (Nat.le_trans HB.out B7.out.size)))
    have hr := Rs.blkS (T := legT) (l := [(1, e.a), (4, -F1), (3, -I1), (2, -P1), (5, -L1)]) hbk (by rfl)
    refine opC_callK (args := #[.pointer (some ⟨g, 0, none⟩), .int .u8 ((4 : Nat) : Int), .int .u32 (e.s : Int), .slice (some ⟨gl, 0, none⟩) 5 5]) (enters_of Tryz.func55 (by kernel_rfl) rfl) (by simp; try exact ⟨rfl, rfl, rfl, rfl⟩) ?_
    refine (post_any _ T8.out (HS.out.below B8.out) (Nat.le_trans HB.out B8.out.size) HL.out 4 e.s _ 5 5 _ _ hr rfl (by omega) (Nat.le_refl _) ?_).mono ?_
    · intro u hu
      simp at hu
      rcases hu with rfl | rfl | rfl | rfl | rfl <;> (unfold LegIn; dsimp only; omega)
    rintro e9 w9 ⟨rfl, b9, t9⟩
    refine ⟨_, rfl, ?_⟩
    have T9 := Lib.hid t9
    have B9 := Lib.hid (B8.out.trans b9)
    clear t9 b9 hr hbk hf el et es hb1 T7 B7 T8 B8
    go_end0
    exact ⟨rfl, B9.out, T9.out⟩
end Go.Proofs.YtpbfipeinblfgaaGreatDoor
namespace Go.Proofs.YtpbfipeinblfgaaGreatDoor
structure Few9 (x : TS) (Z : Int) : Prop where
  le : (x.L.length : Int) * 1000000000 ≤ Z
section
variable {n : Nat} {day Z : Int} {x : TS} {e : Ev}
set_option maxRecDepth 20000 in
theorem Few9.add {y : TS} (h : Few9 x Z) (hL : y.L = x.L ∨ ∃ u, y.L = x.L ++ [u]) : Few9 y (Z + 1000000000) := by
  have h := h.le
  constructor
  rcases hL with e | ⟨u, e⟩
  · rw [e]; omega
  · rw [e, List.length_append]
    simp only [List.length_cons, List.length_nil]
    omega
theorem tel_L : (telM n day x e).L = x.L ∨ ∃ u, (telM n day x e).L = x.L ++ [u] := by
  unfold telM regM payM chgM waiM offM TS.add
  repeat' split
  all_goals first | exact .inl rfl | exact .inr ⟨_, rfl⟩
theorem hap_L : (hapM n day x e).L = x.L ∨ ∃ u, (hapM n day x e).L = x.L ++ [u] := by
  unfold hapM
  split
  · exact tel_L (n := n) (day := day) (x := x) (e := e)
  · exact tel_L
theorem Few9.hap (h : Few9 x Z) : Few9 (hapM n day x e) (Z + 1000000000000) := by
  have := (h.add (hap_L (n := n) (day := day) (x := x) (e := e))).le
  constructor
  omega
theorem late_L {F : Int} {Sm : Nat → Int} : (lateM n F Sm day x).L = x.L ∨ ∃ u, (lateM n F Sm day x).L = x.L ++ [u] := by
  unfold lateM chgM TS.add
  split
  · exact .inr ⟨_, rfl⟩
  · exact .inl rfl
theorem Few9.more {Y : Int} (h : Few9 x Z) (hY : Z ≤ Y) : Few9 x Y := by
  have := h.le
  constructor
  omega
set_option maxRecDepth 20000 in
theorem Few9.lates {M : Nat} {F G : Int} {D Sm : Nat → Int} : ∀ (k : Nat) (x : TS) (Z : Int), Few9 x Z → Few9 (lateN n F G M D Sm day k x) (Z + 1000000000 * (((lateN n F G M D Sm day k x).m : Int) - x.m))
  | 0, x, Z, h => by
    show Few9 x (Z + 1000000000 * ((x.m : Int) - x.m))
    exact h.more (by omega)
  | k + 1, x, Z, h => by
    unfold lateN
    split
    · have g := Few9.lates (M := M) (F := F) (G := G) (D := D) (Sm := Sm) k (lateM n F Sm day x) _ (h.add late_L)
      rw [late_m] at g
      exact g.more (by have := lateN_m (n := n) (M := M) (day := day) (F := F) (G := G) (D := D) (Sm := Sm) k (lateM n F Sm day x); rw [late_m] at this; omega)
    · exact h.more (by omega)
theorem Few9.acc {R b : Nat} (h : Few9 x Z) : Few9 (accM n R b day x) (Z + 10000000000) := by
  have := h.add (y := accM n R b day x) (.inr ⟨_, rfl⟩)
  exact this.more (by omega)
set_option maxRecDepth 20000 in
theorem Few9.end_ {o : Deal} (h : Few9 x Z) : Few9 (endM o day x) (Z + 1000000000 * (((endM o day x).m : Int) - x.m) + 10000000000) := by
  unfold endM
  split
  · exact (Few9.lates (n := o.n) (M := o.M) (day := day) (F := o.F) (G := o.G) (D := o.D) (Sm := o.Sm) (o.M - x.m) x Z h).acc
  · exact h.more (by omega)
set_option maxRecDepth 20000 in
theorem Few9.haps : ∀ (l : List Ev) (x : TS) (Z : Int), Few9 x Z → Few9 (hapN n day l x).1 (Z + 1000000000000 * ((l.length : Int) - (hapN n day l x).2.length))
  | [], x, Z, h => h.more (by simp [hapN])
  | e :: l, x, Z, h => by
    unfold hapN
    split
    · exact (Few9.haps l _ _ h.hap).more (by simp only [List.length_cons]; omega)
    · exact h.more (by simp)
end
theorem Few9.few {x : TS} {Z : Int} (h : Few9 x Z) (hZ : Z ≤ 100000000000000000) : x.L.length ≤ 1000000000 := by
  have := h.le
  omega
end Go.Proofs.YtpbfipeinblfgaaGreatDoor
namespace Go.Proofs.YtpbfipeinblfgaaGreatDoor
open Go.ChangeShapes Go.WideShapes Go.ChangeAt Go.RowKit Go.Shelf

set_option maxRecDepth 100000 in
set_option maxHeartbeats 8000000 in
theorem tell_any {o : Deal} {b0 g q : Nat} {day : Int} {l : List Ev} {x : TS} (w : World) (h : Tel w b0 g (.pointer (some ⟨q, 0, none⟩)) day l x) (hs : Sto w b0 q o) (hb : b0 ≤ w.heap.size) (e : Ev) (he : EvOk e) {b M : Nat} {Z : Int} (hBd : Bd b M x Z) (hF : Few9 x Z) (hZ : Z ≤ 100000000000000000) :
    Calls Tryz.prog 58 #[.pointer (some ⟨g, 0, none⟩), .agg #[.int .u32 (e.s : Int), .int .i32 e.d, .int .u8 (e.k : Int), .int .i64 e.a]] w (TelPost w b0 g (.pointer (some ⟨q, 0, none⟩)) day l (telM o.n day x e)) := by
  have hL := hF.few hZ
  have z1 := hBd.f
  have z2 := hBd.i
  have z3 := hBd.p
  have z4 := hBd.r
  have z5 := hBd.h
  have hab := b_alloc w (.cells #[.int .u32 (e.s : Int), .int .i32 e.d, .int .u8 (e.k : Int), .int .i64 e.a] 47)
  have hbe := Blk.new w 47 #[.int .u32 (e.s : Int), .int .i32 e.d, .int .u8 (e.k : Int), .int .i64 e.a]
  obtain ⟨W1, hW⟩ : ∃ W, w.alloc (.cells #[.int .u32 (e.s : Int), .int .i32 e.d, .int .u8 (e.k : Int), .int .i64 e.a] 47) = W := ⟨_, rfl⟩
  obtain ⟨eb, hE⟩ : ∃ j, w.heap.size = j := ⟨_, rfl⟩
  rw [hW] at hab hbe
  rw [hE] at hbe
  have hs1 := hs.below (hab.mono hb)
  have hb1 : b0 ≤ W1.heap.size := Nat.le_trans hb hab.size
  have T1 := h.below hab
  have H1 := Lib.hid (regain_any W1 T1 hs1 hb1 hL e he ⟨z4.1, by omega⟩ ⟨z5.1, by omega⟩)
  have H2 := Lib.hid (pay_any W1 T1 hs1 hb1 hL e he hBd hZ)
  have H3 := Lib.hid (charge_any W1 T1 hs1 hb1 hL 5 e.s e.a he.a ⟨z1.1, by omega⟩)
  have H4 := Lib.hid (waive_any W1 T1 hs1 hb1 hL e he ⟨z1.1, by omega⟩)
  have H5 := Lib.hid (writeOff_any W1 T1 hs1 hb1 hL e he ⟨z1.1, by omega⟩ ⟨z2.1, by omega⟩ ⟨z3.1, by omega⟩)
  have HT := Lib.hid T1
  have HB := Lib.hid (hab.mono hb)
  have hk := he.k
  have ht := hBd.t
  have c9 := T1.cells.2.2.2.2.2.2.2.2.2.1
  have q0 := hbe.cell 0
  have q1 := hbe.cell 1
  have q2 := hbe.cell 2
  have q3 := hbe.cell 3
  simp at q0 q1 q2 q3
  have HW := Lib.hid hW
  have HEB := Lib.hid hE
  clear h hs hb hL z1 z2 z3 z4 z5 hab hbe hW hE hs1 hb1 T1 he hBd hF hZ
  unfold telM
  by_cases k4 : e.k = 4
  · rw [if_pos k4]
    by_cases t3 : x.t = 3
    · rw [if_pos t3]
      have kk : (e.k : Int) = 4 := by omega
      rw [kk] at q2 H1 H2 H4 H5
      have tt : (x.t : Int) = 3 := by omega
      rw [tt] at c9
      clear kk hk ht k4 t3 tt
      go_enter Tryz.func58, Tryz.ntmps58
      go_upto_region 1 with (fail)
      rw [HW.out, HEB.out]
      clear HW
      go_wp2_with fail
      refine H1.out.mono ?_
      rintro e9 w9 ⟨rfl, b9, t9⟩
      have T9 := Lib.hid t9
      have B9 := Lib.hid (HB.out.trans b9)
      clear b9 t9
      go_wp2_with fail
      go_end0
      exact ⟨rfl, B9.out, T9.out⟩
    · rw [if_neg t3]
      have n3 : ¬ (x.t : Int) = 3 := by omega
      have kk : (e.k : Int) = 4 := by omega
      rw [kk] at q2 H1 H2 H4 H5
      clear kk hk ht k4 t3
      go_enter Tryz.func58, Tryz.ntmps58
      go_upto_region 1 with (fail)
      rw [HW.out, HEB.out]
      clear HW
      go_wp2_with fail
      refine H2.out.mono ?_
      rintro e9 w9 ⟨rfl, b9, t9⟩
      have T9 := Lib.hid t9
      have B9 := Lib.hid (HB.out.trans b9)
      clear b9 t9
      go_wp2_with fail
      go_end0
      exact ⟨rfl, B9.out, T9.out⟩
  · rw [if_neg k4]
    by_cases t1 : x.t = 1
    · rw [if_pos t1]
      by_cases k5 : e.k = 5
      · rw [if_pos k5]
        have kk : (e.k : Int) = 5 := by omega
        rw [kk] at q2 H1 H2 H4 H5
        have tt : (x.t : Int) = 1 := by omega
        rw [tt] at c9
        clear kk hk ht k4 k5 t1 tt
        go_enter Tryz.func58, Tryz.ntmps58
        go_upto_region 1 with (fail)
        rw [HW.out, HEB.out]
        clear HW
        go_wp2_with fail
        refine H3.out.mono ?_
        rintro e9 w9 ⟨rfl, b9, t9⟩
        have T9 := Lib.hid t9
        have B9 := Lib.hid (HB.out.trans b9)
        clear b9 t9
        go_wp2_with fail
        go_end0
        exact ⟨rfl, B9.out, T9.out⟩
      · rw [if_neg k5]
        by_cases k6 : e.k = 6
        · rw [if_pos k6]
          have kk : (e.k : Int) = 6 := by omega
          rw [kk] at q2 H1 H2 H4 H5
          have tt : (x.t : Int) = 1 := by omega
          rw [tt] at c9
          clear kk hk ht k4 k5 k6 t1 tt
          go_enter Tryz.func58, Tryz.ntmps58
          go_upto_region 1 with (fail)
          rw [HW.out, HEB.out]
          clear HW
          go_wp2_with fail
          refine H4.out.mono ?_
          rintro e9 w9 ⟨rfl, b9, t9⟩
          have T9 := Lib.hid t9
          have B9 := Lib.hid (HB.out.trans b9)
          clear b9 t9
          go_wp2_with fail
          go_end0
          exact ⟨rfl, B9.out, T9.out⟩
        · have k7 : e.k = 7 := by omega
          rw [if_neg k6, if_pos k7]
          have kk : (e.k : Int) = 7 := by omega
          rw [kk] at q2 H1 H2 H4 H5
          have tt : (x.t : Int) = 1 := by omega
          rw [tt] at c9
          clear kk hk ht k4 k5 k6 k7 t1 tt
          go_enter Tryz.func58, Tryz.ntmps58
          go_upto_region 1 with (fail)
          rw [HW.out, HEB.out]
          clear HW
          go_wp2_with fail
          refine H5.out.mono ?_
          rintro e9 w9 ⟨rfl, b9, t9⟩
          have T9 := Lib.hid t9
          have B9 := Lib.hid (HB.out.trans b9)
          clear b9 t9
          go_wp2_with fail
          go_end0
          exact ⟨rfl, B9.out, T9.out⟩
    · rw [if_neg t1]
      have n1 : ¬ (x.t : Int) = 1 := by omega
      have nn : ¬ (e.k : Int) = 4 := by omega
      clear hk ht k4 t1
      go_enter Tryz.func58, Tryz.ntmps58
      go_upto_region 1 with (fail)
      rw [HW.out, HEB.out]
      clear HW
      go_wp2_with fail
      go_end0
      exact ⟨rfl, HB.out, HT.out⟩
end Go.Proofs.YtpbfipeinblfgaaGreatDoor
