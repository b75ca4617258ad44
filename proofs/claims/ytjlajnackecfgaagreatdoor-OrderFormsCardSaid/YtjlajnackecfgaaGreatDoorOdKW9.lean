/-
Words cut off at blanks; numbers and kinds read of any word. Conditions: what is laid.
order.readEvent, order.read: what is read of a text, by what its words tell. Conditions: what is laid.
order.read: of any text some order; of an order's own text that order. Conditions: what is laid.
-/
import Derived.Test.YtjlajnackecfgaaGreatDoorOdGW9
import Derived.Test.YtjlajnackecfgaaGreatDoorOdHW9
namespace Go.Proofs.YtjlajnackecfgaaGreatDoor
open Go.ChangeShapes Go.WideShapes Go.ChangeAt Go.RowKit
theorem cut_blank (R D : List UInt8) (hD : ∀ b ∈ D, b ≠ 32) : Lib.cut (D ++ 32 :: R) [32] = (D, R, true) := by
  unfold Lib.cut
  rw [ib_blank R D hD, if_pos (by omega)]
  simp
theorem cut_none (D : List UInt8) (hD : ∀ b ∈ D, b ≠ 32) : Lib.cut D [32] = (D, [], false) := by
  unfold Lib.cut
  rw [ib_none D hD, if_neg (by omega)]
theorem cut_len (s : List UInt8) : (Lib.cut s [32]).1.length ≤ s.length ∧ (Lib.cut s [32]).2.1.length ≤ s.length := by
  unfold Lib.cut
  split
  · simp only [List.length_take, List.length_drop]
    omega
  · simp
/-- What stands ahead of the first blank, and behind it. -/
def c1 (s : ByteArray) : ByteArray := ⟨(Lib.cut s.data.toList [32]).1.toArray⟩
def c2 (s : ByteArray) : ByteArray := ⟨(Lib.cut s.data.toList [32]).2.1.toArray⟩
def c3 (s : ByteArray) : Bool := (Lib.cut s.data.toList [32]).2.2
theorem c1_size (s : ByteArray) : (c1 s).size ≤ s.size := by
  have h := (cut_len s.data.toList).1
  show (Lib.cut s.data.toList [32]).1.toArray.size ≤ s.data.size
  rw [List.size_toArray]
  rw [Array.length_toList] at h
  exact h
theorem c2_size (s : ByteArray) : (c2 s).size ≤ s.size := by
  have h := (cut_len s.data.toList).2
  show (Lib.cut s.data.toList [32]).2.1.toArray.size ≤ s.data.size
  rw [List.size_toArray]
  rw [Array.length_toList] at h
  exact h
theorem CutS_any (s : ByteArray) (hs : s.size ≤ 4000) (w : World) (hl : TLd w) : Calls Tryz.prog 71 #[.string s, .string ⟨#[32]⟩] w (Ret (.tuple #[.string (c1 s), .string (c2 s), .bool (c3 s)]) w) := by
  obtain ⟨m, hm⟩ := hl.mx
  refine (Tryz.strings_Cut s ⟨#[32]⟩ m w (by omega) hm).mono ?_
  rintro e w' ⟨rfl, n, rfl⟩
  exact ⟨rfl, below_drewN (Below.refl _ _) n⟩
theorem sps_two (a b : ByteArray) (r : List ByteArray) : (sps (a :: b :: r)).data.toList = a.data.toList ++ 32 :: (sps (b :: r)).data.toList := by
  show Lib.join (a.data.toList :: b.data.toList :: r.map (·.data.toList)) [32] = _
  rw [join_two]
  rfl
theorem sps_one (a : ByteArray) : sps [a] = a := bytes_inj _ _ (by
  show Lib.join [a.data.toList] [32] = _
  rw [Lib.join_one])
theorem c_sps (a b : ByteArray) (r : List ByteArray) (ha : ∀ x ∈ a.data.toList, x ≠ 32) : c1 (sps (a :: b :: r)) = a ∧ c2 (sps (a :: b :: r)) = sps (b :: r) := by
  have h : Lib.cut (sps (a :: b :: r)).data.toList [32] = (a.data.toList, (sps (b :: r)).data.toList, true) := by
    rw [sps_two]
    exact cut_blank _ _ ha
  exact ⟨bytes_inj _ _ (by unfold c1; rw [h]), bytes_inj _ _ (by unfold c2; rw [h])⟩
theorem c_one (a : ByteArray) (ha : ∀ x ∈ a.data.toList, x ≠ 32) : c1 a = a ∧ c2 a = ⟨#[]⟩ := by
  have h : Lib.cut a.data.toList [32] = (a.data.toList, [], false) := cut_none _ ha
  exact ⟨bytes_inj _ _ (by unfold c1; rw [h]), bytes_inj _ _ (by unfold c2; rw [h])⟩
/-- Some number that has the property. -/
def NumP (P : Nat → Prop) (w : World) (e : Ending) (w' : World) : Prop := (∃ n : Nat, P n ∧ e = .returned (.int .u32 (n : Int))) ∧ Below w.heap.size w w'
theorem number_any (S : ByteArray) (hS : S.size ≤ 120) (w : World) (hl : TLd w) : Calls Tryz.prog 72 #[.string S] w (NumP (· < 4294967296) w) := by
  have hU := Lib.hid (PUint_ls S hS w hl)
  clear hl
  go_enter Tryz.func72, Tryz.ntmps72
  go_wp2_with fail
  refine hU.out.mono ?_
  rintro e w1 ⟨⟨v, er, rfl, -⟩, hb⟩
  have HB := Lib.hid hb
  clear hb
  go_wp2_with fail
  go_ret
  have hw : IntKind.u32.wrap v = v % 4294967296 := IntKind.wrap_u32 v
  refine ⟨⟨(v % 4294967296).toNat, by omega, ?_⟩, HB.out⟩
  have h9 : ((v % 4294967296).toNat : Int) = v % 4294967296 := by omega
  rw [h9]
  first | rfl | simp
theorem number_dec (n : Nat) (hn : n < 4294967296) (w : World) : Calls Tryz.prog 72 #[.string (dec n)] w (NumP (· = n) w) := by
  have hU := Lib.hid (Parse_dec n (by omega) w)
  have hw : IntKind.u32.wrap (n : Int) = (n : Int) := by rw [IntKind.wrap_u32]; omega
  go_enter Tryz.func72, Tryz.ntmps72
  go_wp2_with fail
  refine hU.out.mono ?_
  rintro e w1 ⟨rfl, hb⟩
  have HB := Lib.hid hb
  clear hb
  go_wp2_with fail
  go_ret
  exact ⟨⟨n, rfl, rfl⟩, HB.out⟩
/-- The kind of events of that name. -/
def ekOf (s : ByteArray) : Nat := if s = kindS 4 then 4 else if s = kindS 5 then 5 else if s = kindS 6 then 6 else if s = kindS 7 then 7 else 0
theorem eq_no {a b : ByteArray} (h : ¬ b = a) : (a.toList == b.toList) = false := by
  rw [beq_eq_false_iff_ne]
  intro e
  rw [Lib.toList_data, Lib.toList_data] at e
  exact h (bytes_inj _ _ e.symm)
theorem eq_yes {a b : ByteArray} (h : b = a) : (a.toList == b.toList) = true := by rw [h]; simp
theorem infoU8k : (Tryz.prog.info? 5).map (fun i => (i.zero, i.size, i.bytes)) = some (some (.int .u8 0), 1, 1) := by kernel_rfl
theorem kx0 (W : World) : (Instr.index 177 (.agg #[.int .u8 4, .int .u8 5, .int .u8 6, .int .u8 7]) (.int .i64 0)).run Tryz.prog W = .ok (.int .u8 4) W := by
  obtain ⟨i0, hi, hz0, hz1, hz2⟩ := info_parts infoU8k
  simp [Instr.index, run_underlying Tryz.underlying177, sizeOf, typeInfo, go_sem, hi, hz1]
theorem kx1 (W : World) : (Instr.index 177 (.agg #[.int .u8 4, .int .u8 5, .int .u8 6, .int .u8 7]) (.int .i64 1)).run Tryz.prog W = .ok (.int .u8 5) W := by
  obtain ⟨i0, hi, hz0, hz1, hz2⟩ := info_parts infoU8k
  simp [Instr.index, run_underlying Tryz.underlying177, sizeOf, typeInfo, go_sem, hi, hz1]
theorem kx2 (W : World) : (Instr.index 177 (.agg #[.int .u8 4, .int .u8 5, .int .u8 6, .int .u8 7]) (.int .i64 2)).run Tryz.prog W = .ok (.int .u8 6) W := by
  obtain ⟨i0, hi, hz0, hz1, hz2⟩ := info_parts infoU8k
  simp [Instr.index, run_underlying Tryz.underlying177, sizeOf, typeInfo, go_sem, hi, hz1]
theorem kx3 (W : World) : (Instr.index 177 (.agg #[.int .u8 4, .int .u8 5, .int .u8 6, .int .u8 7]) (.int .i64 3)).run Tryz.prog W = .ok (.int .u8 7) W := by
  obtain ⟨i0, hi, hz0, hz1, hz2⟩ := info_parts infoU8k
  simp [Instr.index, run_underlying Tryz.underlying177, sizeOf, typeInfo, go_sem, hi, hz1]
set_option maxRecDepth 20000 in
set_option maxHeartbeats 4000000 in
theorem eventKind_4 (s t4 : ByteArray) (k4 : ∀ W, Calls Tryz.prog 45 #[.int .u8 4] W fun e w' => e = .returned (.string t4) ∧ W = w') (q4 : s = t4) (w : World) : Calls Tryz.prog 97 #[.string s] w (Ret (.int .u8 4) w) := by
  have e4 := eq_yes q4
  clear q4
  have x0 := fun W => kx0 W
  have x1 := fun W => kx1 W
  have x2 := fun W => kx2 W
  have x3 := fun W => kx3 W
  go_enter Tryz.func97, Tryz.ntmps97
  go_wp2_with fail
  refine wp_loop_rounds 5 ?_
  repeat any_goals (rw [rounds_succ]; go_wp2_with (((with_reducible refine (k4 _).mono ?_); rintro e w' ⟨rfl, rfl⟩)))
  go_ret
  exact ⟨rfl, Below.refl _ _⟩
set_option maxRecDepth 20000 in
set_option maxHeartbeats 4000000 in
theorem eventKind_5 (s t4 t5 : ByteArray) (k4 : ∀ W, Calls Tryz.prog 45 #[.int .u8 4] W fun e w' => e = .returned (.string t4) ∧ W = w') (k5 : ∀ W, Calls Tryz.prog 45 #[.int .u8 5] W fun e w' => e = .returned (.string t5) ∧ W = w') (q4 : ¬ s = t4) (q5 : s = t5) (w : World) : Calls Tryz.prog 97 #[.string s] w (Ret (.int .u8 5) w) := by
  have e4 := eq_no q4
  have e5 := eq_yes q5
  clear q4 q5
  have x0 := fun W => kx0 W
  have x1 := fun W => kx1 W
  have x2 := fun W => kx2 W
  have x3 := fun W => kx3 W
  go_enter Tryz.func97, Tryz.ntmps97
  go_wp2_with fail
  refine wp_loop_rounds 5 ?_
  repeat any_goals (rw [rounds_succ]; go_wp2_with (first | ((with_reducible refine (k4 _).mono ?_); rintro e w' ⟨rfl, rfl⟩) | ((with_reducible refine (k5 _).mono ?_); rintro e w' ⟨rfl, rfl⟩)))
  go_ret
  exact ⟨rfl, Below.refl _ _⟩
set_option maxRecDepth 20000 in
set_option maxHeartbeats 4000000 in
theorem eventKind_6 (s t4 t5 t6 : ByteArray) (k4 : ∀ W, Calls Tryz.prog 45 #[.int .u8 4] W fun e w' => e = .returned (.string t4) ∧ W = w') (k5 : ∀ W, Calls Tryz.prog 45 #[.int .u8 5] W fun e w' => e = .returned (.string t5) ∧ W = w') (k6 : ∀ W, Calls Tryz.prog 45 #[.int .u8 6] W fun e w' => e = .returned (.string t6) ∧ W = w') (q4 : ¬ s = t4) (q5 : ¬ s = t5) (q6 : s = t6) (w : World) : Calls Tryz.prog 97 #[.string s] w (Ret (.int .u8 6) w) := by
  have e4 := eq_no q4
  have e5 := eq_no q5
  have e6 := eq_yes q6
  clear q4 q5 q6
  have x0 := fun W => kx0 W
  have x1 := fun W => kx1 W
  have x2 := fun W => kx2 W
  have x3 := fun W => kx3 W
  go_enter Tryz.func97, Tryz.ntmps97
  go_wp2_with fail
  refine wp_loop_rounds 5 ?_
  repeat any_goals (rw [rounds_succ]; go_wp2_with (first | ((with_reducible refine (k4 _).mono ?_); rintro e w' ⟨rfl, rfl⟩) | ((with_reducible refine (k5 _).mono ?_); rintro e w' ⟨rfl, rfl⟩) | ((with_reducible refine (k6 _).mono ?_); rintro e w' ⟨rfl, rfl⟩)))
  go_ret
  exact ⟨rfl, Below.refl _ _⟩
set_option maxRecDepth 20000 in
set_option maxHeartbeats 4000000 in
theorem eventKind_7 (s t4 t5 t6 t7 : ByteArray) (k4 : ∀ W, Calls Tryz.prog 45 #[.int .u8 4] W fun e w' => e = .returned (.string t4) ∧ W = w') (k5 : ∀ W, Calls Tryz.prog 45 #[.int .u8 5] W fun e w' => e = .returned (.string t5) ∧ W = w') (k6 : ∀ W, Calls Tryz.prog 45 #[.int .u8 6] W fun e w' => e = .returned (.string t6) ∧ W = w') (k7 : ∀ W, Calls Tryz.prog 45 #[.int .u8 7] W fun e w' => e = .returned (.string t7) ∧ W = w') (q4 : ¬ s = t4) (q5 : ¬ s = t5) (q6 : ¬ s = t6) (q7 : s = t7) (w : World) : Calls Tryz.prog 97 #[.string s] w (Ret (.int .u8 7) w) := by
  have e4 := eq_no q4
  have e5 := eq_no q5
  have e6 := eq_no q6
  have e7 := eq_yes q7
  clear q4 q5 q6 q7
  have x0 := fun W => kx0 W
  have x1 := fun W => kx1 W
  have x2 := fun W => kx2 W
  have x3 := fun W => kx3 W
  go_enter Tryz.func97, Tryz.ntmps97
  go_wp2_with fail
  refine wp_loop_rounds 5 ?_
  repeat any_goals (rw [rounds_succ]; go_wp2_with (first | ((with_reducible refine (k4 _).mono ?_); rintro e w' ⟨rfl, rfl⟩) | ((with_reducible refine (k5 _).mono ?_); rintro e w' ⟨rfl, rfl⟩) | ((with_reducible refine (k6 _).mono ?_); rintro e w' ⟨rfl, rfl⟩) | ((with_reducible refine (k7 _).mono ?_); rintro e w' ⟨rfl, rfl⟩)))
  go_ret
  exact ⟨rfl, Below.refl _ _⟩
set_option maxRecDepth 20000 in
set_option maxHeartbeats 4000000 in
theorem eventKind_0 (s t4 t5 t6 t7 : ByteArray) (k4 : ∀ W, Calls Tryz.prog 45 #[.int .u8 4] W fun e w' => e = .returned (.string t4) ∧ W = w') (k5 : ∀ W, Calls Tryz.prog 45 #[.int .u8 5] W fun e w' => e = .returned (.string t5) ∧ W = w') (k6 : ∀ W, Calls Tryz.prog 45 #[.int .u8 6] W fun e w' => e = .returned (.string t6) ∧ W = w') (k7 : ∀ W, Calls Tryz.prog 45 #[.int .u8 7] W fun e w' => e = .returned (.string t7) ∧ W = w') (q4 : ¬ s = t4) (q5 : ¬ s = t5) (q6 : ¬ s = t6) (q7 : ¬ s = t7) (w : World) : Calls Tryz.prog 97 #[.string s] w (Ret (.int .u8 0) w) := by
  have e4 := eq_no q4
  have e5 := eq_no q5
  have e6 := eq_no q6
  have e7 := eq_no q7
  clear q4 q5 q6 q7
  have x0 := fun W => kx0 W
  have x1 := fun W => kx1 W
  have x2 := fun W => kx2 W
  have x3 := fun W => kx3 W
  go_enter Tryz.func97, Tryz.ntmps97
  go_wp2_with fail
  refine wp_loop_rounds 5 ?_
  repeat any_goals (rw [rounds_succ]; go_wp2_with (first | ((with_reducible refine (k4 _).mono ?_); rintro e w' ⟨rfl, rfl⟩) | ((with_reducible refine (k5 _).mono ?_); rintro e w' ⟨rfl, rfl⟩) | ((with_reducible refine (k6 _).mono ?_); rintro e w' ⟨rfl, rfl⟩) | ((with_reducible refine (k7 _).mono ?_); rintro e w' ⟨rfl, rfl⟩)))
  go_ret
  exact ⟨rfl, Below.refl _ _⟩
theorem eventKind_any (s : ByteArray) (w : World) : Calls Tryz.prog 97 #[.string s] w (Ret (.int .u8 (ekOf s : Int)) w) := by
  have k4 := fun W => CKind_any 4 W
  have k5 := fun W => CKind_any 5 W
  have k6 := fun W => CKind_any 6 W
  have k7 := fun W => CKind_any 7 W
  unfold ekOf
  by_cases q4 : s = kindS 4
  · rw [if_pos q4]; exact eventKind_4 s _ k4 q4 w
  rw [if_neg q4]
  by_cases q5 : s = kindS 5
  · rw [if_pos q5]; exact eventKind_5 s _ _ k4 k5 q4 q5 w
  rw [if_neg q5]
  by_cases q6 : s = kindS 6
  · rw [if_pos q6]; exact eventKind_6 s _ _ _ k4 k5 k6 q4 q5 q6 w
  rw [if_neg q6]
  by_cases q7 : s = kindS 7
  · rw [if_pos q7]; exact eventKind_7 s _ _ _ _ k4 k5 k6 k7 q4 q5 q6 q7 w
  rw [if_neg q7]
  exact eventKind_0 s _ _ _ _ k4 k5 k6 k7 q4 q5 q6 q7 w
end Go.Proofs.YtjlajnackecfgaaGreatDoor
namespace Go.Proofs.YtjlajnackecfgaaGreatDoor
open Go.ChangeShapes Go.WideShapes Go.ChangeAt Go.RowKit Go.Shelf
def NumI (k : IntKind) (P : Int → Prop) (w : World) (e : Ending) (w' : World) : Prop := (∃ v er, P v ∧ e = .returned (.tuple #[.int k v, er])) ∧ Below w.heap.size w w'
def EvP (P : Evt → Prop) (w : World) (e : Ending) (w' : World) : Prop := (∃ x : Evt, P x ∧ e = .returned x.v) ∧ Below w.heap.size w w'
def TrP (P : Trm → Prop) (w : World) (e : Ending) (w' : World) : Prop := (∃ t er, P t ∧ e = .returned (.tuple #[Trm.v t, er])) ∧ Below w.heap.size w w'
def OrP (P : Ord → Prop) (w : World) (e : Ending) (w' : World) : Prop := (∃ o, P o ∧ e = .returned (Ord.v o)) ∧ Below w.heap.size w w'
set_option maxRecDepth 100000 in
set_option maxHeartbeats 4000000 in
theorem readEvent_of {nm s q1 s' q2 q3 : ByteArray} {k : Nat} {PS : Nat → Prop} {PD PM : Int → Prop} (hs : s.size ≤ 4000) (e1 : c1 s = q1) (e2 : c2 s = s') (hs' : s'.size ≤ 4000) (e3 : c1 s' = q2) (e4 : c2 s' = q3)
    (cN : ∀ W, TLd W → Calls Tryz.prog 72 #[.string q1] W (NumP PS W)) (cK : ∀ W, Calls Tryz.prog 97 #[.string nm] W (Ret (.int .u8 (k : Int)) W))
    (cD : ∀ W, TLd W → Calls Tryz.prog 94 #[.string q2] W (NumI .i32 PD W)) (cC : ∀ W, TLd W → Calls Tryz.prog 92 #[.string q3] W (NumI .i64 PM W))
    (w : World) (hl : TLd w) : Calls Tryz.prog 74 #[.string nm, .string s] w (EvP (fun x => PS x.s ∧ PD x.d ∧ x.k = k ∧ PM x.m) w) := by
  have cS := fun W (h : TLd W) => CutS_any s hs W h
  have cS' := fun W (h : TLd W) => CutS_any s' hs' W h
  rw [e1, e2] at cS
  rw [e3, e4] at cS'
  clear e1 e2 e3 e4 hs hs'
  have HR0 := Lib.hid (Blk.new w 30 #[.int .u32 0, .int .i32 0, .int .u8 0, .int .i64 0])
  have HB0 := Lib.hid (b_alloc w (.cells #[.int .u32 0, .int .i32 0, .int .u8 0, .int .i64 0] 30))
  have HL0 := Lib.hid (hl.below HB0.out)
  have HL := Lib.hid hl
  clear hl
  go_enter Tryz.func74, Tryz.ntmps74
  go_wp2_with fail
  refine (cS _ HL0.out).mono ?_
  rintro e w1 ⟨rfl, hb⟩
  have HB1 := Lib.hid (HB0.out.trans (hb.mono HB0.out.size))
  have HR1 := Lib.hid (HR0.out.below hb HR0.out.lt)
  have HL1 := Lib.hid (HL0.out.below hb)
  clear hb HB0 HR0 HL0 cS
  go_wp2_with fail
  refine (cS' _ HL1.out).mono ?_
  rintro e w2 ⟨rfl, hb⟩
  have HB2 := Lib.hid (HB1.out.trans (hb.mono HB1.out.size))
  have HR2 := Lib.hid (HR1.out.below hb HR1.out.lt)
  have HL2 := Lib.hid (HL1.out.below hb)
  clear hb HB1 HR1 HL1 cS'
  go_wp2_with fail
  refine (cN _ HL2.out).mono ?_
  rintro e w3 ⟨⟨n, hn, rfl⟩, hb⟩
  have HB3 := Lib.hid (HB2.out.trans (hb.mono HB2.out.size))
  have HR3 := Lib.hid (HR2.out.below hb HR2.out.lt)
  have HL3 := Lib.hid (HL2.out.below hb)
  have HN := Lib.hid hn
  clear hb HB2 HR2 HL2 cN hn
  go_wp2_with fail
  refine (cK _).mono ?_
  rintro e w4 ⟨rfl, hb⟩
  have HB4 := Lib.hid (HB3.out.trans (hb.mono HB3.out.size))
  have HR4 := Lib.hid (HR3.out.below hb HR3.out.lt)
  have HL4 := Lib.hid (HL3.out.below hb)
  clear hb HB3 HR3 HL3 cK
  go_wp2_with fail
  have hG5 := Blk.new w4 30 #[.int .u32 (n : Int), .int .i32 0, .int .u8 (k : Int), .int .i64 0]
  have hR5 := HR4.out.alloc (.cells #[.int .u32 (n : Int), .int .i32 0, .int .u8 (k : Int), .int .i64 0] 30)
  have hB5 := HB4.out.alloc HB4.out.size (.cells #[.int .u32 (n : Int), .int .i32 0, .int .u8 (k : Int), .int .i64 0] 30)
  have hL5 := HL4.out.below (b_alloc w4 (.cells #[.int .u32 (n : Int), .int .i32 0, .int .u8 (k : Int), .int .i64 0] 30))
  have hrg : w.heap.size < w4.heap.size := HR4.out.lt
  obtain ⟨w5, hw5⟩ : ∃ W, w4.alloc (.cells #[.int .u32 (n : Int), .int .i32 0, .int .u8 (k : Int), .int .i64 0] 30) = W := ⟨_, rfl⟩
  obtain ⟨g, hg⟩ : ∃ g, w4.heap.size = g := ⟨_, rfl⟩
  obtain ⟨r, hr⟩ : ∃ r, w.heap.size = r := ⟨_, rfl⟩
  rw [hw5, hg] at hG5
  rw [hw5, hr] at hR5
  rw [hw5] at hB5 hL5
  rw [hg, hr] at hrg
  rw [hw5, hg, hr]
  have HG5 := Lib.hid hG5
  have HR5 := Lib.hid hR5
  have HB5 := Lib.hid hB5
  have HL5 := Lib.hid hL5
  have HX := Lib.hid (And.intro hr hrg)
  clear hG5 hR5 hB5 hL5 hw5 hg hr hrg HB4 HR4 HL4
  refine (cD _ HL5.out).mono ?_
  rintro e w6 ⟨⟨d, er, hd, rfl⟩, hb⟩
  have HB6 := Lib.hid (HB5.out.trans (hb.mono (by have := HB5.out.size; omega)))
  have HR6 := Lib.hid (HR5.out.below hb HR5.out.lt)
  have hG6 := HG5.out.below hb HG5.out.lt
  have HL6 := Lib.hid (HL5.out.below hb)
  have HD := Lib.hid hd
  have z1 := hG6.cell 1
  have f1 := hG6.frozen 1
  simp at z1
  have HG6 := Lib.hid hG6
  clear hb HB5 HR5 HG5 HL5 cD hd hG6
  go_wp2_with fail
  have hG7 := HG6.out.set_ 1 (.int .i32 d)
  simp only [List.setIfInBounds_toArray, List.set_cons_zero, List.set_cons_succ] at hG7
  have hR7 := HR6.out.far (p := ⟨g, 1, none⟩) (by have := HX.out.2; show r ≠ g; omega) (.int .i32 d)
  have hB7 := Below.setCell HB6.out (p := ⟨g, 1, none⟩) (by have := HX.out; show w.heap.size ≤ g; omega) (.int .i32 d)
  obtain ⟨w7, hw7⟩ : ∃ W, w6.setCell ⟨g, 1, none⟩ (.int .i32 d) = W := ⟨_, rfl⟩
  rw [hw7] at hG7 hR7 hB7
  rw [hw7]
  have HL7 := Lib.hid (HL.out.below hB7)
  have HG7 := Lib.hid hG7
  have HR7 := Lib.hid hR7
  have HB7 := Lib.hid hB7
  clear hG7 hR7 hB7 hw7 HB6 HR6 HG6 HL6 z1 f1
  refine (cC _ HL7.out).mono ?_
  rintro e w8 ⟨⟨m, er2, hm, rfl⟩, hb⟩
  have hB8 := HB7.out.trans (hb.mono (by have := HB7.out.size; omega))
  have hR8 := HR7.out.below hb HR7.out.lt
  have hG8 := HG7.out.below hb HG7.out.lt
  have z1 := hG8.cell 3
  have f1 := hG8.frozen 3
  simp at z1
  have hG9 := hG8.set_ 3 (.int .i64 m)
  simp only [List.setIfInBounds_toArray, List.set_cons_zero, List.set_cons_succ] at hG9
  have HG9 := Lib.hid hG9
  have HR9 := Lib.hid (hR8.far (p := ⟨g, 3, none⟩) (by have := HX.out.2; show r ≠ g; omega) (.int .i64 m))
  have HB9 := Lib.hid (Below.setCell hB8 (p := ⟨g, 3, none⟩) (by have := HX.out; show w.heap.size ≤ g; omega) (.int .i64 m))
  have HM := Lib.hid hm
  clear hb HB7 HR7 HG7 HL7 cC hm hG8 hG9 hR8 hB8 HL
  go_wp2_with (first | (with_reducible refine wpl_loadB (o := ⟨some 40, _, _, _, _, _⟩) rfl 30 (.tmp 10) rfl g 0 rfl HG9.out #[.int .u32 (n : Int), .int .i32 d, .int .u8 (k : Int), .int .i64 m] ?g1 ?g2 ?_) | (with_reducible refine wpl_storeA (o := ⟨none, _, _, _, _, _⟩) rfl 30 (.tmp 4) (.tmp 40) rfl r rfl #[.int .u32 (n : Int), .int .i32 d, .int .u8 (k : Int), .int .i64 m] rfl HR9.out ?g5 ?g6 ?g7 ?_))
  case g1 => exact part_of (by rfl)
  case g2 => exact rowEv
  case g5 => rfl
  case g6 => exact rowEv
  case g7 => simp [Value.oneCell']
  intro w10 ho hY10
  have hB10 := HB9.out.trans (below_only ho (show w.heap.size ≤ r by have := HX.out; omega))
  go_wp2_with fail
  have r0 := hY10.cell 0
  have r1 := hY10.cell 1
  have r2 := hY10.cell 2
  have r3 := hY10.cell 3
  simp at r0 r1 r2 r3
  refine bodyPost_ret (v := .agg #[.int .u32 (n : Int), .int .i32 d, .int .u8 (k : Int), .int .i64 m]) ?_ rfl ⟨⟨⟨n, d, k, m⟩, ⟨HN.out, HD.out, rfl, HM.out⟩, rfl⟩, hB10⟩
  simp [results, Tryz.results74, go_sem, r0, r1, r2, r3]
set_option maxRecDepth 100000 in
set_option maxHeartbeats 4000000 in
theorem read_1 {s q1 s' q2 q3 : ByteArray} {PN : Nat → Prop} (hs : s.size ≤ 4000) (e1 : c1 s = q1) (e2 : c2 s = s') (hs' : s'.size ≤ 4000) (e3 : c1 s' = q2) (e4 : c2 s' = q3)
    (cN : ∀ W, TLd W → Calls Tryz.prog 72 #[.string q2] W (NumP PN W)) {PT : Trm → Prop} (cT : ∀ W, TLd W → Calls Tryz.prog 73 #[.string q3] W (TrP PT W))
    (b0 : (q1.toList == [98, 111, 97, 114, 100]) = true) (w : World) (hl : TLd w) : Calls Tryz.prog 41 #[.string s] w (OrP (fun o => o.k = 1 ∧ PN o.a ∧ PT o.t ∧ o.e = Evt.zero) w) := by
  have cS := fun W (h : TLd W) => CutS_any s hs W h
  have cS' := fun W (h : TLd W) => CutS_any s' hs' W h
  rw [e1, e2] at cS
  rw [e3, e4] at cS'
  clear e1 e2 e3 e4 hs hs'
  have HR0 := Lib.hid (Blk.new w 32 #[.int .u8 0, .int .u32 0, .int .u8 0, .int .i64 0, .int .u32 0, .int .u8 0, .int .i64 0, .int .i32 0, .int .i64 0, .int .i64 0, .int .u32 0, .int .i32 0, .int .u8 0, .int .i64 0])
  have HB0 := Lib.hid (b_alloc w (.cells #[.int .u8 0, .int .u32 0, .int .u8 0, .int .i64 0, .int .u32 0, .int .u8 0, .int .i64 0, .int .i32 0, .int .i64 0, .int .i64 0, .int .u32 0, .int .i32 0, .int .u8 0, .int .i64 0] 32))
  have HL0 := Lib.hid (hl.below HB0.out)
  have HL := Lib.hid hl
  clear hl
  go_enter Tryz.func41, Tryz.ntmps41
  go_wp2_with fail
  refine (cS _ HL0.out).mono ?_
  rintro e w1 ⟨rfl, hb⟩
  have HB1 := Lib.hid (HB0.out.trans (hb.mono HB0.out.size))
  have HR1 := Lib.hid (HR0.out.below hb HR0.out.lt)
  have HL1 := Lib.hid (HL0.out.below hb)
  clear hb HB0 HR0 HL0 cS
  go_wp2_with fail
  refine (cS' _ HL1.out).mono ?_
  rintro e w2 ⟨rfl, hb⟩
  have HB2 := Lib.hid (HB1.out.trans (hb.mono HB1.out.size))
  have HR2 := Lib.hid (HR1.out.below hb HR1.out.lt)
  have HL2 := Lib.hid (HL1.out.below hb)
  clear hb HB1 HR1 HL1 cS'
  go_wp2_with fail
  refine (cN _ HL2.out).mono ?_
  rintro e w3 ⟨⟨n, hn, rfl⟩, hb⟩
  have hB3 := HB2.out.trans (hb.mono HB2.out.size)
  have hR3 := HR2.out.below hb HR2.out.lt
  have hL3 := HL2.out.below hb
  have HN := Lib.hid hn
  clear hb HB2 HR2 HL2 cN hn
  have hG5 := Blk.new w3 32 #[.int .u8 0, .int .u32 (n : Int), .int .u8 0, .int .i64 0, .int .u32 0, .int .u8 0, .int .i64 0, .int .i32 0, .int .i64 0, .int .i64 0, .int .u32 0, .int .i32 0, .int .u8 0, .int .i64 0]
  have hR5 := hR3.alloc (.cells #[.int .u8 0, .int .u32 (n : Int), .int .u8 0, .int .i64 0, .int .u32 0, .int .u8 0, .int .i64 0, .int .i32 0, .int .i64 0, .int .i64 0, .int .u32 0, .int .i32 0, .int .u8 0, .int .i64 0] 32)
  have hB5 := hB3.alloc hB3.size (.cells #[.int .u8 0, .int .u32 (n : Int), .int .u8 0, .int .i64 0, .int .u32 0, .int .u8 0, .int .i64 0, .int .i32 0, .int .i64 0, .int .i64 0, .int .u32 0, .int .i32 0, .int .u8 0, .int .i64 0] 32)
  have hL5 := hL3.below (b_alloc w3 (.cells #[.int .u8 0, .int .u32 (n : Int), .int .u8 0, .int .i64 0, .int .u32 0, .int .u8 0, .int .i64 0, .int .i32 0, .int .i64 0, .int .i64 0, .int .u32 0, .int .i32 0, .int .u8 0, .int .i64 0] 32))
  have hrg : w.heap.size < w3.heap.size := hR3.lt
  obtain ⟨w5, hw5⟩ : ∃ W, w3.alloc (.cells #[.int .u8 0, .int .u32 (n : Int), .int .u8 0, .int .i64 0, .int .u32 0, .int .u8 0, .int .i64 0, .int .i32 0, .int .i64 0, .int .i64 0, .int .u32 0, .int .i32 0, .int .u8 0, .int .i64 0] 32) = W := ⟨_, rfl⟩
  obtain ⟨g, hg⟩ : ∃ g, w3.heap.size = g := ⟨_, rfl⟩
  obtain ⟨r, hr⟩ : ∃ r, w.heap.size = r := ⟨_, rfl⟩
  rw [hw5, hg] at hG5
  rw [hw5, hr] at hR5
  rw [hw5] at hB5 hL5
  rw [hg, hr] at hrg
  have HG5 := Lib.hid hG5
  have HR5 := Lib.hid hR5
  have HB5 := Lib.hid hB5
  have HL5 := Lib.hid hL5
  have HX := Lib.hid (And.intro hr hrg)
  have HW := Lib.hid (And.intro hw5 (And.intro hg hr))
  clear hG5 hR5 hB5 hL5 hw5 hg hr hrg hB3 hR3 hL3
  go_upto_region 6 with (fail)
  rw [HW.out.1, HW.out.2.1, HW.out.2.2]
  clear HW
  have z0 := HG5.out.cell 0
  have f0 := HG5.out.frozen 0
  simp at z0
  have hG6 := HG5.out.set_ 0 (.int .u8 1)
  simp only [List.setIfInBounds_toArray, List.set_cons_zero] at hG6
  have hR6 := HR5.out.far (p := ⟨g, 0, none⟩) (by have := HX.out.2; show r ≠ g; omega) (.int .u8 1)
  have hB6 := Below.setCell HB5.out (p := ⟨g, 0, none⟩) (by have := HX.out; show w.heap.size ≤ g; omega) (.int .u8 1)
  have HG6 := Lib.hid hG6
  have HR6 := Lib.hid hR6
  have HB6 := Lib.hid hB6
  clear hG6 hR6 hB6
  have HL6 := Lib.hid (HL.out.below HB6.out)
  go_wp2_with fail
  refine (cT _ HL6.out).mono ?_
  rintro e w7 ⟨⟨⟨K, P, R, B, M, S, F, G⟩, er, ht, rfl⟩, hb⟩
  have HB7 := Lib.hid (HB6.out.trans (hb.mono (by have := HB6.out.size; omega)))
  have HR7 := Lib.hid (HR6.out.below hb HR6.out.lt)
  have HG7 := Lib.hid (HG6.out.below hb HG6.out.lt)
  have HT := Lib.hid ht
  clear hb HB5 HR5 HG5 HL5 cT ht HB6 HR6 HG6 HL6 z0 f0
  unfold Trm.v
  dsimp only
  go_wp2_with (with_reducible refine wpl_storeB (o := ⟨none, .store 28 _ _, _, _, _, _⟩) rfl 28 (.tmp 38) (.tmp 36) rfl g 2 rfl #[.int .u8 (K : Int), .int .i64 P, .int .u32 (R : Int), .int .u8 (B : Int), .int .i64 M, .int .i32 S, .int .i64 F, .int .i64 G] rfl HG7.out ?g8 ?g9 ?g10 ?_)
  case g8 => show 2 + 8 ≤ 14; decide
  case g9 => exact rowTm
  case g10 => simp [Value.oneCell']
  intro w8 ho8 hG8
  have HR8 := Lib.hid (ho8.blk HR7.out (by have := HX.out.2; show r ≠ g; omega))
  have HB8 := Lib.hid (HB7.out.trans (below_only ho8 (show w.heap.size ≤ g by have := HX.out; omega)))
  replace hG8 : Blk w8 g 32 #[.int .u8 1, .int .u32 (n : Int), .int .u8 (K : Int), .int .i64 P, .int .u32 (R : Int), .int .u8 (B : Int), .int .i64 M, .int .i32 S, .int .i64 F, .int .i64 G, .int .u32 0, .int .i32 0, .int .u8 0, .int .i64 0] := by
    simp [putL] at hG8
    exact hG8
  have HG8 := Lib.hid hG8
  clear hG8 ho8 HB7 HR7 HG7
  go_wp2_with (first | (with_reducible refine wpl_loadB (o := ⟨some 49, _, _, _, _, _⟩) rfl 32 (.tmp 8) rfl g 0 rfl HG8.out #[.int .u8 1, .int .u32 (n : Int), .int .u8 (K : Int), .int .i64 P, .int .u32 (R : Int), .int .u8 (B : Int), .int .i64 M, .int .i32 S, .int .i64 F, .int .i64 G, .int .u32 0, .int .i32 0, .int .u8 0, .int .i64 0] ?g1 ?g2 ?_) | (with_reducible refine wpl_storeA (o := ⟨none, _, _, _, _, _⟩) rfl 32 (.tmp 2) (.tmp 49) rfl r rfl #[.int .u8 1, .int .u32 (n : Int), .int .u8 (K : Int), .int .i64 P, .int .u32 (R : Int), .int .u8 (B : Int), .int .i64 M, .int .i32 S, .int .i64 F, .int .i64 G, .int .u32 0, .int .i32 0, .int .u8 0, .int .i64 0] rfl HR8.out ?g5 ?g6 ?g7 ?_))
  case g1 => exact part_of (by rfl)
  case g2 => exact rowOr
  case g5 => rfl
  case g6 => exact rowOr
  case g7 => simp [Value.oneCell']
  intro w10 ho hY10
  have hB10 := HB8.out.trans (below_only ho (show w.heap.size ≤ r by have := HX.out; omega))
  go_wp2_with fail
  obtain ⟨r0, r1, r2, r3, r4, r5, r6, r7, r8, r9, r10, r11, r12, r13⟩ := blk14 hY10
  refine bodyPost_ret (v := .agg #[.int .u8 1, .int .u32 (n : Int), .int .u8 (K : Int), .int .i64 P, .int .u32 (R : Int), .int .u8 (B : Int), .int .i64 M, .int .i32 S, .int .i64 F, .int .i64 G, .int .u32 0, .int .i32 0, .int .u8 0, .int .i64 0]) ?_ rfl ⟨⟨⟨1, n, ⟨K, P, R, B, M, S, F, G⟩, Evt.zero⟩, ⟨rfl, HN.out, HT.out, rfl⟩, rfl⟩, hB10⟩
  simp [results, Tryz.results41, go_sem, r0, r1, r2, r3, r4, r5, r6, r7, r8, r9, r10, r11, r12, r13]
set_option maxRecDepth 100000 in
set_option maxHeartbeats 4000000 in
theorem read_3 {s q1 s' q2 q3 : ByteArray} {PN : Nat → Prop} (hs : s.size ≤ 4000) (e1 : c1 s = q1) (e2 : c2 s = s') (hs' : s'.size ≤ 4000) (e3 : c1 s' = q2) (e4 : c2 s' = q3)
    (cN : ∀ W, TLd W → Calls Tryz.prog 72 #[.string q2] W (NumP PN W)) {PS : Nat → Prop} (cM : ∀ W, TLd W → Calls Tryz.prog 72 #[.string q3] W (NumP PS W))
    (b0 : (q1.toList == [98, 111, 97, 114, 100]) = false) (b1 : (q1.toList == [114, 101, 118, 101, 114, 115, 101]) = true) (w : World) (hl : TLd w) : Calls Tryz.prog 41 #[.string s] w (OrP (fun o => o.k = 3 ∧ PN o.a ∧ o.t = Trm.zero ∧ PS o.e.s ∧ o.e = ⟨o.e.s, 0, 0, 0⟩) w) := by
  have cS := fun W (h : TLd W) => CutS_any s hs W h
  have cS' := fun W (h : TLd W) => CutS_any s' hs' W h
  rw [e1, e2] at cS
  rw [e3, e4] at cS'
  clear e1 e2 e3 e4 hs hs'
  have HR0 := Lib.hid (Blk.new w 32 #[.int .u8 0, .int .u32 0, .int .u8 0, .int .i64 0, .int .u32 0, .int .u8 0, .int .i64 0, .int .i32 0, .int .i64 0, .int .i64 0, .int .u32 0, .int .i32 0, .int .u8 0, .int .i64 0])
  have HB0 := Lib.hid (b_alloc w (.cells #[.int .u8 0, .int .u32 0, .int .u8 0, .int .i64 0, .int .u32 0, .int .u8 0, .int .i64 0, .int .i32 0, .int .i64 0, .int .i64 0, .int .u32 0, .int .i32 0, .int .u8 0, .int .i64 0] 32))
  have HL0 := Lib.hid (hl.below HB0.out)
  have HL := Lib.hid hl
  clear hl
  go_enter Tryz.func41, Tryz.ntmps41
  go_wp2_with fail
  refine (cS _ HL0.out).mono ?_
  rintro e w1 ⟨rfl, hb⟩
  have HB1 := Lib.hid (HB0.out.trans (hb.mono HB0.out.size))
  have HR1 := Lib.hid (HR0.out.below hb HR0.out.lt)
  have HL1 := Lib.hid (HL0.out.below hb)
  clear hb HB0 HR0 HL0 cS
  go_wp2_with fail
  refine (cS' _ HL1.out).mono ?_
  rintro e w2 ⟨rfl, hb⟩
  have HB2 := Lib.hid (HB1.out.trans (hb.mono HB1.out.size))
  have HR2 := Lib.hid (HR1.out.below hb HR1.out.lt)
  have HL2 := Lib.hid (HL1.out.below hb)
  clear hb HB1 HR1 HL1 cS'
  go_wp2_with fail
  refine (cN _ HL2.out).mono ?_
  rintro e w3 ⟨⟨n, hn, rfl⟩, hb⟩
  have hB3 := HB2.out.trans (hb.mono HB2.out.size)
  have hR3 := HR2.out.below hb HR2.out.lt
  have hL3 := HL2.out.below hb
  have HN := Lib.hid hn
  clear hb HB2 HR2 HL2 cN hn
  have hG5 := Blk.new w3 32 #[.int .u8 0, .int .u32 (n : Int), .int .u8 0, .int .i64 0, .int .u32 0, .int .u8 0, .int .i64 0, .int .i32 0, .int .i64 0, .int .i64 0, .int .u32 0, .int .i32 0, .int .u8 0, .int .i64 0]
  have hR5 := hR3.alloc (.cells #[.int .u8 0, .int .u32 (n : Int), .int .u8 0, .int .i64 0, .int .u32 0, .int .u8 0, .int .i64 0, .int .i32 0, .int .i64 0, .int .i64 0, .int .u32 0, .int .i32 0, .int .u8 0, .int .i64 0] 32)
  have hB5 := hB3.alloc hB3.size (.cells #[.int .u8 0, .int .u32 (n : Int), .int .u8 0, .int .i64 0, .int .u32 0, .int .u8 0, .int .i64 0, .int .i32 0, .int .i64 0, .int .i64 0, .int .u32 0, .int .i32 0, .int .u8 0, .int .i64 0] 32)
  have hL5 := hL3.below (b_alloc w3 (.cells #[.int .u8 0, .int .u32 (n : Int), .int .u8 0, .int .i64 0, .int .u32 0, .int .u8 0, .int .i64 0, .int .i32 0, .int .i64 0, .int .i64 0, .int .u32 0, .int .i32 0, .int .u8 0, .int .i64 0] 32))
  have hrg : w.heap.size < w3.heap.size := hR3.lt
  obtain ⟨w5, hw5⟩ : ∃ W, w3.alloc (.cells #[.int .u8 0, .int .u32 (n : Int), .int .u8 0, .int .i64 0, .int .u32 0, .int .u8 0, .int .i64 0, .int .i32 0, .int .i64 0, .int .i64 0, .int .u32 0, .int .i32 0, .int .u8 0, .int .i64 0] 32) = W := ⟨_, rfl⟩
  obtain ⟨g, hg⟩ : ∃ g, w3.heap.size = g := ⟨_, rfl⟩
  obtain ⟨r, hr⟩ : ∃ r, w.heap.size = r := ⟨_, rfl⟩
  rw [hw5, hg] at hG5
  rw [hw5, hr] at hR5
  rw [hw5] at hB5 hL5
  rw [hg, hr] at hrg
  have HG5 := Lib.hid hG5
  have HR5 := Lib.hid hR5
  have HB5 := Lib.hid hB5
  have HL5 := Lib.hid hL5
  have HX := Lib.hid (And.intro hr hrg)
  have HW := Lib.hid (And.intro hw5 (And.intro hg hr))
  clear hG5 hR5 hB5 hL5 hw5 hg hr hrg hB3 hR3 hL3
  go_upto_region 6 with (fail)
  rw [HW.out.1, HW.out.2.1, HW.out.2.2]
  clear HW
  go_wp2_with fail
  refine (cM _ HL5.out).mono ?_
  rintro e w6 ⟨⟨x, hx, rfl⟩, hb⟩
  have HB6 := Lib.hid (HB5.out.trans (hb.mono (by have := HB5.out.size; omega)))
  have HR6 := Lib.hid (HR5.out.below hb HR5.out.lt)
  have HG6 := Lib.hid (HG5.out.below hb HG5.out.lt)
  have HXX := Lib.hid hx
  clear hb HB5 HR5 HG5 HL5 cM hx
  have z0 := HG6.out.cell 0
  have f0 := HG6.out.frozen 0
  simp at z0
  have z10 := HG6.out.cell 10
  have f10 := HG6.out.frozen 10
  simp at z10
  have hG7 := HG6.out.set_ 0 (.int .u8 3)
  simp only [List.setIfInBounds_toArray, List.set_cons_zero] at hG7
  have hR7 := HR6.out.far (p := ⟨g, 0, none⟩) (by have := HX.out.2; show r ≠ g; omega) (.int .u8 3)
  have hB7 := Below.setCell HB6.out (p := ⟨g, 0, none⟩) (by have := HX.out; show w.heap.size ≤ g; omega) (.int .u8 3)
  have HG7 := Lib.hid hG7
  have HR7 := Lib.hid hR7
  have HB7 := Lib.hid hB7
  clear hG7 hR7 hB7
  have hG8 := HG7.out.set_ 10 (.int .u32 (x : Int))
  simp only [List.setIfInBounds_toArray, List.set_cons_zero, List.set_cons_succ] at hG8
  have hR8 := HR7.out.far (p := ⟨g, 10, none⟩) (by have := HX.out.2; show r ≠ g; omega) (.int .u32 (x : Int))
  have hB8 := Below.setCell HB7.out (p := ⟨g, 10, none⟩) (by have := HX.out; show w.heap.size ≤ g; omega) (.int .u32 (x : Int))
  have HG8 := Lib.hid hG8
  have HR8 := Lib.hid hR8
  have HB8 := Lib.hid hB8
  clear hG8 hR8 hB8
  go_wp2_with (first | (with_reducible refine wpl_loadB (o := ⟨some 49, _, _, _, _, _⟩) rfl 32 (.tmp 8) rfl g 0 rfl HG8.out #[.int .u8 3, .int .u32 (n : Int), .int .u8 0, .int .i64 0, .int .u32 0, .int .u8 0, .int .i64 0, .int .i32 0, .int .i64 0, .int .i64 0, .int .u32 (x : Int), .int .i32 0, .int .u8 0, .int .i64 0] ?g1 ?g2 ?_) | (with_reducible refine wpl_storeA (o := ⟨none, _, _, _, _, _⟩) rfl 32 (.tmp 2) (.tmp 49) rfl r rfl #[.int .u8 3, .int .u32 (n : Int), .int .u8 0, .int .i64 0, .int .u32 0, .int .u8 0, .int .i64 0, .int .i32 0, .int .i64 0, .int .i64 0, .int .u32 (x : Int), .int .i32 0, .int .u8 0, .int .i64 0] rfl HR8.out ?g5 ?g6 ?g7 ?_))
  case g1 => exact part_of (by rfl)
  case g2 => exact rowOr
  case g5 => rfl
  case g6 => exact rowOr
  case g7 => simp [Value.oneCell']
  intro w10 ho hY10
  have hB10 := HB8.out.trans (below_only ho (show w.heap.size ≤ r by have := HX.out; omega))
  go_wp2_with fail
  obtain ⟨r0, r1, r2, r3, r4, r5, r6, r7, r8, r9, r10, r11, r12, r13⟩ := blk14 hY10
  refine bodyPost_ret (v := .agg #[.int .u8 3, .int .u32 (n : Int), .int .u8 0, .int .i64 0, .int .u32 0, .int .u8 0, .int .i64 0, .int .i32 0, .int .i64 0, .int .i64 0, .int .u32 (x : Int), .int .i32 0, .int .u8 0, .int .i64 0]) ?_ rfl ⟨⟨⟨3, n, Trm.zero, ⟨x, 0, 0, 0⟩⟩, ⟨rfl, HN.out, rfl, HXX.out, rfl⟩, rfl⟩, hB10⟩
  simp [results, Tryz.results41, go_sem, r0, r1, r2, r3, r4, r5, r6, r7, r8, r9, r10, r11, r12, r13]
set_option maxRecDepth 100000 in
set_option maxHeartbeats 4000000 in
theorem read_4 {s q1 s' q2 q3 : ByteArray} {PN : Nat → Prop} (hs : s.size ≤ 4000) (e1 : c1 s = q1) (e2 : c2 s = s') (hs' : s'.size ≤ 4000) (e3 : c1 s' = q2) (e4 : c2 s' = q3)
    (cN : ∀ W, TLd W → Calls Tryz.prog 72 #[.string q2] W (NumP PN W))
    (b0 : (q1.toList == [98, 111, 97, 114, 100]) = false) (b1 : (q1.toList == [114, 101, 118, 101, 114, 115, 101]) = false) (b2 : (q1.toList == [115, 116, 101, 112]) = true) (w : World) (hl : TLd w) : Calls Tryz.prog 41 #[.string s] w (OrP (fun o => o.k = 4 ∧ PN o.a ∧ o.t = Trm.zero ∧ o.e = Evt.zero) w) := by
  have cS := fun W (h : TLd W) => CutS_any s hs W h
  have cS' := fun W (h : TLd W) => CutS_any s' hs' W h
  rw [e1, e2] at cS
  rw [e3, e4] at cS'
  clear e1 e2 e3 e4 hs hs'
  have HR0 := Lib.hid (Blk.new w 32 #[.int .u8 0, .int .u32 0, .int .u8 0, .int .i64 0, .int .u32 0, .int .u8 0, .int .i64 0, .int .i32 0, .int .i64 0, .int .i64 0, .int .u32 0, .int .i32 0, .int .u8 0, .int .i64 0])
  have HB0 := Lib.hid (b_alloc w (.cells #[.int .u8 0, .int .u32 0, .int .u8 0, .int .i64 0, .int .u32 0, .int .u8 0, .int .i64 0, .int .i32 0, .int .i64 0, .int .i64 0, .int .u32 0, .int .i32 0, .int .u8 0, .int .i64 0] 32))
  have HL0 := Lib.hid (hl.below HB0.out)
  have HL := Lib.hid hl
  clear hl
  go_enter Tryz.func41, Tryz.ntmps41
  go_wp2_with fail
  refine (cS _ HL0.out).mono ?_
  rintro e w1 ⟨rfl, hb⟩
  have HB1 := Lib.hid (HB0.out.trans (hb.mono HB0.out.size))
  have HR1 := Lib.hid (HR0.out.below hb HR0.out.lt)
  have HL1 := Lib.hid (HL0.out.below hb)
  clear hb HB0 HR0 HL0 cS
  go_wp2_with fail
  refine (cS' _ HL1.out).mono ?_
  rintro e w2 ⟨rfl, hb⟩
  have HB2 := Lib.hid (HB1.out.trans (hb.mono HB1.out.size))
  have HR2 := Lib.hid (HR1.out.below hb HR1.out.lt)
  have HL2 := Lib.hid (HL1.out.below hb)
  clear hb HB1 HR1 HL1 cS'
  go_wp2_with fail
  refine (cN _ HL2.out).mono ?_
  rintro e w3 ⟨⟨n, hn, rfl⟩, hb⟩
  have hB3 := HB2.out.trans (hb.mono HB2.out.size)
  have hR3 := HR2.out.below hb HR2.out.lt
  have hL3 := HL2.out.below hb
  have HN := Lib.hid hn
  clear hb HB2 HR2 HL2 cN hn
  have hG5 := Blk.new w3 32 #[.int .u8 0, .int .u32 (n : Int), .int .u8 0, .int .i64 0, .int .u32 0, .int .u8 0, .int .i64 0, .int .i32 0, .int .i64 0, .int .i64 0, .int .u32 0, .int .i32 0, .int .u8 0, .int .i64 0]
  have hR5 := hR3.alloc (.cells #[.int .u8 0, .int .u32 (n : Int), .int .u8 0, .int .i64 0, .int .u32 0, .int .u8 0, .int .i64 0, .int .i32 0, .int .i64 0, .int .i64 0, .int .u32 0, .int .i32 0, .int .u8 0, .int .i64 0] 32)
  have hB5 := hB3.alloc hB3.size (.cells #[.int .u8 0, .int .u32 (n : Int), .int .u8 0, .int .i64 0, .int .u32 0, .int .u8 0, .int .i64 0, .int .i32 0, .int .i64 0, .int .i64 0, .int .u32 0, .int .i32 0, .int .u8 0, .int .i64 0] 32)
  have hL5 := hL3.below (b_alloc w3 (.cells #[.int .u8 0, .int .u32 (n : Int), .int .u8 0, .int .i64 0, .int .u32 0, .int .u8 0, .int .i64 0, .int .i32 0, .int .i64 0, .int .i64 0, .int .u32 0, .int .i32 0, .int .u8 0, .int .i64 0] 32))
  have hrg : w.heap.size < w3.heap.size := hR3.lt
  obtain ⟨w5, hw5⟩ : ∃ W, w3.alloc (.cells #[.int .u8 0, .int .u32 (n : Int), .int .u8 0, .int .i64 0, .int .u32 0, .int .u8 0, .int .i64 0, .int .i32 0, .int .i64 0, .int .i64 0, .int .u32 0, .int .i32 0, .int .u8 0, .int .i64 0] 32) = W := ⟨_, rfl⟩
  obtain ⟨g, hg⟩ : ∃ g, w3.heap.size = g := ⟨_, rfl⟩
  obtain ⟨r, hr⟩ : ∃ r, w.heap.size = r := ⟨_, rfl⟩
  rw [hw5, hg] at hG5
  rw [hw5, hr] at hR5
  rw [hw5] at hB5 hL5
  rw [hg, hr] at hrg
  have HG5 := Lib.hid hG5
  have HR5 := Lib.hid hR5
  have HB5 := Lib.hid hB5
  have HL5 := Lib.hid hL5
  have HX := Lib.hid (And.intro hr hrg)
  have HW := Lib.hid (And.intro hw5 (And.intro hg hr))
  clear hG5 hR5 hB5 hL5 hw5 hg hr hrg hB3 hR3 hL3
  go_upto_region 6 with (fail)
  rw [HW.out.1, HW.out.2.1, HW.out.2.2]
  clear HW
  have z0 := HG5.out.cell 0
  have f0 := HG5.out.frozen 0
  simp at z0
  have hG6 := HG5.out.set_ 0 (.int .u8 4)
  simp only [List.setIfInBounds_toArray, List.set_cons_zero] at hG6
  have hR6 := HR5.out.far (p := ⟨g, 0, none⟩) (by have := HX.out.2; show r ≠ g; omega) (.int .u8 4)
  have hB6 := Below.setCell HB5.out (p := ⟨g, 0, none⟩) (by have := HX.out; show w.heap.size ≤ g; omega) (.int .u8 4)
  have HG6 := Lib.hid hG6
  have HR6 := Lib.hid hR6
  have HB6 := Lib.hid hB6
  clear hG6 hR6 hB6
  go_wp2_with (first | (with_reducible refine wpl_loadB (o := ⟨some 49, _, _, _, _, _⟩) rfl 32 (.tmp 8) rfl g 0 rfl HG6.out #[.int .u8 4, .int .u32 (n : Int), .int .u8 0, .int .i64 0, .int .u32 0, .int .u8 0, .int .i64 0, .int .i32 0, .int .i64 0, .int .i64 0, .int .u32 0, .int .i32 0, .int .u8 0, .int .i64 0] ?g1 ?g2 ?_) | (with_reducible refine wpl_storeA (o := ⟨none, _, _, _, _, _⟩) rfl 32 (.tmp 2) (.tmp 49) rfl r rfl #[.int .u8 4, .int .u32 (n : Int), .int .u8 0, .int .i64 0, .int .u32 0, .int .u8 0, .int .i64 0, .int .i32 0, .int .i64 0, .int .i64 0, .int .u32 0, .int .i32 0, .int .u8 0, .int .i64 0] rfl HR6.out ?g5 ?g6 ?g7 ?_))
  case g1 => exact part_of (by rfl)
  case g2 => exact rowOr
  case g5 => rfl
  case g6 => exact rowOr
  case g7 => simp [Value.oneCell']
  intro w10 ho hY10
  have hB10 := HB6.out.trans (below_only ho (show w.heap.size ≤ r by have := HX.out; omega))
  go_wp2_with fail
  obtain ⟨r0, r1, r2, r3, r4, r5, r6, r7, r8, r9, r10, r11, r12, r13⟩ := blk14 hY10
  refine bodyPost_ret (v := .agg #[.int .u8 4, .int .u32 (n : Int), .int .u8 0, .int .i64 0, .int .u32 0, .int .u8 0, .int .i64 0, .int .i32 0, .int .i64 0, .int .i64 0, .int .u32 0, .int .i32 0, .int .u8 0, .int .i64 0]) ?_ rfl ⟨⟨⟨4, n, Trm.zero, Evt.zero⟩, ⟨rfl, HN.out, rfl, rfl⟩, rfl⟩, hB10⟩
  simp [results, Tryz.results41, go_sem, r0, r1, r2, r3, r4, r5, r6, r7, r8, r9, r10, r11, r12, r13]
set_option maxRecDepth 100000 in
set_option maxHeartbeats 4000000 in
theorem read_2 {s q1 s' q2 q3 : ByteArray} {PN : Nat → Prop} (hs : s.size ≤ 4000) (e1 : c1 s = q1) (e2 : c2 s = s') (hs' : s'.size ≤ 4000) (e3 : c1 s' = q2) (e4 : c2 s' = q3)
    (cN : ∀ W, TLd W → Calls Tryz.prog 72 #[.string q2] W (NumP PN W)) {PE : Evt → Prop} (cE : ∀ W, TLd W → Calls Tryz.prog 74 #[.string q1, .string q3] W (EvP PE W))
    (b0 : (q1.toList == [98, 111, 97, 114, 100]) = false) (b1 : (q1.toList == [114, 101, 118, 101, 114, 115, 101]) = false) (b2 : (q1.toList == [115, 116, 101, 112]) = false) (w : World) (hl : TLd w) : Calls Tryz.prog 41 #[.string s] w (OrP (fun o => o.k = 2 ∧ PN o.a ∧ o.t = Trm.zero ∧ PE o.e) w) := by
  have cS := fun W (h : TLd W) => CutS_any s hs W h
  have cS' := fun W (h : TLd W) => CutS_any s' hs' W h
  rw [e1, e2] at cS
  rw [e3, e4] at cS'
  clear e1 e2 e3 e4 hs hs'
  have HR0 := Lib.hid (Blk.new w 32 #[.int .u8 0, .int .u32 0, .int .u8 0, .int .i64 0, .int .u32 0, .int .u8 0, .int .i64 0, .int .i32 0, .int .i64 0, .int .i64 0, .int .u32 0, .int .i32 0, .int .u8 0, .int .i64 0])
  have HB0 := Lib.hid (b_alloc w (.cells #[.int .u8 0, .int .u32 0, .int .u8 0, .int .i64 0, .int .u32 0, .int .u8 0, .int .i64 0, .int .i32 0, .int .i64 0, .int .i64 0, .int .u32 0, .int .i32 0, .int .u8 0, .int .i64 0] 32))
  have HL0 := Lib.hid (hl.below HB0.out)
  have HL := Lib.hid hl
  clear hl
  go_enter Tryz.func41, Tryz.ntmps41
  go_wp2_with fail
  refine (cS _ HL0.out).mono ?_
  rintro e w1 ⟨rfl, hb⟩
  have HB1 := Lib.hid (HB0.out.trans (hb.mono HB0.out.size))
  have HR1 := Lib.hid (HR0.out.below hb HR0.out.lt)
  have HL1 := Lib.hid (HL0.out.below hb)
  clear hb HB0 HR0 HL0 cS
  go_wp2_with fail
  refine (cS' _ HL1.out).mono ?_
  rintro e w2 ⟨rfl, hb⟩
  have HB2 := Lib.hid (HB1.out.trans (hb.mono HB1.out.size))
  have HR2 := Lib.hid (HR1.out.below hb HR1.out.lt)
  have HL2 := Lib.hid (HL1.out.below hb)
  clear hb HB1 HR1 HL1 cS'
  go_wp2_with fail
  refine (cN _ HL2.out).mono ?_
  rintro e w3 ⟨⟨n, hn, rfl⟩, hb⟩
  have hB3 := HB2.out.trans (hb.mono HB2.out.size)
  have hR3 := HR2.out.below hb HR2.out.lt
  have hL3 := HL2.out.below hb
  have HN := Lib.hid hn
  clear hb HB2 HR2 HL2 cN hn
  have hG5 := Blk.new w3 32 #[.int .u8 0, .int .u32 (n : Int), .int .u8 0, .int .i64 0, .int .u32 0, .int .u8 0, .int .i64 0, .int .i32 0, .int .i64 0, .int .i64 0, .int .u32 0, .int .i32 0, .int .u8 0, .int .i64 0]
  have hR5 := hR3.alloc (.cells #[.int .u8 0, .int .u32 (n : Int), .int .u8 0, .int .i64 0, .int .u32 0, .int .u8 0, .int .i64 0, .int .i32 0, .int .i64 0, .int .i64 0, .int .u32 0, .int .i32 0, .int .u8 0, .int .i64 0] 32)
  have hB5 := hB3.alloc hB3.size (.cells #[.int .u8 0, .int .u32 (n : Int), .int .u8 0, .int .i64 0, .int .u32 0, .int .u8 0, .int .i64 0, .int .i32 0, .int .i64 0, .int .i64 0, .int .u32 0, .int .i32 0, .int .u8 0, .int .i64 0] 32)
  have hL5 := hL3.below (b_alloc w3 (.cells #[.int .u8 0, .int .u32 (n : Int), .int .u8 0, .int .i64 0, .int .u32 0, .int .u8 0, .int .i64 0, .int .i32 0, .int .i64 0, .int .i64 0, .int .u32 0, .int .i32 0, .int .u8 0, .int .i64 0] 32))
  have hrg : w.heap.size < w3.heap.size := hR3.lt
  obtain ⟨w5, hw5⟩ : ∃ W, w3.alloc (.cells #[.int .u8 0, .int .u32 (n : Int), .int .u8 0, .int .i64 0, .int .u32 0, .int .u8 0, .int .i64 0, .int .i32 0, .int .i64 0, .int .i64 0, .int .u32 0, .int .i32 0, .int .u8 0, .int .i64 0] 32) = W := ⟨_, rfl⟩
  obtain ⟨g, hg⟩ : ∃ g, w3.heap.size = g := ⟨_, rfl⟩
  obtain ⟨r, hr⟩ : ∃ r, w.heap.size = r := ⟨_, rfl⟩
  rw [hw5, hg] at hG5
  rw [hw5, hr] at hR5
  rw [hw5] at hB5 hL5
  rw [hg, hr] at hrg
  have HG5 := Lib.hid hG5
  have HR5 := Lib.hid hR5
  have HB5 := Lib.hid hB5
  have HL5 := Lib.hid hL5
  have HX := Lib.hid (And.intro hr hrg)
  have HW := Lib.hid (And.intro hw5 (And.intro hg hr))
  clear hG5 hR5 hB5 hL5 hw5 hg hr hrg hB3 hR3 hL3
  go_upto_region 6 with (fail)
  rw [HW.out.1, HW.out.2.1, HW.out.2.2]
  clear HW
  go_wp2_with fail
  refine (cE _ HL5.out).mono ?_
  rintro e w6 ⟨⟨⟨s1, d, k, m⟩, hx, rfl⟩, hb⟩
  have HB6 := Lib.hid (HB5.out.trans (hb.mono (by have := HB5.out.size; omega)))
  have HR6 := Lib.hid (HR5.out.below hb HR5.out.lt)
  have HG6 := Lib.hid (HG5.out.below hb HG5.out.lt)
  have HXX := Lib.hid hx
  clear hb HB5 HR5 HG5 HL5 cE hx
  have z0 := HG6.out.cell 0
  have f0 := HG6.out.frozen 0
  simp at z0
  have hG7 := HG6.out.set_ 0 (.int .u8 2)
  simp only [List.setIfInBounds_toArray, List.set_cons_zero] at hG7
  have hR7 := HR6.out.far (p := ⟨g, 0, none⟩) (by have := HX.out.2; show r ≠ g; omega) (.int .u8 2)
  have hB7 := Below.setCell HB6.out (p := ⟨g, 0, none⟩) (by have := HX.out; show w.heap.size ≤ g; omega) (.int .u8 2)
  have HG7 := Lib.hid hG7
  have HR7 := Lib.hid hR7
  have HB7 := Lib.hid hB7
  clear hG7 hR7 hB7
  unfold Evt.v
  dsimp only
  go_wp2_with (with_reducible refine wpl_storeB (o := ⟨none, .store 30 _ _, _, _, _, _⟩) rfl 30 (.tmp 29) (.tmp 27) rfl g 10 rfl #[.int .u32 (s1 : Int), .int .i32 d, .int .u8 (k : Int), .int .i64 m] rfl HG7.out ?g8 ?g9 ?g10 ?_)
  case g8 => show 10 + 4 ≤ 14; decide
  case g9 => exact rowEv
  case g10 => simp [Value.oneCell']
  intro w8 ho8 hG8
  have HR8 := Lib.hid (ho8.blk HR7.out (by have := HX.out.2; show r ≠ g; omega))
  have HB8 := Lib.hid (HB7.out.trans (below_only ho8 (show w.heap.size ≤ g by have := HX.out; omega)))
  replace hG8 : Blk w8 g 32 #[.int .u8 2, .int .u32 (n : Int), .int .u8 0, .int .i64 0, .int .u32 0, .int .u8 0, .int .i64 0, .int .i32 0, .int .i64 0, .int .i64 0, .int .u32 (s1 : Int), .int .i32 d, .int .u8 (k : Int), .int .i64 m] := by
    simp [putL] at hG8
    exact hG8
  have HG8 := Lib.hid hG8
  clear hG8 ho8 HB7 HR7 HG7
  go_wp2_with (first | (with_reducible refine wpl_loadB (o := ⟨some 49, _, _, _, _, _⟩) rfl 32 (.tmp 8) rfl g 0 rfl HG8.out #[.int .u8 2, .int .u32 (n : Int), .int .u8 0, .int .i64 0, .int .u32 0, .int .u8 0, .int .i64 0, .int .i32 0, .int .i64 0, .int .i64 0, .int .u32 (s1 : Int), .int .i32 d, .int .u8 (k : Int), .int .i64 m] ?g1 ?g2 ?_) | (with_reducible refine wpl_storeA (o := ⟨none, _, _, _, _, _⟩) rfl 32 (.tmp 2) (.tmp 49) rfl r rfl #[.int .u8 2, .int .u32 (n : Int), .int .u8 0, .int .i64 0, .int .u32 0, .int .u8 0, .int .i64 0, .int .i32 0, .int .i64 0, .int .i64 0, .int .u32 (s1 : Int), .int .i32 d, .int .u8 (k : Int), .int .i64 m] rfl HR8.out ?g5 ?g6 ?g7 ?_))
  case g1 => exact part_of (by rfl)
  case g2 => exact rowOr
  case g5 => rfl
  case g6 => exact rowOr
  case g7 => simp [Value.oneCell']
  intro w10 ho hY10
  have hB10 := HB8.out.trans (below_only ho (show w.heap.size ≤ r by have := HX.out; omega))
  go_wp2_with fail
  obtain ⟨r0, r1, r2, r3, r4, r5, r6, r7, r8, r9, r10, r11, r12, r13⟩ := blk14 hY10
  refine bodyPost_ret (v := .agg #[.int .u8 2, .int .u32 (n : Int), .int .u8 0, .int .i64 0, .int .u32 0, .int .u8 0, .int .i64 0, .int .i32 0, .int .i64 0, .int .i64 0, .int .u32 (s1 : Int), .int .i32 d, .int .u8 (k : Int), .int .i64 m]) ?_ rfl ⟨⟨⟨2, n, Trm.zero, ⟨s1, d, k, m⟩⟩, ⟨rfl, HN.out, rfl, HXX.out⟩, rfl⟩, hB10⟩
  simp [results, Tryz.results41, go_sem, r0, r1, r2, r3, r4, r5, r6, r7, r8, r9, r10, r11, r12, r13]
end Go.Proofs.YtjlajnackecfgaaGreatDoor
namespace Go.Proofs.YtjlajnackecfgaaGreatDoor
open Go.ChangeShapes Go.WideShapes Go.ChangeAt Go.RowKit Go.Shelf
theorem PUint_empty (w : World) (h : TLd w) : Calls Tryz.prog 90 #[.string ⟨#[]⟩, .int .i64 10, .int .i64 32] w fun e w' => (∃ er, e = .returned (.tuple #[.int .u64 0, er])) ∧ Below w.heap.size w w' := by
  obtain ⟨t, p, he⟩ := h.es
  refine (Any.strconv_ParseUint_10_at32_syntax Tryz.laysPu14 ⟨#[]⟩ (by decide) rfl _ w he (Or.inr ⟨t, p, rfl⟩)).mono ?_
  rintro e w' ⟨N, he, -, -, hb⟩
  exact ⟨⟨_, he⟩, hb⟩
theorem number_empty (w : World) (hl : TLd w) : Calls Tryz.prog 72 #[.string ⟨#[]⟩] w (NumP (· = 0) w) := by
  have hU := Lib.hid (PUint_empty w hl)
  clear hl
  go_enter Tryz.func72, Tryz.ntmps72
  go_wp2_with fail
  refine hU.out.mono ?_
  rintro e w1 ⟨⟨er, rfl⟩, hb⟩
  have HB := Lib.hid hb
  clear hb
  go_wp2_with fail
  go_ret
  exact ⟨⟨0, rfl, by first | rfl | simp⟩, HB.out⟩
theorem date_any (S : ByteArray) (hS : S.size ≤ 120) (w : World) (hl : TLd w) : Calls Tryz.prog 94 #[.string S] w (NumI .i32 (fun _ => True) w) := (DRd_ls S hS w hl).mono fun _ _ ⟨⟨v, er, h1, _⟩, h2⟩ => ⟨⟨v, er, trivial, h1⟩, h2⟩
theorem coin_any (S : ByteArray) (hS : S.size ≤ 120) (w : World) (hl : TLd w) : Calls Tryz.prog 92 #[.string S] w (NumI .i64 (fun _ => True) w) := (CRd_ls S hS w hl).mono fun _ _ ⟨⟨v, er, h1, _⟩, h2⟩ => ⟨⟨v, er, trivial, h1⟩, h2⟩
theorem terms_any (S : ByteArray) (hS : S.size ≤ 120) (w : World) (hl : TLd w) : Calls Tryz.prog 73 #[.string S] w (TrP (fun _ => True) w) := (TRead_any S hS w hl).mono fun _ _ ⟨h1, h2⟩ => ⟨by
  rcases h1 with ⟨t, _, _, he⟩ | he
  · exact ⟨t, _, trivial, he⟩
  · exact ⟨Trm.zero, _, trivial, he⟩, h2⟩
theorem EvP.mono {P Q : Evt → Prop} (h : ∀ x, P x → Q x) {w : World} {e : Ending} {w' : World} (hp : EvP P w e w') : EvP Q w e w' := by
  obtain ⟨⟨x, hx, he⟩, hb⟩ := hp
  exact ⟨⟨x, h x hx, he⟩, hb⟩
theorem OrP.mono {P Q : Ord → Prop} (h : ∀ x, P x → Q x) {w : World} {e : Ending} {w' : World} (hp : OrP P w e w') : OrP Q w e w' := by
  obtain ⟨⟨x, hx, he⟩, hb⟩ := hp
  exact ⟨⟨x, h x hx, he⟩, hb⟩
theorem readEvent_any (nm s : ByteArray) (hs : s.size ≤ 120) (w : World) (hl : TLd w) : Calls Tryz.prog 74 #[.string nm, .string s] w (EvP (fun x => x.s < 4294967296) w) := by
  have h1 := c1_size s
  have h2 := c2_size s
  have h3 := c1_size (c2 s)
  have h4 := c2_size (c2 s)
  exact (readEvent_of (by omega) rfl rfl (by omega) rfl rfl (fun W h => number_any (c1 s) (by omega) W h) (fun W => eventKind_any nm W) (fun W h => date_any (c1 (c2 s)) (by omega) W h) (fun W h => coin_any (c2 (c2 s)) (by omega) W h) w hl).mono fun _ _ hp => hp.mono fun x hx => hx.1
/-- What is read of any text. -/
def anyO (o : Ord) : Prop := o.a < 4294967296 ∧ o.e.s < 4294967296
theorem read_any (s : ByteArray) (hs : s.size ≤ 120) (w : World) (hl : TLd w) : Calls Tryz.prog 41 #[.string s] w (OrP anyO w) := by
  have h1 := c1_size s
  have h2 := c2_size s
  have h3 := c1_size (c2 s)
  have h4 := c2_size (c2 s)
  have cN := fun W h => number_any (c1 (c2 s)) (by omega) W h
  cases b0 : ((c1 s).toList == [98, 111, 97, 114, 100])
  · cases b1 : ((c1 s).toList == [114, 101, 118, 101, 114, 115, 101])
    · cases b2 : ((c1 s).toList == [115, 116, 101, 112])
      · exact (read_2 (by omega) rfl rfl (by omega) rfl rfl cN (fun W h => readEvent_any (c1 s) (c2 (c2 s)) (by omega) W h) b0 b1 b2 w hl).mono fun _ _ hp => hp.mono fun o h => ⟨h.2.1, h.2.2.2⟩
      · exact (read_4 (by omega) rfl rfl (by omega) rfl rfl cN b0 b1 b2 w hl).mono fun _ _ hp => hp.mono fun o h => ⟨h.2.1, by rw [h.2.2.2]; decide⟩
    · exact (read_3 (by omega) rfl rfl (by omega) rfl rfl cN (fun W h => number_any (c2 (c2 s)) (by omega) W h) b0 b1 w hl).mono fun _ _ hp => hp.mono fun o h => ⟨h.2.1, h.2.2.2.1⟩
  · exact (read_1 (by omega) rfl rfl (by omega) rfl rfl cN (fun W h => terms_any (c2 (c2 s)) (by omega) W h) b0 w hl).mono fun _ _ hp => hp.mono fun o h => ⟨h.2.1, by rw [h.2.2.2]; decide⟩
theorem kindS_ok (k : Nat) : ∀ x ∈ (kindS k).data.toList, x ≠ 32 := by
  unfold kindS
  repeat (split; · decide)
  decide
theorem sps_size3 {a b c : ByteArray} (ha : a.data.toList.length ≤ 400) (hb : b.data.toList.length ≤ 400) (hc : c.data.toList.length ≤ 400) : (sps [a, b, c]).size ≤ 4000 := by
  show (Lib.join (([a, b, c] : List ByteArray).map (·.data.toList)) [32]).toArray.size ≤ 4000
  rw [List.size_toArray]
  simp only [List.map_cons, List.map_nil, Lib.join_cons, Lib.joinTail, List.flatten_cons, List.flatten_nil, List.length_append, List.length_cons, List.length_nil]
  omega
theorem sps_size4 {a b c d : ByteArray} (ha : a.data.toList.length ≤ 400) (hb : b.data.toList.length ≤ 400) (hc : c.data.toList.length ≤ 400) (hd : d.data.toList.length ≤ 400) : (sps [a, b, c, d]).size ≤ 4000 := by
  show (Lib.join (([a, b, c, d] : List ByteArray).map (·.data.toList)) [32]).toArray.size ≤ 4000
  rw [List.size_toArray]
  simp only [List.map_cons, List.map_nil, Lib.join_cons, Lib.joinTail, List.flatten_cons, List.flatten_nil, List.length_append, List.length_cons, List.length_nil]
  omega
theorem sps_size5 {a b c d e : ByteArray} (ha : a.data.toList.length ≤ 400) (hb : b.data.toList.length ≤ 400) (hc : c.data.toList.length ≤ 400) (hd : d.data.toList.length ≤ 400) (he : e.data.toList.length ≤ 400) : (sps [a, b, c, d, e]).size ≤ 4000 := by
  show (Lib.join (([a, b, c, d, e] : List ByteArray).map (·.data.toList)) [32]).toArray.size ≤ 4000
  rw [List.size_toArray]
  simp only [List.map_cons, List.map_nil, Lib.join_cons, Lib.joinTail, List.flatten_cons, List.flatten_nil, List.length_append, List.length_cons, List.length_nil]
  omega
theorem date_own (d : Int) (h : 0 ≤ d ∧ d ≤ 3652058) (w : World) (hl : TLd w) : Calls Tryz.prog 94 #[.string (dayText d)] w (NumI .i32 (· = d) w) := (Read_text d h.1 h.2 w hl.le hl.po).mono fun _ _ ⟨h1, h2⟩ => ⟨⟨d, _, rfl, h1⟩, h2⟩
theorem coin_own (m : Int) (h : -9223372036854775808 ≤ m ∧ m ≤ 9223372036854775807) (w : World) (hl : TLd w) : Calls Tryz.prog 92 #[.string (textC m)] w (NumI .i64 (· = m) w) := by
  obtain ⟨x, hx⟩ := hl.mx
  obtain ⟨a, ha⟩ := hl.er
  exact (Read_any m h w x hx _ _ ha).mono fun _ _ ⟨h1, h2⟩ => ⟨⟨m, _, rfl, h1⟩, h2⟩
theorem coin_empty (w : World) (hl : TLd w) : Calls Tryz.prog 92 #[.string ⟨#[]⟩] w (NumI .i64 (· = 0) w) := by
  obtain ⟨x, hx⟩ := hl.mx
  exact (CRead_no ⟨#[]⟩ (by decide) (by decide) w x hx).mono fun _ _ ⟨h1, h2⟩ => ⟨⟨0, _, rfl, h1⟩, h2⟩
theorem terms_own (t : Trm) (h : t.Right) (w : World) (hl : TLd w) : Calls Tryz.prog 73 #[.string t.text] w (TrP (· = t) w) := by
  obtain ⟨x, hx⟩ := hl.mx
  obtain ⟨a, ha⟩ := hl.er
  exact (TRead_text h w hl.le hl.po x hx _ _ ha).mono fun _ _ ⟨h1, h2⟩ => ⟨⟨t, _, rfl, h1⟩, h2⟩
theorem c_empty : c1 ⟨#[]⟩ = ⟨#[]⟩ ∧ c2 ⟨#[]⟩ = ⟨#[]⟩ := c_one _ (by decide)
theorem ek_kind {k : Nat} (h : k = 4 ∨ k = 5 ∨ k = 6 ∨ k = 7) : ekOf (kindS k) = k := by
  rcases h with rfl | rfl | rfl | rfl <;> decide +kernel
theorem readEvent_own (x : Evt) (hx : x.Right) (hi : x.In) (w : World) (hl : TLd w) :
    Calls Tryz.prog 74 #[.string (kindS x.k), .string (if x.k = 7 then sps [dec x.s, dayText x.d] else sps [dec x.s, dayText x.d, textC x.m])] w (EvP (· = x) w) := by
  obtain ⟨hd, hk⟩ := hx
  have cK : ∀ W, Calls Tryz.prog 97 #[.string (kindS x.k)] W (Ret (.int .u8 (x.k : Int)) W) := fun W => by
    have := eventKind_any (kindS x.k) W
    rwa [ek_kind (by omega)] at this
  have hs := dec_ok x.s
  have hsl := dec_len x.s (by have := hi.s; omega)
  have hdy := day_ok x.d
  have hdl := day_len x.d
  have hcl := textC_len x.m hi.m
  by_cases h7 : x.k = 7
  · rw [if_pos h7]
    obtain ⟨q1, q2⟩ := c_sps (dec x.s) (dayText x.d) [] hs
    rw [sps_one] at q2
    obtain ⟨q3, q4⟩ := c_one (dayText x.d) hdy
    refine (readEvent_of (by
      show (Lib.join (([dec x.s, dayText x.d] : List ByteArray).map (·.data.toList)) [32]).toArray.size ≤ 4000
      rw [List.size_toArray]
      simp only [List.map_cons, List.map_nil, Lib.join_cons, Lib.joinTail, List.flatten_cons, List.flatten_nil, List.length_append, List.length_cons, List.length_nil]
      omega) q1 q2 (by rw [Array.length_toList] at hdl; exact Nat.le_trans hdl (by decide)) q3 q4 (fun W h => number_dec x.s hi.s W) cK (fun W h => date_own x.d hd W h) (fun W h => coin_empty W h) w hl).mono fun _ _ hp => hp.mono ?_
    rintro ⟨s, d, k, m⟩ ⟨h1, h2, h3, h4⟩
    obtain ⟨s', d', k', m'⟩ := x
    dsimp only at *
    subst h1 h2 h3 h4
    have : m' = 0 := by omega
    rw [this]
  · rw [if_neg h7]
    obtain ⟨q1, q2⟩ := c_sps (dec x.s) (dayText x.d) [textC x.m] hs
    obtain ⟨q3, q4⟩ := c_sps (dayText x.d) (textC x.m) [] hdy
    rw [sps_one] at q4
    refine (readEvent_of (sps_size3 (by omega) (by omega) (by omega)) q1 q2 (by
      show (Lib.join (([dayText x.d, textC x.m] : List ByteArray).map (·.data.toList)) [32]).toArray.size ≤ 4000
      rw [List.size_toArray]
      simp only [List.map_cons, List.map_nil, Lib.join_cons, Lib.joinTail, List.flatten_cons, List.flatten_nil, List.length_append, List.length_cons, List.length_nil]
      omega) q3 q4 (fun W h => number_dec x.s hi.s W) cK (fun W h => date_own x.d hd W h) (fun W h => coin_own x.m hi.m W h) w hl).mono fun _ _ hp => hp.mono ?_
    rintro ⟨s, d, k, m⟩ ⟨h1, h2, h3, h4⟩
    obtain ⟨s', d', k', m'⟩ := x
    dsimp only at *
    subst h1 h2 h3 h4
    rfl
theorem word_of {a : ByteArray} {l : List UInt8} (h : a.data.toList = l) : (a.toList == l) = true := by rw [Lib.toList_data, h]; simp
theorem word_not {a : ByteArray} {l : List UInt8} (h : a.data.toList ≠ l) : (a.toList == l) = false := by rw [Lib.toList_data, beq_eq_false_iff_ne]; exact h
theorem kind_words {k : Nat} (h : k = 4 ∨ k = 5 ∨ k = 6 ∨ k = 7) : (kindS k).data.toList ≠ [98, 111, 97, 114, 100] ∧ (kindS k).data.toList ≠ [114, 101, 118, 101, 114, 115, 101] ∧ (kindS k).data.toList ≠ [115, 116, 101, 112] := by
  rcases h with rfl | rfl | rfl | rfl <;> decide
theorem read_own (o : Ord) (hi : o.In) (h : o.Right) (w : World) (hl : TLd w) : Calls Tryz.prog 41 #[.string o.text] w (OrP (· = o) w) := by
  obtain ⟨h0, h1, h2, h3, h4⟩ := h
  have ha := dec_ok o.a
  have hal := dec_len o.a (by have := hi.a; omega)
  unfold Ord.text
  by_cases k1 : o.k = 1
  · rw [if_pos k1]
    have hR := h1 k1
    have htl : o.t.text.data.toList.length ≤ 300 := by rw [Array.length_toList]; exact Trm.size hR
    obtain ⟨q1, q2⟩ := c_sps boardS (dec o.a) [o.t.text] (by decide)
    obtain ⟨q3, q4⟩ := c_sps (dec o.a) o.t.text [] ha
    rw [sps_one] at q4
    refine (read_1 (sps_size3 (by decide) (by omega) (by omega)) q1 q2 (by
      show (Lib.join (([dec o.a, o.t.text] : List ByteArray).map (·.data.toList)) [32]).toArray.size ≤ 4000
      rw [List.size_toArray]
      simp only [List.map_cons, List.map_nil, Lib.join_cons, Lib.joinTail, List.flatten_cons, List.flatten_nil, List.length_append, List.length_cons, List.length_nil]
      omega) q3 q4 (fun W h => number_dec o.a hi.a W) (fun W h => terms_own o.t hR W h) (word_of rfl) w hl).mono fun _ _ hp => hp.mono ?_
    rintro ⟨k, a, t, e⟩ ⟨r1, r2, r3, r4⟩
    dsimp only at r1 r2 r3 r4
    rw [h0]
    unfold Ord.named
    rw [if_pos k1, r1, r2, r3, r4]
  rw [if_neg k1]
  by_cases k3 : o.k = 3
  · rw [if_pos k3]
    have hs := dec_ok o.e.s
    have hsl := dec_len o.e.s (by have := hi.e.s; omega)
    obtain ⟨q1, q2⟩ := c_sps revS (dec o.a) [dec o.e.s] (by decide)
    obtain ⟨q3, q4⟩ := c_sps (dec o.a) (dec o.e.s) [] ha
    rw [sps_one] at q4
    refine (read_3 (sps_size3 (by decide) (by omega) (by omega)) q1 q2 (by
      show (Lib.join (([dec o.a, dec o.e.s] : List ByteArray).map (·.data.toList)) [32]).toArray.size ≤ 4000
      rw [List.size_toArray]
      simp only [List.map_cons, List.map_nil, Lib.join_cons, Lib.joinTail, List.flatten_cons, List.flatten_nil, List.length_append, List.length_cons, List.length_nil]
      omega) q3 q4 (fun W h => number_dec o.a hi.a W) (fun W h => number_dec o.e.s hi.e.s W) (word_not (by decide)) (word_of rfl) w hl).mono fun _ _ hp => hp.mono ?_
    rintro ⟨k, a, t, e⟩ ⟨r1, r2, r3, r4, r5⟩
    dsimp only at r1 r2 r3 r4 r5
    rw [h0]
    unfold Ord.named
    rw [if_neg k1, if_neg (by omega), if_pos k3, r1, r2, r3, r5, r4]
  rw [if_neg k3]
  by_cases k4 : o.k = 4
  · rw [if_pos k4]
    obtain ⟨q1, q2⟩ := c_one stepS (by decide)
    obtain ⟨q3, q4⟩ := c_empty
    refine (read_4 (by decide) q1 q2 (by decide) q3 q4 (fun W h => number_empty W h) (word_not (by decide)) (word_not (by decide)) (word_of rfl) w hl).mono fun _ _ hp => hp.mono ?_
    rintro ⟨k, a, t, e⟩ ⟨r1, r2, r3, r4⟩
    dsimp only at r1 r2 r3 r4
    rw [h0]
    unfold Ord.named
    rw [if_neg k1, if_neg (by omega), if_neg k3, r1, r2, r3, r4, k4]
  rw [if_neg k4]
  have k2 : o.k = 2 := by omega
  have hR := h2 k2
  have hk := hR.k
  obtain ⟨n1, n2, n3⟩ := kind_words (k := o.e.k) (by omega)
  have hsl := dec_len o.e.s (by have := hi.e.s; omega)
  have hdl := day_len o.e.d
  have hcl := textC_len o.e.m hi.e.m
  have hkl := kindS_len o.e.k
  have hE := fun W h => readEvent_own o.e hR hi.e W h
  have fin : ∀ x : Ord, x.k = 2 ∧ x.a = o.a ∧ x.t = Trm.zero ∧ x.e = o.e → x = o := by
    rintro ⟨k, a, t, e⟩ ⟨r1, r2, r3, r4⟩
    dsimp only at r1 r2 r3 r4
    rw [h0]
    unfold Ord.named
    rw [if_neg k1, if_pos k2, r1, r2, r3, r4]
  by_cases k7 : o.e.k = 7
  · rw [if_pos k7]
    simp only [if_pos k7] at hE
    obtain ⟨q1, q2⟩ := c_sps (kindS o.e.k) (dec o.a) [dec o.e.s, dayText o.e.d] (kindS_ok _)
    obtain ⟨q3, q4⟩ := c_sps (dec o.a) (dec o.e.s) [dayText o.e.d] ha
    exact (read_2 (sps_size4 (by omega) (by omega) (by omega) (by omega)) q1 q2 (sps_size3 (by omega) (by omega) (by omega)) q3 q4 (fun W h => number_dec o.a hi.a W) hE (word_not n1) (word_not n2) (word_not n3) w hl).mono fun _ _ hp => hp.mono fin
  · rw [if_neg k7]
    simp only [if_neg k7] at hE
    obtain ⟨q1, q2⟩ := c_sps (kindS o.e.k) (dec o.a) [dec o.e.s, dayText o.e.d, textC o.e.m] (kindS_ok _)
    obtain ⟨q3, q4⟩ := c_sps (dec o.a) (dec o.e.s) [dayText o.e.d, textC o.e.m] ha
    exact (read_2 (sps_size5 (by omega) (by omega) (by omega) (by omega) (by omega)) q1 q2 (sps_size4 (by omega) (by omega) (by omega) (by omega)) q3 q4 (fun W h => number_dec o.a hi.a W) hE (word_not n1) (word_not n2) (word_not n3) w hl).mono fun _ _ hp => hp.mono fin
end Go.Proofs.YtjlajnackecfgaaGreatDoor
