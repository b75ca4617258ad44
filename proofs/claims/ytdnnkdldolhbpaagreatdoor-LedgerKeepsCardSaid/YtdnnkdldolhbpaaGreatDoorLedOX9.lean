/-
Ledger.Line and Live of a ledger. Conditions: the ledger is there.
api.At of a Fault: errors.As hits it. Condition: errors.errorType is laid.
Ledger.Live, Balance, Control; what a nil ledger says. Conditions: the ledger is there.
-/
import Derived.Test.YtdnnkdldolhbpaaGreatDoorLedLX9
import Derived.Test.YtdnnkdldolhbpaaGreatDoorCodeCX9
namespace Go.Proofs.YtdnnkdldolhbpaaGreatDoor
open Go.ChangeShapes Go.WideShapes Go.ChangeAt Go.RowKit Go.Maps

def cellsZ : Array Value := #[.int .u32 0, .int .i32 0, .int .u8 0, .int .u32 0, .slice none 0 0, .int .i64 0]
set_option maxRecDepth 100000 in
set_option maxHeartbeats 4000000 in
theorem Line_any (q : Nat) (D : Nat → Prop) (M : List Li) (i : Int) (hi : -9223372036854775808 ≤ i ∧ i ≤ 9223372036854775807) (w : World) (h : Led w q D M) (_ : M.length ≤ 1000000) : Calls Tryz.prog 12 #[.pointer (some ⟨q, 0, none⟩), .int .i64 i] w (LinePost (if i < 0 then none else M[i.toNat]?) w) := by
  obtain ⟨Z, hZ⟩ : ∃ Z : Array Value, Z = #[.int .u32 0, .int .i32 0, .int .u8 0, .int .u32 0, .slice none 0 0, .int .i64 0] := ⟨_, rfl⟩
  have HZ := Lib.hid (Blk.new w 42 Z)
  have HB := Lib.hid (b_alloc w (.cells Z 42))
  obtain ⟨W, hW⟩ : ∃ W, w.alloc (.cells Z 42) = W := ⟨_, rfl⟩
  rw [hW] at HZ HB
  have HL := Lib.hid (h.below HB.out)
  have HN := Lib.hid (Len_any q D M W HL.out)
  subst hZ
  have HW := Lib.hid hW
  clear hW h
  have m0 := HZ.out.cell 0
  have m1 := HZ.out.cell 1
  have m2 := HZ.out.cell 2
  have m3 := HZ.out.cell 3
  have m4 := HZ.out.cell 4
  have m5 := HZ.out.cell 5
  simp at m0 m1 m2 m3 m4 m5
  have z0 := HZ.out.frozen 0
  have z1 := HZ.out.frozen 1
  have z2 := HZ.out.frozen 2
  have z3 := HZ.out.frozen 3
  have z4 := HZ.out.frozen 4
  have z5 := HZ.out.frozen 5
  by_cases h0 : i < 0
  · rw [if_pos h0]
    go_enter Tryz.func12, Tryz.ntmps12
    go_upto_region 1 with (fail)
    rw [HW.out]
    go_wp2_with fail
    have hz := set6c HZ.out (.int .u32 0) (.int .i32 0) (.int .u8 0) (.int .u32 0) (.slice none 0 0) (.int .i64 0)
    exact fin_line hz Tryz.results12 (by rfl) (by rfl) ⟨rfl, below_set6 HB.out (Nat.le_refl _) _ _ _ _ _ _⟩
  · rw [if_neg h0]
    have h1 : (0 : Int) ≤ i := by omega
    obtain ⟨k, rfl⟩ : ∃ k : Nat, i = (k : Int) := ⟨i.toNat, by omega⟩
    rw [show ((k : Int)).toNat = k from rfl]
    by_cases hlt : k < M.length
    · rw [List.getElem?_eq_getElem hlt]
      have hlt' : (k : Int) < (M.length : Int) := by omega
      have hge' : ¬ (M.length : Int) ≤ (k : Int) := by omega
      have hx : M[k]? = some M[k] := List.getElem?_eq_getElem hlt
      obtain ⟨x, hxx⟩ : ∃ x, M[k] = x := ⟨_, rfl⟩
      rw [hxx] at hx ⊢
      have hin := HL.out.fine.inn x (List.mem_of_getElem? hx)
      have HX := Lib.hid hx
      have HIN := Lib.hid hin
      clear hxx hx hin h0
      go_enter Tryz.func12, Tryz.ntmps12
      go_upto_region 1 with (fail)
      rw [HW.out]
      go_wp2_with fail
      refine HN.out.mono ?_
      rintro e w2 ⟨rfl, hb⟩
      have HZ2 := Lib.hid (HZ.out.below hb HZ.out.lt)
      have HB2 := Lib.hid (HB.out.trans (hb.mono HB.out.size))
      have HL2 := Lib.hid (HL.out.below hb)
      clear hb m0 m1 m2 m3 m4 m5 z0 z1 z2 z3 z4 z5 HZ HB HL HN
      obtain ⟨g, o, c, A, n, kk, c0, hc, hn, hR, r0, r1, r2, r3, r4, r5⟩ := HL2.out.line HX.out
      have hO := own_any14 x.y A n kk x.o w2.heap.size x.l w2 hR hn.symm (by have := HIN.out.2.2.2.1; omega) (by have := HIN.out.2.2.2.1; omega) (Nat.le_refl _)
      have HO := Lib.hid hO
      clear hO hR hn
      unfold linW at HO
      go_wp2_with fail
      refine HO.out.mono ?_
      rintro e w3 ⟨A3, c3, rfl, ho3, hb3⟩
      have HZ3 := Lib.hid (HZ2.out.below hb3 HZ2.out.lt)
      have HB3 := Lib.hid (HB2.out.trans (hb3.mono HB2.out.size))
      have HO3 := Lib.hid ho3
      have HS := Lib.hid (show w.heap.size < w2.heap.size from HZ2.out.lt)
      clear hb3 ho3 c0 r0 r1 r2 r3 r4 r5 HZ2 HB2 HL2 HO
      have m0 := HZ3.out.cell 0
      have m1 := HZ3.out.cell 1
      have m2 := HZ3.out.cell 2
      have m3 := HZ3.out.cell 3
      have m4 := HZ3.out.cell 4
      have m5 := HZ3.out.cell 5
      simp at m0 m1 m2 m3 m4 m5
      have z0 := HZ3.out.frozen 0
      have z1 := HZ3.out.frozen 1
      have z2 := HZ3.out.frozen 2
      have z3 := HZ3.out.frozen 3
      have z4 := HZ3.out.frozen 4
      have z5 := HZ3.out.frozen 5
      unfold linW
      go_wp2_with fail
      have hz := set6c HZ3.out (.int .u32 (x.y.a : Int)) (.int .i32 x.y.d) (.int .u8 (x.y.k : Int)) (.int .u32 (x.y.s : Int)) (.slice A3 x.l.length c3) (.int .i64 (x.o : Int))
      refine fin_line hz Tryz.results12 (by rfl) (by rfl) ⟨A3, c3, rfl, ?_, below_set6 HB3.out (Nat.le_refl _) _ _ _ _ _ _⟩
      refine own_lowT (HO3.out.same (fun k hk => ?_)) (Nat.le_of_lt HS.out)
      have h1 := (HO3.out.lt k hk).1
      have h2 := HS.out
      exact heap_set6 _ _ _ _ _ _ _ _ _ (by omega)
    · rw [List.getElem?_eq_none (by omega)]
      have hge' : (M.length : Int) ≤ (k : Int) := by omega
      go_enter Tryz.func12, Tryz.ntmps12
      go_upto_region 1 with (fail)
      rw [HW.out]
      go_wp2_with fail
      refine HN.out.mono ?_
      rintro e w2 ⟨rfl, hb⟩
      have HZ2 := Lib.hid (HZ.out.below hb HZ.out.lt)
      have HB2 := Lib.hid (HB.out.trans (hb.mono HB.out.size))
      clear hb m0 m1 m2 m3 m4 m5 z0 z1 z2 z3 z4 z5 HZ HB
      have m0 := HZ2.out.cell 0
      have m1 := HZ2.out.cell 1
      have m2 := HZ2.out.cell 2
      have m3 := HZ2.out.cell 3
      have m4 := HZ2.out.cell 4
      have m5 := HZ2.out.cell 5
      simp at m0 m1 m2 m3 m4 m5
      have z0 := HZ2.out.frozen 0
      have z1 := HZ2.out.frozen 1
      have z2 := HZ2.out.frozen 2
      have z3 := HZ2.out.frozen 3
      have z4 := HZ2.out.frozen 4
      have z5 := HZ2.out.frozen 5
      go_wp2_with fail
      have hz := set6c HZ2.out (.int .u32 0) (.int .i32 0) (.int .u8 0) (.int .u32 0) (.slice none 0 0) (.int .i64 0)
      exact fin_line hz Tryz.results12 (by rfl) (by rfl) ⟨rfl, below_set6 HB2.out (Nat.le_refl _) _ _ _ _ _ _⟩
end Go.Proofs.YtdnnkdldolhbpaaGreatDoor
namespace Go.Proofs.YtdnnkdldolhbpaaGreatDoor
open Go.RowKit Go.Extern.Stop Go.Stop Go.Extern

/-! Closed facts on the model's entries for reflectlite, at this program's types. -/
theorem rl_valueOfPQ (t : Addr) (w : World) : (ReflectliteValue.unpack (.iface 120 (.pointer (some t)))).run Tryz.prog w
    = .ok (.agg #[.pointer (some ⟨1, 120, none⟩), .pointer (some ⟨w.heap.size, 0, none⟩), .int .u64 150]) (w.alloc (.cells #[.pointer (some t)] 120)) := by kernel_rfl
theorem rl_typePQ (a : Addr) (w : World) : (ReflectliteValue.methodAny (ReflectliteValue.valueError "reflectlite.Value.Type" 0) (fun t _ _ _ => ReflectliteType.toType t) #[.agg #[.pointer (some ⟨1, 120, none⟩), .pointer (some a), .int .u64 150]]).run Tryz.prog w
    = .ok (.iface 186 (.agg #[.pointer (some ⟨1, 120, none⟩)])) w := by kernel_rfl
theorem rl_kindPQ (w : World) : ((ReflectliteType.abiMethod fun t => (fun a : Nat => Value.int IntKind.u8 (a : Int)) <$> Rtype.kind t) #[.pointer (some ⟨1, 120, none⟩)]).run Tryz.prog w = .ok (.int .u8 22) w := by kernel_rfl
theorem rl_kindEQ (w : World) : ((ReflectliteType.abiMethod fun t => (fun a : Nat => Value.int IntKind.u8 (a : Int)) <$> Rtype.kind t) #[.pointer (some ⟨1, 119, none⟩)]).run Tryz.prog w = .ok (.int .u8 22) w := by kernel_rfl
theorem rl_partsPQ (a : Addr) (w : World) : (ReflectliteValue.parts (.agg #[.pointer (some ⟨1, 120, none⟩), .pointer (some a), .int .u64 150])).run Tryz.prog w = .ok (some (120, a, 150)) w := by kernel_rfl
theorem rl_isNilPQ (a p : Addr) (W : World) (ha : W.cell? a = some (.pointer (some p))) :
    (ReflectliteValue.method (ReflectliteValue.valueError "reflectlite.Value.IsNil" 0) ReflectliteValue.isNil #[.agg #[.pointer (some ⟨1, 120, none⟩), .pointer (some a), .int .u64 150]]).run Tryz.prog W = .ok (.bool false) W := by
  rw [rl_m]
  simp only [Sem.run_bind, rl_partsPQ, Result.andThen]
  simp [ReflectliteValue.isNil, loadVar, isAgg, underlying, Tryz.underlying120, ha, Result.andThen]
theorem rl_elemPQ (w : World) : (ReflectliteType.method ReflectliteType.elem #[.agg #[.pointer (some ⟨1, 120, none⟩)]]).run Tryz.prog w = .ok (.iface 186 (.agg #[.pointer (some ⟨1, 119, none⟩)])) w := by kernel_rfl
theorem rl_implEQ (w : World) : (ReflectliteType.relation "Implements" ReflectliteType.implements_ #[.agg #[.pointer (some ⟨1, 119, none⟩)], .iface 186 (.agg #[.pointer (some ⟨1, 57, none⟩)])]).run Tryz.prog w = .ok (.bool true) w := by kernel_rfl
theorem rl_typeOfEQ (v : Value) (w : World) : (ReflectliteType.typeOf #[.iface 119 v]).run Tryz.prog w = .ok (.iface 186 (.agg #[.pointer (some ⟨1, 119, none⟩)])) w := by kernel_rfl
theorem rl_assignEQ (w : World) : (ReflectliteType.relation "AssignableTo" ReflectliteType.assignableTo #[.agg #[.pointer (some ⟨1, 119, none⟩)], .iface 186 (.agg #[.pointer (some ⟨1, 119, none⟩)])]).run Tryz.prog w = .ok (.bool true) w := by kernel_rfl
theorem rl_valueOfEQ (e : Addr) (w : World) : (ReflectliteValue.unpack (.iface 119 (.pointer (some e)))).run Tryz.prog w
    = .ok (.agg #[.pointer (some ⟨1, 119, none⟩), .pointer (some ⟨w.heap.size, 0, none⟩), .int .u64 150]) (w.alloc (.cells #[.pointer (some e)] 119)) := by kernel_rfl
theorem rl_elemOfPQ (w : World) : (Rtype.elem? 120).run Tryz.prog w = .ok (some 119) w := by kernel_rfl
theorem rl_mkEQ (p : Addr) (w : World) : (ReflectliteValue.mk 119 p ReflectliteValue.flagAddr).run Tryz.prog w = .ok (.agg #[.pointer (some ⟨1, 119, none⟩), .pointer (some p), .int .u64 406]) w := by kernel_rfl
theorem rl_elemVPQ (a p : Addr) (W : World) (ha : W.cell? a = some (.pointer (some p))) :
    (ReflectliteValue.method (ReflectliteValue.valueError "reflectlite.Value.Elem" 0) ReflectliteValue.elem #[.agg #[.pointer (some ⟨1, 120, none⟩), .pointer (some a), .int .u64 150]]).run Tryz.prog W
      = .ok (.agg #[.pointer (some ⟨1, 119, none⟩), .pointer (some p), .int .u64 406]) W := by
  rw [rl_m]
  simp only [Sem.run_bind, rl_partsPQ, Result.andThen]
  simp [ReflectliteValue.elem, loadVar, isAgg, underlying, Tryz.underlying120, ha, Result.andThen, rl_elemOfPQ, rl_mkEQ]
theorem rl_partsEaQ (a : Addr) (w : World) : (ReflectliteValue.parts (.agg #[.pointer (some ⟨1, 119, none⟩), .pointer (some a), .int .u64 406])).run Tryz.prog w = .ok (some (119, a, 406)) w := by kernel_rfl
theorem rl_partsEQ (a : Addr) (w : World) : (ReflectliteValue.parts (.agg #[.pointer (some ⟨1, 119, none⟩), .pointer (some a), .int .u64 150])).run Tryz.prog w = .ok (some (119, a, 150)) w := by kernel_rfl
theorem rl_directEQ (w : World) : (Rtype.directlyAssignable 119 119).run Tryz.prog w = .ok true w := by kernel_rfl
theorem rl_setEQ (ta b : Addr) (e : Addr) (old : Value) (W : World) (hb : W.cell? b = some (.pointer (some e))) (ht : W.cell? ta = some old) (hf : W.frozen? ta = false) :
    (ReflectliteValue.set #[.agg #[.pointer (some ⟨1, 119, none⟩), .pointer (some ta), .int .u64 406], .agg #[.pointer (some ⟨1, 119, none⟩), .pointer (some b), .int .u64 150]]).run Tryz.prog W
      = .ok (.tuple #[]) (W.setCell ta (.pointer (some e))) := by
  rw [rl_s]
  simp only [Sem.run_bind, rl_partsEaQ, rl_partsEQ, Result.andThen]
  simp [ReflectliteValue.flagAddr, loadVar, isAgg, underlying, Tryz.underlying119, hb, Result.andThen, rl_directEQ, storeVar, Value.cells, storeCells, Addr.add]
  rw [run_store Tryz.prog W ta _ _ (by rfl)]
  simp [ht, hf]

set_option maxRecDepth 100000 in
set_option maxHeartbeats 4000000 in
theorem as_hitQ (e : Addr) (t : Addr) (old : Value) (w : World) (hg : w.cell? ⟨0, 0, none⟩ = some (.iface 186 (.agg #[.pointer (some ⟨1, 57, none⟩)]))) (ht0 : w.cell? t = some old) (hf0 : w.frozen? t = false) :
    Calls Tryz.prog 43 #[.iface 119 (.pointer (some e)), .iface 120 (.pointer (some t))] w fun ev w' => ev = .returned (.bool true) ∧ w' = ((((w.alloc (.cells #[.pointer (some t)] 120)).alloc (.cells #[.pointer (some ⟨1, 120, none⟩), .pointer (some ⟨w.heap.size, 0, none⟩), .int .u64 150] 150)).alloc (.cells #[.pointer (some ⟨1, 120, none⟩), .pointer (some ⟨w.heap.size, 0, none⟩), .int .u64 150] 150)).alloc (.cells #[.pointer (some e)] 119)).setCell t (.pointer (some e)) := by
  have h6 := @run_callFunc_extern Tryz.prog 74 _ (fun args => ReflectliteValue.unpack (args.getD 0 (.tuple #[]))) Tryz.func74 (by kernel_rfl) (by kernel_rfl) (by kernel_rfl) (by kernel_rfl)
  have h7 := @run_callFunc_extern Tryz.prog 75 _ (ReflectliteValue.methodAny (ReflectliteValue.valueError "reflectlite.Value.Type" 0) (fun t _ _ _ => ReflectliteType.toType t)) Tryz.func75 (by kernel_rfl) (by kernel_rfl) (by kernel_rfl) (by kernel_rfl)
  have h8 := @run_callFunc_extern Tryz.prog 76 _ (ReflectliteValue.method (ReflectliteValue.valueError "reflectlite.Value.IsNil" 0) ReflectliteValue.isNil) Tryz.func76 (by kernel_rfl) (by kernel_rfl) (by kernel_rfl) (by kernel_rfl)
  have h27 := @run_callFunc_extern Tryz.prog 152 _ (ReflectliteType.abiMethod fun t => do pure (.int .u8 (← Rtype.kind t))) Tryz.func152 (by kernel_rfl) (by kernel_rfl) (by kernel_rfl) (by kernel_rfl)
  have h37 := @run_callFunc_extern Tryz.prog 165 _ (ReflectliteType.method ReflectliteType.elem) Tryz.func165 (by kernel_rfl) (by kernel_rfl) (by kernel_rfl) (by kernel_rfl)
  have h38 := @run_callFunc_extern Tryz.prog 166 _ (ReflectliteType.relation "Implements" ReflectliteType.implements_) Tryz.func166 (by kernel_rfl) (by kernel_rfl) (by kernel_rfl) (by kernel_rfl)
  have h10 := @run_callFunc_extern Tryz.prog 103 _ ReflectliteType.typeOf Tryz.func103 (by kernel_rfl) (by kernel_rfl) (by kernel_rfl) (by kernel_rfl)
  have h35 := @run_callFunc_extern Tryz.prog 163 _ (ReflectliteType.relation "AssignableTo" ReflectliteType.assignableTo) Tryz.func163 (by kernel_rfl) (by kernel_rfl) (by kernel_rfl) (by kernel_rfl)
  have h11 := @run_callFunc_extern Tryz.prog 104 _ (ReflectliteValue.method (ReflectliteValue.valueError "reflectlite.Value.Elem" 0) ReflectliteValue.elem) Tryz.func104 (by kernel_rfl) (by kernel_rfl) (by kernel_rfl) (by kernel_rfl)
  have h12 := @run_callFunc_extern Tryz.prog 105 _ ReflectliteValue.set Tryz.func105 (by kernel_rfl) (by kernel_rfl) (by kernel_rfl) (by kernel_rfl)
  have tO := rl_typeOfEQ
  have mA := rl_methodAssignableTo
  have a25 := rl_assignEQ
  have v25 := rl_valueOfEQ
  have f6 := rl_valueOfPQ
  have f7 := rl_typePQ
  have mK := rl_methodKind
  have mE := rl_methodElem
  have mI := rl_methodImplements
  have k27 := rl_kindPQ
  have k25 := rl_kindEQ
  have e27 := rl_elemPQ
  have i25 := rl_implEQ
  obtain ⟨B1, hB1⟩ : ∃ B1 : Obj, B1 = .cells #[.pointer (some t)] 120 := ⟨_, rfl⟩
  have n8 := rl_isNilPQ ⟨w.heap.size, 0, none⟩ t ((w.alloc (.cells #[.pointer (some t)] 120)).alloc (.cells #[.pointer (some ⟨1, 120, none⟩), .pointer (some ⟨w.heap.size, 0, none⟩), .int .u64 150] 150)) (by simp)
  clear hB1 B1
  have hlt : 0 < w.heap.size := by
    rcases Nat.lt_or_ge 0 w.heap.size with h | h
    · exact h
    · simp [World.cell?, Array.getElem?_eq_none h] at hg
  have hg2 : ((w.alloc (.cells #[.pointer (some t)] 120)).alloc (.cells #[.pointer (some ⟨1, 120, none⟩), .pointer (some ⟨w.heap.size, 0, none⟩), .int .u64 150] 150)).cell? ⟨0, 0, none⟩ = some (.iface 186 (.agg #[.pointer (some ⟨1, 57, none⟩)])) := by
    rw [World.cell?_alloc_lt _ _ ⟨0, 0, none⟩ (by simp <;> omega), World.cell?_alloc_lt _ _ ⟨0, 0, none⟩ hlt]; exact hg
  have htl : t.block < w.heap.size := by
    rcases Nat.lt_or_ge t.block w.heap.size with h | h
    · exact h
    · simp [World.cell?, Array.getElem?_eq_none h] at ht0
  have el := rl_elemVPQ ⟨w.heap.size, 0, none⟩ t (((w.alloc (.cells #[.pointer (some t)] 120)).alloc (.cells #[.pointer (some ⟨1, 120, none⟩), .pointer (some ⟨w.heap.size, 0, none⟩), .int .u64 150] 150)).alloc (.cells #[.pointer (some ⟨1, 120, none⟩), .pointer (some ⟨w.heap.size, 0, none⟩), .int .u64 150] 150)) (by rw [World.cell?_alloc_lt _ _ ⟨w.heap.size, 0, none⟩ (by simp; omega)]; simp)
  have st := rl_setEQ t ⟨w.heap.size + 1 + 1 + 1, 0, none⟩ e old ((((w.alloc (.cells #[.pointer (some t)] 120)).alloc (.cells #[.pointer (some ⟨1, 120, none⟩), .pointer (some ⟨w.heap.size, 0, none⟩), .int .u64 150] 150)).alloc (.cells #[.pointer (some ⟨1, 120, none⟩), .pointer (some ⟨w.heap.size, 0, none⟩), .int .u64 150] 150)).alloc (.cells #[.pointer (some e)] 119))
    (by rw [World.cell?_alloc_at _ _ _ _ (by simp)]; rfl)
    (by rw [World.cell?_alloc_lt _ _ t (by simp; omega), World.cell?_alloc_lt _ _ t (by simp; omega), World.cell?_alloc_lt _ _ t (by simp; omega), World.cell?_alloc_lt _ _ t htl]; exact ht0)
    (by rw [World.frozen?_alloc_old _ _ t (by simp; omega), World.frozen?_alloc_old _ _ t (by simp; omega), World.frozen?_alloc_old _ _ t (by simp; omega), World.frozen?_alloc_old _ _ t (Nat.ne_of_lt htl)]; exact hf0)
  go_enter Tryz.func43, Tryz.ntmps43
  go_wp2
  refine wp_loop_rounds 1 ?_
  rw [rounds_succ]
  go_wp2
  go_ret
  exact ⟨rfl, rfl⟩
end Go.Proofs.YtdnnkdldolhbpaaGreatDoor
namespace Go.Proofs.YtdnnkdldolhbpaaGreatDoor
open Go.ChangeShapes Go.WideShapes Go.ChangeAt Go.RowKit Go.Maps

def LivePost (o : Option Li) (w : World) (e : Ending) (w' : World) : Prop :=
  match o with
  | none => e = .returned (.tuple #[zeroT, .bool false]) ∧ Below w.heap.size w w'
  | some x => ∃ A c, e = .returned (.tuple #[entV x.y (.slice A x.l.length c), .bool true]) ∧ OwnS legT 53 w' w.heap.size (.slice A x.l.length c) x.l.length x.l ∧ Below w.heap.size w w'
def liveX (M : List Li) (y : Ky) : Option Li := (liveL M y).bind (fun i => M[i]?)
theorem fin_live {Post : Ending → World → Prop} {W : World} {T : Array Value} {g : Nat} {c0 c1 c2 c3 c4 v3 : Value} (hQ : Blk W g 40 #[c0, c1, c2, c3, c4]) (h2 : T[4]? = some (.pointer (some ⟨g, 0, none⟩))) (h3 : T[5]? = some v3)
    (hp : Post (.returned (.tuple #[.agg #[c0, c1, c2, c3, c4], v3])) W) : bodyPost Tryz.prog Tryz.f16 Post Exit.ret { tmps := T, defers := [] } W := by
  have x0 := hQ.cell 0
  have x1 := hQ.cell 1
  have x2 := hQ.cell 2
  have x3 := hQ.cell 3
  have x4 := hQ.cell 4
  simp at x0 x1 x2 x3 x4
  refine bodyPost_ret (v := .tuple #[.agg #[c0, c1, c2, c3, c4], v3]) ?_ rfl hp
  simp [results, Tryz.results16, go_sem, h2, h3, x0, x1, x2, x3, x4, Result.andThen]
theorem heap_set5 (w : World) (g : Nat) (x0 x1 x2 x3 x4 : Value) (k : Nat) (hk : k ≠ g) : (((((w.setCell ⟨g, 0, none⟩ x0).setCell ⟨g, 1, none⟩ x1).setCell ⟨g, 2, none⟩ x2).setCell ⟨g, 3, none⟩ x3).setCell ⟨g, 4, none⟩ x4).heap[k]? = w.heap[k]? := by
  rw [Below.heap_setCell _ _ _ _ hk, Below.heap_setCell _ _ _ _ hk, Below.heap_setCell _ _ _ _ hk, Below.heap_setCell _ _ _ _ hk, Below.heap_setCell _ _ _ _ hk]
theorem lineField (c0 c1 c2 c3 c4 c5 : Value) (W : World) : (Instr.field 42 (.agg #[c0, c1, c2, c3, c4, c5]) 0).run Tryz.prog W = .ok (.agg #[c0, c1, c2, c3, c4]) W := by kernel_rfl
theorem ptr_np (q : Nat) (W : World) : (binOp .eql 24 (.pointer none) (.pointer (some ⟨q, 0, none⟩))).run Tryz.prog W = .ok (.bool false) W := by kernel_rfl
def cells5 : Array Value := #[.int .u32 0, .int .i32 0, .int .u8 0, .int .u32 0, .slice none 0 0]
set_option maxRecDepth 100000 in
set_option maxHeartbeats 4000000 in
theorem Live_nil (y : Ky) (w : World) : Calls Tryz.prog 16 #[.pointer none, y.v] w (LivePost none w) := by
  obtain ⟨Y, hY⟩ : ∃ Y : Array Value, Y = #[.int .u32 (y.a : Int), .int .i32 y.d, .int .u8 (y.k : Int), .int .u32 (y.s : Int)] := ⟨_, rfl⟩
  obtain ⟨Z, hZ⟩ : ∃ Z : Array Value, Z = #[.int .u32 0, .int .i32 0, .int .u8 0, .int .u32 0, .slice none 0 0] := ⟨_, rfl⟩
  have HB2 := Lib.hid ((b_alloc w (.cells Y 33)).alloc (by simp) (.cells Z 40))
  have HQ1 := Lib.hid ((Blk.new w 33 Y).alloc (.cells Z 40))
  have HQ2 : Hid (Blk ((w.alloc (.cells Y 33)).alloc (.cells Z 40)) (w.heap.size + 1) 40 Z) := Lib.hid (by
    have h := Blk.new (w.alloc (.cells Y 33)) 40 Z
    rw [show (w.alloc (.cells Y 33)).heap.size = w.heap.size + 1 by simp] at h
    exact h)
  obtain ⟨W2, hW2⟩ : ∃ W, ((w.alloc (.cells Y 33)).alloc (.cells Z 40)) = W := ⟨_, rfl⟩
  rw [hW2] at HB2 HQ1 HQ2
  have HP := Lib.hid (place_nil y W2)
  subst hY hZ
  have HW := Lib.hid hW2
  clear hW2
  unfold Ky.v placeV at HP
  unfold Ky.v
  have n0 := HQ1.out.cell 0
  have n1 := HQ1.out.cell 1
  have n2 := HQ1.out.cell 2
  have n3 := HQ1.out.cell 3
  simp at n0 n1 n2 n3
  go_enter Tryz.func16, Tryz.ntmps16
  go_upto_region 1 with (fail)
  rw [HW.out]
  go_wp2_with fail
  refine HP.out.mono ?_
  rintro e w3 ⟨rfl, hb3⟩
  have HB3 := Lib.hid (HB2.out.trans (hb3.mono HB2.out.size))
  have HZ3 := Lib.hid (HQ2.out.below hb3 HQ2.out.lt)
  clear hb3 n0 n1 n2 n3 HP HB2 HQ2 HQ1
  have m0 := HZ3.out.cell 0
  have m1 := HZ3.out.cell 1
  have m2 := HZ3.out.cell 2
  have m3 := HZ3.out.cell 3
  have m4 := HZ3.out.cell 4
  simp at m0 m1 m2 m3 m4
  have z0 := HZ3.out.frozen 0
  have z1 := HZ3.out.frozen 1
  have z2 := HZ3.out.frozen 2
  have z3 := HZ3.out.frozen 3
  have z4 := HZ3.out.frozen 4
  go_wp2_with fail
  have hz := set5c HZ3.out (.int .u32 0) (.int .i32 0) (.int .u8 0) (.int .u32 0) (.slice none 0 0)
  exact fin_live hz (by rfl) (by rfl) ⟨rfl, below_set5c HB3.out (by omega) _ _ _ _ _⟩
set_option maxRecDepth 100000 in
set_option maxHeartbeats 4000000 in
theorem Live_any (q : Nat) (D : Nat → Prop) (M : List Li) (y : Ky) (hy : y.In) (w : World) (h : Led w q D M) (_ : M.length ≤ 1000000) : Calls Tryz.prog 16 #[.pointer (some ⟨q, 0, none⟩), y.v] w (LivePost (liveX M y) w) := by
  obtain ⟨Y, hY⟩ : ∃ Y : Array Value, Y = #[.int .u32 (y.a : Int), .int .i32 y.d, .int .u8 (y.k : Int), .int .u32 (y.s : Int)] := ⟨_, rfl⟩
  obtain ⟨Z, hZ⟩ : ∃ Z : Array Value, Z = #[.int .u32 0, .int .i32 0, .int .u8 0, .int .u32 0, .slice none 0 0] := ⟨_, rfl⟩
  have HB2 := Lib.hid ((b_alloc w (.cells Y 33)).alloc (by simp) (.cells Z 40))
  have HQ1 := Lib.hid ((Blk.new w 33 Y).alloc (.cells Z 40))
  have HQ2 : Hid (Blk ((w.alloc (.cells Y 33)).alloc (.cells Z 40)) (w.heap.size + 1) 40 Z) := Lib.hid (by
    have h := Blk.new (w.alloc (.cells Y 33)) 40 Z
    rw [show (w.alloc (.cells Y 33)).heap.size = w.heap.size + 1 by simp] at h
    exact h)
  obtain ⟨W2, hW2⟩ : ∃ W, ((w.alloc (.cells Y 33)).alloc (.cells Z 40)) = W := ⟨_, rfl⟩
  rw [hW2] at HB2 HQ1 HQ2
  have HL2 := Lib.hid (h.below HB2.out)
  have hP := place_any q D M y hy W2 HL2.out
  obtain ⟨ol, hol⟩ : ∃ ol, liveL M y = ol := ⟨_, rfl⟩
  rw [hol] at hP
  have HP := Lib.hid hP
  have HOL := Lib.hid hol
  subst hY hZ
  have HW := Lib.hid hW2
  clear hW2 h hP hol
  unfold Ky.v at HP
  unfold Ky.v
  have n0 := HQ1.out.cell 0
  have n1 := HQ1.out.cell 1
  have n2 := HQ1.out.cell 2
  have n3 := HQ1.out.cell 3
  simp at n0 n1 n2 n3
  go_enter Tryz.func16, Tryz.ntmps16
  go_upto_region 1 with (fail)
  rw [HW.out]
  cases ol with
  | none =>
    unfold placeV at HP
    go_wp2_with fail
    refine HP.out.mono ?_
    rintro e w3 ⟨rfl, hb3⟩
    have HB3 := Lib.hid (HB2.out.trans (hb3.mono HB2.out.size))
    have HZ3 := Lib.hid (HQ2.out.below hb3 HQ2.out.lt)
    clear hb3 n0 n1 n2 n3 HP HB2 HQ2 HQ1
    have m0 := HZ3.out.cell 0
    have m1 := HZ3.out.cell 1
    have m2 := HZ3.out.cell 2
    have m3 := HZ3.out.cell 3
    have m4 := HZ3.out.cell 4
    simp at m0 m1 m2 m3 m4
    have z0 := HZ3.out.frozen 0
    have z1 := HZ3.out.frozen 1
    have z2 := HZ3.out.frozen 2
    have z3 := HZ3.out.frozen 3
    have z4 := HZ3.out.frozen 4
    go_wp2_with fail
    have hz := set5c HZ3.out (.int .u32 0) (.int .i32 0) (.int .u8 0) (.int .u32 0) (.slice none 0 0)
    refine fin_live hz (by rfl) (by rfl) ?_
    have e1 : liveX M y = none := by
      unfold liveX
      rw [HOL.out]
      rfl
    rw [e1]
    exact ⟨rfl, below_set5c HB3.out (by omega) _ _ _ _ _⟩
  | some i =>
    unfold placeV at HP
    go_wp2_with fail
    refine HP.out.mono ?_
    rintro e w3 ⟨rfl, hb3⟩
    have HB3 := Lib.hid (HB2.out.trans (hb3.mono HB2.out.size))
    have HZ3 := Lib.hid (HQ2.out.below hb3 HQ2.out.lt)
    have HL3 := Lib.hid (HL2.out.below hb3)
    clear hb3 n0 n1 n2 n3 HP HB2 HQ2 HQ1 HL2
    obtain ⟨x, hx, hxy, hxo⟩ := liveL_some HOL.out
    have hlt := (List.getElem?_eq_some_iff.1 hx).1
    have hin := HL3.out.fine.inn x (List.mem_of_getElem? hx)
    obtain ⟨g, o, c, A, n, kk, c0, hc, hn, hR, r0, r1, r2, r3, r4, r5⟩ := HL3.out.line hx
    have hO := own_any14 x.y A n kk x.o w3.heap.size x.l w3 hR hn.symm (by have := hin.2.2.2.1; omega) (by have := hin.2.2.2.1; omega) (Nat.le_refl _)
    have HO := Lib.hid hO
    have hlt' : (i : Int) < (M.length : Int) := by omega
    have e1 : liveX M y = some x := by
      unfold liveX
      rw [HOL.out]
      exact hx
    have HE1 := Lib.hid e1
    have HS := Lib.hid (show w.heap.size + 1 < w3.heap.size from HZ3.out.lt)
    clear hO hR hn hin hlt hx e1 hxo
    subst hxy
    unfold linW at HO
    go_wp2_with fail
    refine HO.out.mono ?_
    rintro e w4 ⟨A4, c4, rfl, ho4, hb4⟩
    have HB4 := Lib.hid (HB3.out.trans (hb4.mono HB3.out.size))
    have HZ4 := Lib.hid (HZ3.out.below hb4 HZ3.out.lt)
    have HO4 := Lib.hid ho4
    clear hb4 ho4 c0 r0 r1 r2 r3 r4 r5 HO HL3 HZ3 HB3
    have m0 := HZ4.out.cell 0
    have m1 := HZ4.out.cell 1
    have m2 := HZ4.out.cell 2
    have m3 := HZ4.out.cell 3
    have m4 := HZ4.out.cell 4
    simp at m0 m1 m2 m3 m4
    have z0 := HZ4.out.frozen 0
    have z1 := HZ4.out.frozen 1
    have z2 := HZ4.out.frozen 2
    have z3 := HZ4.out.frozen 3
    have z4 := HZ4.out.frozen 4
    have hf := lineField (.int .u32 (x.y.a : Int)) (.int .i32 x.y.d) (.int .u8 (x.y.k : Int)) (.int .u32 (x.y.s : Int)) (.slice A4 x.l.length c4) (.int .i64 (x.o : Int)) w4
    unfold linW
    go_wp2_with fail
    have hz := set5c HZ4.out (.int .u32 (x.y.a : Int)) (.int .i32 x.y.d) (.int .u8 (x.y.k : Int)) (.int .u32 (x.y.s : Int)) (.slice A4 x.l.length c4)
    refine fin_live hz (by rfl) (by rfl) ?_
    rw [HE1.out]
    refine ⟨A4, c4, rfl, ?_, below_set5c HB4.out (by omega) _ _ _ _ _⟩
    have h2 := HS.out
    refine own_lowT (HO4.out.same (fun k hk => ?_)) (show w.heap.size ≤ w3.heap.size by omega)
    have h1 := (HO4.out.lt k hk).1
    exact heap_set5 _ _ _ _ _ _ _ _ (by omega)
set_option maxRecDepth 100000 in
set_option maxHeartbeats 2000000 in
theorem Bal_nil (a c : Nat) (w : World) : Calls Tryz.prog 21 #[.pointer none, .int .u32 (a : Int), .int .u8 (c : Int)] w (Ret (.int .i64 0) w) := by
  go_enter Tryz.func21, Tryz.ntmps21
  go_wp2
  go_ret
  exact ⟨rfl, Below.refl _ _⟩
set_option maxRecDepth 100000 in
set_option maxHeartbeats 2000000 in
theorem Ctl_nil (c : Nat) (w : World) : Calls Tryz.prog 22 #[.pointer none, .int .u8 (c : Int)] w (Ret (.int .i64 0) w) := by
  go_enter Tryz.func22, Tryz.ntmps22
  go_wp2
  go_ret
  exact ⟨rfl, Below.refl _ _⟩
set_option maxRecDepth 100000 in
set_option maxHeartbeats 2000000 in
theorem Loan_nil (a : Nat) (w : World) : Calls Tryz.prog 15 #[.pointer none, .int .u32 (a : Int)] w (Ret (.slice none 0 0) w) := by
  go_enter Tryz.func15, Tryz.ntmps15
  go_wp2
  go_ret
  exact ⟨rfl, Below.refl _ _⟩
set_option maxRecDepth 100000 in
set_option maxHeartbeats 2000000 in
theorem Loans_nil (w : World) : Calls Tryz.prog 14 #[.pointer none] w (Ret (.slice none 0 0) w) := by
  go_enter Tryz.func14, Tryz.ntmps14
  go_wp2
  go_ret
  exact ⟨rfl, Below.refl _ _⟩
set_option maxRecDepth 100000 in
set_option maxHeartbeats 2000000 in
theorem Copy_nil14 (w : World) : Calls Tryz.prog 10 #[.pointer none] w (Ret (.pointer none) w) := by
  go_enter Tryz.func10, Tryz.ntmps10
  go_wp2
  go_ret
  exact ⟨rfl, Below.refl _ _⟩
set_option maxRecDepth 100000 in
set_option maxHeartbeats 2000000 in
theorem Bytes_nil14 (w : World) : Calls Tryz.prog 20 #[.pointer none] w (Ret (.slice none 0 0) w) := by
  go_enter Tryz.func20, Tryz.ntmps20
  go_wp2
  go_ret
  exact ⟨rfl, Below.refl _ _⟩
set_option maxRecDepth 100000 in
set_option maxHeartbeats 2000000 in
theorem Same_nn (w : World) : Calls Tryz.prog 23 #[.pointer none, .pointer none] w (Ret (.bool true) w) := by
  go_enter Tryz.func23, Tryz.ntmps23
  go_wp2
  go_ret
  exact ⟨rfl, Below.refl _ _⟩
set_option maxRecDepth 100000 in
set_option maxHeartbeats 2000000 in
theorem Same_np (q : Nat) (w : World) : Calls Tryz.prog 23 #[.pointer none, .pointer (some ⟨q, 0, none⟩)] w (Ret (.bool false) w) := by
  have he := ptr_np q w
  go_enter Tryz.func23, Tryz.ntmps23
  go_wp2
  go_ret
  exact ⟨rfl, Below.refl _ _⟩
theorem Led.bal {w : World} {q : Nat} {D : Nat → Prop} {M : List Li} {L : Ky → Option Nat} (h : LedL w q D M L) : ∃ bm, w.cell? ⟨q, 2, none⟩ = some (.map bm) ∧ ∀ a : Nat, a < 4294967296 → ∀ w', Below w.heap.size w w' → (Instr.lookup 83 (.map bm) (.int .u32 (a : Int)) false).run Tryz.prog w' = .ok (.agg (vec (bal M a))) w' := by
  obtain ⟨lv, V, lm, bm, inn, h1, h2, h3, h4, h5, h6, h7, h8, h9, h10, h11⟩ := h
  have c2 := h1.cell 2
  unfold ledC at c2
  simp at c2
  exact ⟨bm, c2, fun a ha w' hb => LedL.balLook h5 h9 ha w' hb⟩
set_option maxRecDepth 100000 in
set_option maxHeartbeats 2000000 in
theorem Balance_any (q : Nat) (D : Nat → Prop) (M : List Li) (a c : Nat) (ha : a < 4294967296) (hc : c < 256) (w : World) (h : Led w q D M) : Calls Tryz.prog 21 #[.pointer (some ⟨q, 0, none⟩), .int .u32 (a : Int), .int .u8 (c : Int)] w (Ret (.int .i64 (ofV (bal M a) c)) w) := by
  obtain ⟨bm, c2, hl⟩ := Led.bal h
  have hl2 := hl a ha w (Below.refl _ _)
  have HO := Lib.hid (of_any (bal M a) c hc w)
  clear h hl
  obtain ⟨f, hf⟩ : ∃ f, bal M a = f := ⟨_, rfl⟩
  rw [hf] at hl2 HO ⊢
  unfold vec at hl2 HO
  clear hf
  go_enter Tryz.func21, Tryz.ntmps21
  go_wp2_with fail
  refine HO.out.mono ?_
  rintro e w2 ⟨rfl, hb⟩
  have HB := Lib.hid hb
  clear hb
  go_wp2_with fail
  go_ret
  exact ⟨rfl, HB.out⟩
set_option maxRecDepth 100000 in
set_option maxHeartbeats 2000000 in
theorem Control_any (q : Nat) (D : Nat → Prop) (M : List Li) (c : Nat) (hc : c < 256) (w : World) (h : Led w q D M) : Calls Tryz.prog 22 #[.pointer (some ⟨q, 0, none⟩), .int .u8 (c : Int)] w (Ret (.int .i64 (ofV (ctl M) c)) w) := by
  have hl : ∃ lv lm bm, Blk w q 87 (ledC lv lm bm M) := by
    obtain ⟨lv, V, lm, bm, inn, h1, h2, h3, h4, h5, h6, h7, h8, h9, h10, h11⟩ := h
    exact ⟨_, _, _, h1⟩
  obtain ⟨lv, lm, bm, h1⟩ := hl
  have s0 := h1.cell 3
  have s1 := h1.cell 4
  have s2 := h1.cell 5
  have s3 := h1.cell 6
  have s4 := h1.cell 7
  have s5 := h1.cell 8
  have s6 := h1.cell 9
  have s7 := h1.cell 10
  have s8 := h1.cell 11
  have s9 := h1.cell 12
  unfold ledC at s0 s1 s2 s3 s4 s5 s6 s7 s8 s9
  simp at s0 s1 s2 s3 s4 s5 s6 s7 s8 s9
  clear h1
  have HO := Lib.hid (of_any (ctl M) c hc w)
  clear h
  obtain ⟨f, hf⟩ : ∃ f, ctl M = f := ⟨_, rfl⟩
  rw [hf] at s0 s1 s2 s3 s4 s5 s6 s7 s8 s9 HO ⊢
  unfold vec at HO
  clear hf
  go_enter Tryz.func22, Tryz.ntmps22
  go_wp2_with fail
  refine HO.out.mono ?_
  rintro e w2 ⟨rfl, hb⟩
  have HB := Lib.hid hb
  clear hb
  go_wp2_with fail
  go_ret
  exact ⟨rfl, HB.out⟩
end Go.Proofs.YtdnnkdldolhbpaaGreatDoor
