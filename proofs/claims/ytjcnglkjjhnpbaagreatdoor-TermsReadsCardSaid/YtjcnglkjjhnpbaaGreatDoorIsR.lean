/-
  errors.Is of a *NumError that wraps strconv.ErrRange. Condition: its block is there.
-/
import Derived.Test.YtjcnglkjjhnpbaaGreatDoorCodeC
import Derived.Test.YtjcnglkjjhnpbaaGreatDoorCRdP
import Derived.Stop.Asserts
import Derived.LaidEql
namespace Go.Proofs.YtjcnglkjjhnpbaaGreatDoor
open Go.RowKit Go.Extern.Stop Go.Stop Go.Extern

theorem rl_typeOfS (v : Value) (W : World) : (ReflectliteType.typeOf #[.iface 275 v]).run Tryz.prog W = .ok (.iface 188 (.agg #[.pointer (some ⟨12, 275, none⟩)])) W := by kernel_rfl
theorem rl_methodComp (h : Value) (w : World) : (Go.method 432 188 (.agg #[h]) "Comparable").run Tryz.prog w = .ok (242, .agg #[h]) w := by kernel_rfl
theorem rl_compS2 (W : World) : ((ReflectliteType.method fun t => do Rtype.noPackHeld "Comparable" t; (fun a => Value.bool a.comparable) <$> typeInfo t) #[.agg #[.pointer (some ⟨12, 275, none⟩)]]).run Tryz.prog W = .ok (.bool true) W := by kernel_rfl
theorem num_unwrap (p : Value) (w : World) : (Go.method 432 221 p "Unwrap").run Tryz.prog w = .ok (253, p) w := by kernel_rfl
theorem num_noIs (p : Value) (w : World) : (Instr.typeAssert (.iface 221 p) 42 251 true).run Tryz.prog w = .ok (.tuple #[.nilIface, .bool false]) w :=
  run_typeAssert_lacksB Tryz.underlying251 (by kernel_rfl) (by kernel_rfl) p _ w
theorem num_isUnwrap (p : Value) (w : World) : (Instr.typeAssert (.iface 221 p) 42 196 true).run Tryz.prog w = .ok (.tuple #[.iface 221 p, .bool true]) w :=
  run_typeAssert_hasB Tryz.underlying196 (by kernel_rfl) p _ w
theorem num_ne (p q : Value) (w : World) : (binOp .eql 42 (.iface 221 p) (.iface 275 q)).run Tryz.prog w = .ok (.bool false) w :=
  run_eql_iface_types _ _ p q Tryz.underlying42 (by decide) w
theorem str_eq (a : Addr) (w : World) : (binOp .eql 42 (.iface 275 (.pointer (some a))) (.iface 275 (.pointer (some a)))).run Tryz.prog w = .ok (.bool true) w :=
  run_eql_iface_ptr_same (te := 277) (i := Tryz.t275) (j := Tryz.t277) w a Tryz.underlying42 Tryz.underlying275 (by kernel_rfl) rfl (by kernel_rfl)
set_option maxRecDepth 100000 in
set_option maxHeartbeats 4000000 in
theorem Unwrap_any (N : Nat) (x y v : Value) (w : World) (h : w.heap[N]? = some (.cells #[x, y, v] 256 (0, 0))) :
    Calls Tryz.prog 253 #[.pointer (some ⟨N, 0, none⟩)] w fun e w' => e = .returned v ∧ ∃ n, w' = w.drewN n := by
  have c2 : w.cell? ⟨N, 2, none⟩ = some v := by simp [World.cell?, h]
  go_enter Tryz.func253, Tryz.ntmps253
  go_wp2
  go_ret
  exact ⟨rfl, 0, rfl⟩
set_option maxRecDepth 100000 in
set_option maxHeartbeats 4000000 in
theorem is_range (N : Nat) (x y : Value) (a : Addr) (w : World) (h : w.heap[N]? = some (.cells #[x, y, .iface 275 (.pointer (some a))] 256 (0, 0))) :
    Calls Tryz.prog 139 #[.iface 221 (.pointer (some ⟨N, 0, none⟩)), .iface 275 (.pointer (some a)), .bool true] w fun e w' => e = .returned (.bool true) ∧ ∃ n, w' = w.drewN n := by
  have n1 := num_ne
  have n2 := str_eq a
  have n3 := num_noIs
  have n4 := num_isUnwrap
  have n5 := num_unwrap
  have HU := Lib.hid (fun W hW => Unwrap_any N x y (.iface 275 (.pointer (some a))) W hW)
  have HH := Lib.hid h
  clear h
  go_enter Tryz.func139, Tryz.ntmps139
  go_wp2
  refine wp_loop_rounds 2 ?_
  rw [rounds_succ]
  go_wp2_with fail
  refine (HU.out _ HH.out).mono ?_
  rintro e w' ⟨rfl, n, rfl⟩
  go_wp2_with fail
  rw [rounds_succ]
  go_wp2_with fail
  go_ret
  exact ⟨rfl, n, rfl⟩
set_option maxRecDepth 100000 in
set_option maxHeartbeats 4000000 in
theorem Is_range (N : Nat) (x y : Value) (a : Addr) (w : World) (h : w.heap[N]? = some (.cells #[x, y, .iface 275 (.pointer (some a))] 256 (0, 0))) :
    Calls Tryz.prog 102 #[.iface 221 (.pointer (some ⟨N, 0, none⟩)), .iface 275 (.pointer (some a))] w fun e w' => e = .returned (.bool true) ∧ ∃ n, w' = w.drewN n := by
  have h10 := @run_callFunc_extern Tryz.prog 118 _ ReflectliteType.typeOf Tryz.func118 (by kernel_rfl) (by kernel_rfl) (by kernel_rfl) (by kernel_rfl)
  have h11 := @run_callFunc_extern Tryz.prog 242 _ (ReflectliteType.method fun t => do Rtype.noPackHeld "Comparable" t; pure (.bool (← typeInfo t).comparable)) Tryz.func242 (by kernel_rfl) (by kernel_rfl) (by kernel_rfl) (by kernel_rfl)
  have n1 := rl_typeOfS
  have n2 := rl_methodComp
  have n3 := rl_compS2
  have HI := Lib.hid (fun W hW => is_range N x y a W hW)
  have HH := Lib.hid h
  clear h
  go_enter Tryz.func102, Tryz.ntmps102
  go_wp2_with fail
  refine (HI.out _ HH.out).mono ?_
  rintro e w' ⟨rfl, n, rfl⟩
  go_wp2_with fail
  go_ret
  exact ⟨rfl, n, rfl⟩
end Go.Proofs.YtjcnglkjjhnpbaaGreatDoor
