/-
  errors.Is of a *NumError that wraps strconv.ErrRange. Condition: its block is there.
-/
import Derived.Test.YtijkcolkedeibaaDoorCodeC
import Derived.Test.YtijkcolkedeibaaDoorCRdP
import Derived.Stop.Asserts
import Derived.LaidEql
namespace Go.Proofs.YtijkcolkedeibaaDoor
open Go.RowKit Go.Extern.Stop Go.Stop Go.Extern

theorem rl_typeOfS (v : Value) (W : World) : (ReflectliteType.typeOf #[.iface 127 v]).run Tryd.prog W = .ok (.iface 85 (.agg #[.pointer (some ⟨9, 127, none⟩)])) W := by kernel_rfl
theorem rl_methodComp (h : Value) (w : World) : (Go.method 263 85 (.agg #[h]) "Comparable").run Tryd.prog w = .ok (108, .agg #[h]) w := by kernel_rfl
theorem rl_compS2 (W : World) : ((ReflectliteType.method fun t => do Rtype.noPackHeld "Comparable" t; (fun a => Value.bool a.comparable) <$> typeInfo t) #[.agg #[.pointer (some ⟨9, 127, none⟩)]]).run Tryd.prog W = .ok (.bool true) W := by kernel_rfl
theorem num_unwrap (p : Value) (w : World) : (Go.method 263 78 p "Unwrap").run Tryd.prog w = .ok (105, p) w := by kernel_rfl
theorem num_noIs (p : Value) (w : World) : (Instr.typeAssert (.iface 78 p) 26 87 true).run Tryd.prog w = .ok (.tuple #[.nilIface, .bool false]) w :=
  run_typeAssert_lacksB Tryd.underlying87 (by kernel_rfl) (by kernel_rfl) p _ w
theorem num_isUnwrap (p : Value) (w : World) : (Instr.typeAssert (.iface 78 p) 26 90 true).run Tryd.prog w = .ok (.tuple #[.iface 78 p, .bool true]) w :=
  run_typeAssert_hasB Tryd.underlying90 (by kernel_rfl) p _ w
theorem num_ne (p q : Value) (w : World) : (binOp .eql 26 (.iface 78 p) (.iface 127 q)).run Tryd.prog w = .ok (.bool false) w :=
  run_eql_iface_types _ _ p q Tryd.underlying26 (by decide) w
theorem str_eq (a : Addr) (w : World) : (binOp .eql 26 (.iface 127 (.pointer (some a))) (.iface 127 (.pointer (some a)))).run Tryd.prog w = .ok (.bool true) w :=
  run_eql_iface_ptr_same (te := 129) (i := Tryd.t127) (j := Tryd.t129) w a Tryd.underlying26 Tryd.underlying127 (by kernel_rfl) rfl (by kernel_rfl)
set_option maxRecDepth 100000 in
set_option maxHeartbeats 4000000 in
theorem Unwrap_any (N : Nat) (x y v : Value) (w : World) (h : w.heap[N]? = some (.cells #[x, y, v] 111 (0, 0))) :
    Calls Tryd.prog 105 #[.pointer (some ⟨N, 0, none⟩)] w fun e w' => e = .returned v ∧ ∃ n, w' = w.drewN n := by
  have c2 : w.cell? ⟨N, 2, none⟩ = some v := by simp [World.cell?, h]
  go_enter Tryd.func105, Tryd.ntmps105
  go_wp2
  go_ret
  exact ⟨rfl, 0, rfl⟩
set_option maxRecDepth 100000 in
set_option maxHeartbeats 4000000 in
theorem is_range (N : Nat) (x y : Value) (a : Addr) (w : World) (h : w.heap[N]? = some (.cells #[x, y, .iface 127 (.pointer (some a))] 111 (0, 0))) :
    Calls Tryd.prog 28 #[.iface 78 (.pointer (some ⟨N, 0, none⟩)), .iface 127 (.pointer (some a)), .bool true] w fun e w' => e = .returned (.bool true) ∧ ∃ n, w' = w.drewN n := by
  have n1 := num_ne
  have n2 := str_eq a
  have n3 := num_noIs
  have n4 := num_isUnwrap
  have n5 := num_unwrap
  have HU := Lib.hid (fun W hW => Unwrap_any N x y (.iface 127 (.pointer (some a))) W hW)
  have HH := Lib.hid h
  clear h
  go_enter Tryd.func28, Tryd.ntmps28
  go_wp2
  refine wp_loop_rounds 2 ?_
  rw [rounds_succ]
  go_wp2_with fail
  refine (HU.out _ HH.out).mono ?_
  rintro e w' ⟨rfl, n, rfl⟩
  go_wp2_with fail
  rw [rounds_succ]
  go_wp2_with fail
  go_ret
  exact ⟨rfl, n, rfl⟩
set_option maxRecDepth 100000 in
set_option maxHeartbeats 4000000 in
theorem Is_range (N : Nat) (x y : Value) (a : Addr) (w : World) (h : w.heap[N]? = some (.cells #[x, y, .iface 127 (.pointer (some a))] 111 (0, 0))) :
    Calls Tryd.prog 13 #[.iface 78 (.pointer (some ⟨N, 0, none⟩)), .iface 127 (.pointer (some a))] w fun e w' => e = .returned (.bool true) ∧ ∃ n, w' = w.drewN n := by
  have h10 := @run_callFunc_extern Tryd.prog 27 _ ReflectliteType.typeOf Tryd.func27 (by kernel_rfl) (by kernel_rfl) (by kernel_rfl) (by kernel_rfl)
  have h11 := @run_callFunc_extern Tryd.prog 108 _ (ReflectliteType.method fun t => do Rtype.noPackHeld "Comparable" t; pure (.bool (← typeInfo t).comparable)) Tryd.func108 (by kernel_rfl) (by kernel_rfl) (by kernel_rfl) (by kernel_rfl)
  have n1 := rl_typeOfS
  have n2 := rl_methodComp
  have n3 := rl_compS2
  have HI := Lib.hid (fun W hW => is_range N x y a W hW)
  have HH := Lib.hid h
  clear h
  go_enter Tryd.func13, Tryd.ntmps13
  go_wp2_with fail
  refine (HI.out _ HH.out).mono ?_
  rintro e w' ⟨rfl, n, rfl⟩
  go_wp2_with fail
  go_ret
  exact ⟨rfl, n, rfl⟩
end Go.Proofs.YtijkcolkedeibaaDoor
