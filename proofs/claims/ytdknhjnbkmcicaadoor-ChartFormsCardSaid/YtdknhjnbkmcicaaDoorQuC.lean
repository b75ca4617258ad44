/-
  What a Quill writes: Uint, Int, Flag, Text; Done. Conditions: the Quill is known, what it has written is not too much.
-/
import Derived.Test.YtdknhjnbkmcicaaDoorQuB
namespace Go.Proofs.YtdknhjnbkmcicaaDoor
open Go.RowKit

theorem str_at {w : World} (base : Nat) (ty : TypeId) (v : Value) (n : Nat) (l : List UInt8) (hown : OwnB w base v n l) (s : ByteArray) (hsz : n + s.size ≤ 70368744177664) (hbase : base ≤ w.heap.size) :
    ∃ v' w', (Builtin.append_ #[27, 9] ty #[v, .string s]).run Tryd.prog w = .ok v' w' ∧ OwnB w' base v' (n + s.size) (l ++ s.data.toList) ∧ w.grownBy w' v.ownBlock ∧ (v'.ownBlock = v.ownBlock ∨ v'.ownBlock = some w.heap.size) := by
  obtain ⟨i0, hi, hz0, hz1, hz2⟩ := info_parts infoB
  obtain ⟨v', w', hr, h2, h3, h4⟩ := Lib.run_append_own_string (P := Tryd.prog) w base 27 9 ty 5 i0 Tryd.underlying27 Tryd.underlying9 hi hz0 hz1 hz2 v n (l.map enc8) hown s (by unfold maxLen; omega) (by omega) hbase
  refine ⟨v', w', hr, by unfold OwnB; rw [List.map_append]; exact h2, h3, ?_⟩
  unfold OwnB at hown
  rcases hown.2 with ⟨rfl, _⟩ | ⟨g, cap, cur, rfl, _, hg, hnc, hcm, hcs, _⟩
  · by_cases hs : s.size = 0
    · rw [h4.2 ⟨rfl, hs⟩]
      exact .inl rfl
    · have hr2 := run_append_nil_string (P := Tryd.prog) w 27 9 ty 5 i0 (.int .u8 0) Tryd.underlying27 Tryd.underlying9 hi hz0 s (by omega) (by omega) (by rw [hz2]; omega)
      rw [hr] at hr2
      injection hr2 with e1 e2
      rw [e1]
      exact .inr rfl
  · by_cases hroom : n + s.size ≤ cap
    · have hcs' : cur.size = cap := by simpa using hcs
      have hr2 := Lib.run_append_room_string (P := Tryd.prog) w 27 9 ty 5 i0 Tryd.underlying27 Tryd.underlying9 hi hz1 g n cap cur hg s hroom (by omega)
      rw [hr] at hr2
      injection hr2 with e1 e2
      rw [e1]
      exact .inl rfl
    · have holds : ∀ j u, (l.map enc8)[j]? = some u → w.cell? ((⟨g, 0, none⟩ : Addr).add j) = some u := World.ownsRow.cells hown (g := g) rfl
      have hl : (l.map enc8).length = n := by simpa using hown.1
      have hr2 := Lib.run_append_grow_string (P := Tryd.prog) w 27 9 ty 5 i0 (.int .u8 0) Tryd.underlying27 Tryd.underlying9 hi hz0 ⟨g, 0, none⟩ n cap (l.map enc8) (by rw [hz1]; simpa using hl) holds s (by omega) (by omega)
        (by rw [hz2]; exact growslice_fits (by omega) (by omega))
      rw [hr] at hr2
      injection hr2 with e1 e2
      rw [e1]
      exact .inr rfl
theorem wpl_str_at {w : World} {ops : Array Oper} {rest : List Oper} {o : Oper} {a : Act} {Q : Exit → Act → World → Prop} (hgd : o.guard = Option.none) (s x : Operand)
    (ho : o.op = .call { callee := .builtin .append, args := #[s, x], argTypes := #[27, 9] })
    (base : Nat) (v : Value) (n : Nat) (l : List UInt8) (hs : a.eval s = v) (hown : OwnB w base v n l) (t : ByteArray) (hx : a.eval x = .string t) (hsz : n + t.size ≤ 70368744177664) (hbase : base ≤ w.heap.size)
    (h : ∀ v' w', OwnB w' base v' (n + t.size) (l ++ t.data.toList) → w.grownBy w' v.ownBlock → (v'.ownBlock = v.ownBlock ∨ v'.ownBlock = some w.heap.size) → wpList Tryd.prog ops Q rest (a.put o.dst v') w') : wpList Tryd.prog ops Q (o :: rest) a w := by
  refine wpList_plain hgd fun _ hK => ?_
  obtain ⟨v', w', hr, h2, h3, h5⟩ := str_at base o.type v n l hown t hsz hbase
  unfold Oper.wp execOp
  simp only [ho, resolve, invoke, builtin, Sem.run_bind, Sem.run_pure, Result.andThen_ok, List.map_toArray, List.map_cons, List.map_nil, hs, hx, hr]
  exact hK _ _ (h v' w' h2 h3 h5)

section
variable (B q : Nat) (r : Option Nat) (l : List UInt8)
set_option maxRecDepth 20000 in
set_option maxHeartbeats 1000000 in
theorem QUint_any (n : Nat) (hn : n < 18446744073709551616) (hl : l.length ≤ 1000000) (w : World) (h : Qu w B q r l) :
    Calls Tryd.prog 22 #[.pointer (some ⟨q, 0, none⟩), .int .u64 (n : Int)] w (QPost w B q r (l ++ layN 0 n)) := by
  have hN := QNumber_any B q r l 0 n (.inl rfl) hn hl w h
  have HN := Lib.hid hN
  clear hN h
  go_enter Tryd.func22, Tryd.ntmps22
  go_wp2_with fail
  refine HN.out.mono ?_
  rintro e w' ⟨rfl, h1, h2⟩
  have H1 := Lib.hid h1
  have H2 := Lib.hid h2
  clear h1 h2
  go_wp2_with fail
  go_ret
  exact ⟨rfl, H1.out, H2.out⟩
set_option maxRecDepth 20000 in
set_option maxHeartbeats 1000000 in
theorem QInt_any (i : Int) (hi : -9223372036854775808 ≤ i ∧ i ≤ 9223372036854775807) (hl : l.length ≤ 1000000) (w : World) (h : Qu w B q r l) :
    Calls Tryd.prog 23 #[.pointer (some ⟨q, 0, none⟩), .int .i64 i] w (QPost w B q r (l ++ layI i)) := by
  obtain ⟨i0, i1⟩ := hi
  by_cases hs : 0 ≤ i
  · have hN := QNumber_any B q r l 0 i.toNat (.inl rfl) (by omega) hl w h
    rw [show ((i.toNat : Nat) : Int) = i by omega] at hN
    have e : layI i = layN 0 i.toNat := by unfold layI; rw [if_pos hs]
    rw [← e] at hN
    have HN := Lib.hid hN
    have hs2 : ¬ i < 0 := by omega
    clear hN h e
    go_enter Tryd.func23, Tryd.ntmps23
    go_wp2_with fail
    refine HN.out.mono ?_
    rintro e w' ⟨rfl, h1, h2⟩
    have H1 := Lib.hid h1
    have H2 := Lib.hid h2
    clear h1 h2
    go_wp2_with fail
    go_ret
    exact ⟨rfl, H1.out, H2.out⟩
  · have hN := QNumber_any B q r l 128 (-1 - i).toNat (.inr rfl) (by omega) hl w h
    rw [show (((-1 - i).toNat : Nat) : Int) = -1 - i by omega] at hN
    have e : layI i = layN 128 (-1 - i).toNat := by unfold layI; rw [if_neg hs]
    rw [← e] at hN
    have HN := Lib.hid hN
    have hs2 : i < 0 := by omega
    clear hN h e
    go_enter Tryd.func23, Tryd.ntmps23
    go_wp2_with fail
    refine HN.out.mono ?_
    rintro e w' ⟨rfl, h1, h2⟩
    have H1 := Lib.hid h1
    have H2 := Lib.hid h2
    clear h1 h2
    go_wp2_with fail
    go_ret
    exact ⟨rfl, H1.out, H2.out⟩
end

end Go.Proofs.YtdknhjnbkmcicaaDoor
