/-
  WideBacks: the walk. Conditions: the numbers' kinds; errors.errorType is laid.
-/
import Derived.Test.YtkgadbnfaoijaabDoorWideB
import Derived.Test.YtkgadbnfaoijaabDoorCodeC
import Derived.BigQuiet
namespace Go.Proofs.YtkgadbnfaoijaabDoor
open Go.RowKit

set_option maxHeartbeats 4000000 in
theorem Backs_zero (a b : Nat) (ha : a < 18446744073709551616) (hb : b < 18446744073709551616) (w : World) (hw : Laid w) :
    Calls Tryd.prog 5 #[.int .u64 a, .int .u64 b, .int .u64 0] w (Ret (.bool true) w) := by
  have HW := Lib.hid hw
  clear hw
  have h1 := fun W => Mul_any a b ha hb W
  obtain ⟨xh, xl, ex, -, -⟩ := wof_ex (a * b)
  rw [ex] at h1
  have h2 := fun W => Div_zero xh xl W
  clear ex
  unfold wv eno at h2
  go_enter Tryd.func5, Tryd.ntmps5
  go_wp2_with fail
  refine (awake_any _).mono ?_
  rintro e w1 ⟨rfl, hb1⟩
  go_wp2_with fail
  refine (h1 _).mono ?_
  rintro e w2 ⟨rfl, hb2⟩
  go_wp2_with fail
  refine (h2 _).mono ?_
  rintro e w3 ⟨rfl, hb3⟩
  have hb12 := hb1.trans (hb2.mono hb1.size)
  have hb' := (((hb12.alloc hb12.size (.cells #[.int .u64 (xh : Int), .int .u64 (xl : Int)] 25)).trans (hb3.mono (by have := hb12.size; simp; omega))).alloc (by have := hb12.size; have := hb3.size; simp at *; omega) (.cells #[.int .u64 0, .int .u64 0] 25))
  have HW3 := Lib.hid (HW.out.below hb')
  clear hb1 hb2 hb3
  go_wp2_with fail
  refine (Code_errno _ _ HW3.out).mono ?_
  rintro e w4 ⟨rfl, hb4⟩
  go_wp2_with fail
  go_ret
  exact ⟨rfl, hb'.trans (hb4.mono hb'.size)⟩

theorem cell_on {W W' : World} {o : Obj} {p : Addr} {v : Value} (h : W.cell? p = some v) (hb : Below (W.alloc o).heap.size (W.alloc o) W') (hp : p.block < W.heap.size) : W'.cell? p = some v ∧ p.block < W'.heap.size := by
  have hs := hb.size
  rw [World.size_alloc] at hs
  exact ⟨(hb.cell (by rw [World.size_alloc]; omega)).trans ((World.cell?_alloc_lt W o p hp).trans h), by omega⟩
theorem cell_new {W W' : World} {x y : Value} {t : TypeId} (hb : Below (W.alloc (.cells #[x, y] t)).heap.size (W.alloc (.cells #[x, y] t)) W') :
    (W'.cell? ⟨W.heap.size, 0, none⟩ = some x ∧ W'.cell? ⟨W.heap.size, 1, none⟩ = some y) ∧ W.heap.size < W'.heap.size := by
  have hs := hb.size
  rw [World.size_alloc] at hs
  have h := Blk.new W t #[x, y]
  exact ⟨⟨(hb.cell (by rw [World.size_alloc]; exact Nat.lt_succ_self _)).trans (h.cell 0), (hb.cell (by rw [World.size_alloc]; exact Nat.lt_succ_self _)).trans (h.cell 1)⟩, by omega⟩
theorem two_on {W W' : World} {o : Obj} {g : Nat} {x y : Value} (h : (W.cell? ⟨g, 0, none⟩ = some x ∧ W.cell? ⟨g, 1, none⟩ = some y) ∧ g < W.heap.size) (hb : Below (W.alloc o).heap.size (W.alloc o) W') :
    (W'.cell? ⟨g, 0, none⟩ = some x ∧ W'.cell? ⟨g, 1, none⟩ = some y) ∧ g < W'.heap.size :=
  ⟨⟨(cell_on h.1.1 hb h.2).1, (cell_on h.1.2 hb h.2).1⟩, (cell_on (p := ⟨g, 0, none⟩) h.1.1 hb h.2).2⟩
theorem below_on {W0 W W' : World} {o : Obj} (h : Below W0.heap.size W0 W) (hb : Below (W.alloc o).heap.size (W.alloc o) W') : Below W0.heap.size W0 W' :=
  (h.alloc h.size o).trans (hb.mono (Nat.le_trans h.size (by rw [World.size_alloc]; omega)))

theorem arg_a (lh ll hi lo : Nat) (e : lo = lh * 18446744073709551616 + ll) : lh * 18446744073709551616 + ll + (hi * 18446744073709551616 + 0) = hi * 18446744073709551616 + lo := by omega
theorem arg_b (x s N K : Nat) (h : x + s = N) (hN : N < K) : x < K := by omega
theorem arg_c (S s N sh sl : Nat) (h : S + s = N) (e : S = sh * 18446744073709551616 + sl) : sh * 18446744073709551616 + sl + s = N := by omega

set_option maxHeartbeats 8000000 in
set_option maxRecDepth 20000 in
theorem Backs_some (a b n : Nat) (ha : a < 18446744073709551616) (hb : b < 18446744073709551616) (hn0 : 0 < n) (hn : n < 18446744073709551616) (w : World) :
    Calls Tryd.prog 5 #[.int .u64 a, .int .u64 b, .int .u64 n] w (Ret (.bool true) w) := by
  have h1 := fun W => Mul_any a b ha hb W
  have hN0 := of_mul a b ha hb
  obtain ⟨N, hNe⟩ : ∃ N, a * b = N := ⟨_, rfl⟩
  rw [hNe] at h1 hN0
  have hN : N < 340282366920938463463374607431768211456 := by omega
  clear hN0
  obtain ⟨xh, xl, ex, e1, e2⟩ := wof_ex N
  have hxh : xh < 18446744073709551616 := by omega
  have h2 := fun W => Div_some xh xl n hxh e2 hn0 hn W
  rw [ex] at h1
  rw [← e1] at h2
  have hdm := Nat.div_add_mod N n
  have hml := Nat.mod_lt N hn0
  have hql : N / n ≤ N := Nat.div_le_self N n
  obtain ⟨s, hs⟩ : ∃ s, N % n = s := ⟨_, rfl⟩
  obtain ⟨q, hq⟩ : ∃ q, N / n = q := ⟨_, rfl⟩
  rw [hs, hq] at h2 hdm
  rw [hs] at hml
  rw [hq] at hql
  obtain ⟨qh, ql, eq, e3, e4⟩ := wof_ex q
  rw [eq] at h2
  have hqh : qh < 18446744073709551616 := by omega
  have h3 := fun W => Mul_any ql n e4 hn W
  have h4 := fun W => Mul_any qh n hqh hn W
  obtain ⟨lo, hlo⟩ : ∃ lo, ql * n = lo := ⟨_, rfl⟩
  obtain ⟨hi, hhi⟩ : ∃ hi, qh * n = hi := ⟨_, rfl⟩
  rw [hlo] at h3
  rw [hhi] at h4
  have hsum : hi * 18446744073709551616 + lo + s = N := by
    rw [← hdm, e3, Nat.mul_add, ← Nat.mul_assoc, Nat.mul_comm n qh, Nat.mul_comm n ql, hhi, hlo]
  have hlo2 : lo / 18446744073709551616 < 18446744073709551616 := by rw [← hlo]; exact of_mul ql n e4 hn
  obtain ⟨lh, ll, el, e5, e6⟩ := wof_ex lo
  rw [el] at h3
  have hil : hi < 18446744073709551616 := by omega
  rw [wof_small hi hil] at h4
  have h5 := fun W => Plus_ok lh ll hi 0 (hi * 18446744073709551616 + lo) e6 (by decide) (arg_a lh ll hi lo e5) (arg_b _ s N _ hsum hN) W
  obtain ⟨S, hS⟩ : ∃ S, hi * 18446744073709551616 + lo = S := ⟨_, rfl⟩
  rw [hS] at h5 hsum
  obtain ⟨sh, sl, es, e7, e8⟩ := wof_ex S
  rw [es] at h5
  have h6 := fun W => Add_ok sh sl s N e8 (Nat.lt_trans hml hn) (arg_c S s N sh sl hsum e7) hN W
  rw [ex] at h6
  have h7 : ∃ (r : Nat) (v : Value), (∀ W, Calls Tryd.prog 27 #[wv xh xl] W (Ret (.tuple #[.int .u64 r, v]) W)) ∧ ((xh = 0 ∧ r = xl ∧ v = .nilIface) ∨ (0 < xh ∧ r = 0 ∧ v = .iface 38 (.int .i64 12))) := by
    rcases Nat.eq_zero_or_pos xh with h0 | h0
    · subst h0
      exact ⟨xl, _, fun W => Small_ok xl W, Or.inl ⟨rfl, rfl, rfl⟩⟩
    · exact ⟨0, _, fun W => Small_over xh xl h0 W, Or.inr ⟨h0, rfl, rfl⟩⟩
  obtain ⟨r, v, h7, hv⟩ := h7
  unfold wv at h2 h5 h6 h7
  have i1 : (s : Int) < (n : Int) := by omega
  have hz : ((n : Int) == 0) = false := by rw [beq_eq_false_iff_ne]; omega
  have HV := Lib.hid hv
  clear hv hsum hS es e7 e8 el e5 e6 hlo hhi hlo2 hil hs hq eq e3 e4 hqh hdm hml hql ex e1 e2 hxh hNe hN
  go_enter Tryd.func5, Tryd.ntmps5
  go_wp2_with fail
  refine (awake_any _).mono ?_
  rintro e w1 ⟨rfl, hb1⟩
  go_wp2_with fail
  refine (h1 _).mono ?_
  rintro e w2 ⟨rfl, hb2⟩
  go_wp2_with fail
  refine (h2 _).mono ?_
  rintro e w3 ⟨rfl, hb3⟩
  have H7 := Lib.hid (cell_new hb3)
  have hbb := below_on (hb1.trans (hb2.mono hb1.size)) hb3
  clear hb1 hb2 hb3
  go_wp2_with fail
  refine (h3 _).mono ?_
  rintro e w4 ⟨rfl, hb4⟩
  have H8 := Lib.hid (cell_new hb4)
  have H7 := Lib.hid (two_on H7.out hb4)
  have hbb := below_on hbb hb4
  clear hb4
  obtain ⟨⟨c0, c1⟩, cs⟩ := H8.out
  go_wp2_with fail
  refine (h4 _).mono ?_
  rintro e w5 ⟨rfl, hb5⟩
  have H11 := Lib.hid (cell_new hb5)
  have H7 := Lib.hid (two_on H7.out hb5)
  have hbb := below_on hbb hb5
  clear hb5 c0 c1 cs H8
  obtain ⟨⟨c0, c1⟩, cs⟩ := H11.out
  go_wp2_with fail
  refine (h5 _).mono ?_
  rintro e w6 ⟨rfl, hb6⟩
  have H12 := Lib.hid (cell_new hb6)
  have H7 := Lib.hid (two_on H7.out hb6)
  have hbb := below_on hbb hb6
  clear hb6 c0 c1 cs H11
  go_wp2_with fail
  refine (h6 _).mono ?_
  rintro e w7 ⟨rfl, hb7⟩
  have H12 := Lib.hid (two_on H12.out hb7)
  have H7 := Lib.hid (two_on H7.out hb7)
  have hbb := below_on hbb hb7
  clear hb7
  obtain ⟨⟨c0, c1⟩, cs⟩ := H7.out
  go_wp2_with fail
  refine (h7 _).mono ?_
  rintro e w8 ⟨rfl, hb8⟩
  have H15 := Lib.hid (cell_new hb8)
  have H12 := Lib.hid (two_on H12.out hb8)
  have H7 := Lib.hid (two_on H7.out hb8)
  have hbb := below_on hbb hb8
  clear hb8 c0 c1 cs
  obtain ⟨⟨a0, a1⟩, as_⟩ := H7.out
  obtain ⟨⟨d0, d1⟩, ds_⟩ := H12.out
  obtain ⟨⟨e0, e1⟩, es_⟩ := H15.out
  obtain hv | hv := HV.out
  · obtain ⟨rfl, rfl, rfl⟩ := hv
    go_wp2_with fail
    go_quiet (fail)
    go_wp2_with fail
    go_ret
    exact ⟨rfl, below_drewN hbb _⟩
  · obtain ⟨hx0, rfl, rfl⟩ := hv
    have j1 : ((xh : Int) == 0) = false := by rw [beq_eq_false_iff_ne]; omega
    go_wp2_with fail
    go_quiet (fail)
    go_wp2_with fail
    go_ret
    exact ⟨rfl, below_drewN hbb _⟩

theorem Backs_any (a b n : Nat) (ha : a < 18446744073709551616) (hb : b < 18446744073709551616) (hn : n < 18446744073709551616) (w : World) (hw : Laid w) :
    Calls Tryd.prog 5 #[.int .u64 a, .int .u64 b, .int .u64 n] w (Ret (.bool true) w) := by
  rcases Nat.eq_zero_or_pos n with h0 | h0
  · subst h0
    exact Backs_zero a b ha hb w hw
  · exact Backs_some a b n ha hb h0 hn w
end Go.Proofs.YtkgadbnfaoijaabDoor
