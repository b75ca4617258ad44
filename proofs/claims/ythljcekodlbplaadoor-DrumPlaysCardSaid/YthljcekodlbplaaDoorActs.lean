/-
  A slice of acts among a law's arguments, opened. No condition.
-/
import Derived.Test.YthljcekodlbplaaDoorRowsH
import Derived.Test.YthljcekodlbplaaDoorRowsB
namespace Go.Proofs.YthljcekodlbplaaDoor
open Go.ChangeShapes Go.WideShapes Go.ChangeAt Go.RowKit

/-- An act as it lies. -/
structure Actn where
  a : Nat
  p : Int
  AP : Option Addr
  cP : Nat
  P : List UInt8
  AK : Option Addr
  cK : Nat
  K : List Bool
  N : Int
  k : Nat
def actT : Lies Actn := ⟨fun x => [.int .u8 (x.a : Int), .int .i64 x.p, .slice x.AP x.P.length x.cP, .slice x.AK x.K.length x.cK, .int .i64 x.N, .int .u32 (x.k : Int)], 6, fun _ => rfl, fun x u hu => by
  simp only [List.mem_cons, List.not_mem_nil, or_false] at hu
  rcases hu with rfl | rfl | rfl | rfl | rfl | rfl <;> rfl⟩
/-- What comes in: numbers that fit their kinds, rows that are there. -/
structure Actn.In (W : World) (x : Actn) : Prop where
  a : x.a < 256
  p : -9223372036854775808 ≤ x.p ∧ x.p ≤ 9223372036854775807
  P : x.P.length ≤ x.cP ∧ x.cP ≤ maxLen ∧ Rd W W.heap.size x.AP x.P
  K : x.K.length ≤ x.cK ∧ x.cK ≤ maxLen ∧ Rb W W.heap.size x.AK x.K
  N : -9223372036854775808 ≤ x.N ∧ x.N ≤ 9223372036854775807
  k : x.k < 4294967296
section
variable {H : Type} {enc : TypeId × Value → H} {W : World}
theorem cellsAct : Tryd.prog.cellsOf 35 = 6 := by kernel_rfl
theorem cellsBl : Tryd.prog.cellsOf 32 = 1 := by kernel_rfl
theorem cellsI : Tryd.prog.cellsOf 3 = 1 := by kernel_rfl
theorem cellsU32 : Tryd.prog.cellsOf 33 = 1 := by kernel_rfl
set_option maxRecDepth 20000 in
theorem open_blsrow {w : World} {n : Nat} {v : Value} {x : DataW H × List MemPlace} (h : DataW.trod enc Tryd.prog w 0 (fun _ => true) true n 32 [v] = some x) (hlt : ∀ y ∈ x.2, y.block < w.heap.size) :
    ∃ A c l, v = .slice A l.length c ∧ l.length ≤ c ∧ c ≤ maxLen ∧ Rb w w.heap.size A l := by
  rcases Go.Deep.open_bools Tryd.underlying32 Tryd.underlying4 cellsL h with ⟨hcs, hx⟩ | ⟨a, len, cap, Bf, hcs, _, hl, hm, hx, hcell⟩
  · obtain rfl := List.head_eq_of_cons_eq hcs
    exact ⟨none, 0, [], rfl, Nat.le_refl _, by decide, fun h => absurd h (by simp)⟩
  · obtain rfl := List.head_eq_of_cons_eq hcs
    subst hx
    refine ⟨some a, cap, (List.range len).map Bf, by rw [List.length_map, List.length_range], by rw [List.length_map, List.length_range]; exact hl, hm, fun h0 => ?_⟩
    have h0' : 0 < len := by rw [List.length_map, List.length_range] at h0; omega
    obtain ⟨b, off, spot⟩ := a
    have hspot : spot = Option.none := by simpa [Addr.add] using World.cell?_spot (hcell 0 (by omega))
    subst hspot
    refine ⟨b, off, rfl, hlt (.cell b off) (MemPlace.mem_row.2 ⟨0, by omega, by simp⟩), fun j u hu => ?_⟩
    have hj : j < len := by
      rcases Nat.lt_or_ge j len with h | h
      · exact h
      · rw [List.getElem?_eq_none (by rw [List.length_map, List.length_range]; exact h)] at hu; cases hu
    have hc := hcell j (by omega)
    rw [add_plain] at hc
    rw [List.getElem?_map, List.getElem?_range hj] at hu
    injection hu with hu
    rw [hc, hu]
set_option maxRecDepth 20000 in
theorem open_act {w : World} {n : Nat} {cs : List Value} {x : DataW H × List MemPlace} (h : DataW.trod enc Tryd.prog w 0 (fun _ => true) true n 35 cs = some x) (hlt : ∀ y ∈ x.2, y.block < w.heap.size) : ∃ v : Actn, v.In w ∧ cs = actT.cells v := by
  obtain ⟨xs, n', hn', hy, hlen, hyl, hf⟩ := DataW.trod_struct Tryd.underlying35 h
  rw [cellsAct] at hlen
  match cs, hlen with
  | [a0, a1, a2, a3, a4, a5], _ =>
    match xs, hyl with
    | [y0, y1, y2, y3, y4, y5], _ =>
      have h0 : DataW.trod enc Tryd.prog w 0 (fun _ => true) true n' 5 (List.take (Tryd.prog.cellsOf 5) (List.drop 0 [a0, a1, a2, a3, a4, a5])) = some y0 := hf 0 _ rfl
      rw [cells8R] at h0
      have h1 : DataW.trod enc Tryd.prog w 0 (fun _ => true) true n' 3 (List.take (Tryd.prog.cellsOf 3) (List.drop 1 [a0, a1, a2, a3, a4, a5])) = some y1 := hf 1 _ rfl
      rw [cellsI] at h1
      have h2 : DataW.trod enc Tryd.prog w 0 (fun _ => true) true n' 31 (List.take (Tryd.prog.cellsOf 31) (List.drop 2 [a0, a1, a2, a3, a4, a5])) = some y2 := hf 2 _ rfl
      rw [cellsR] at h2
      have h3 : DataW.trod enc Tryd.prog w 0 (fun _ => true) true n' 32 (List.take (Tryd.prog.cellsOf 32) (List.drop 3 [a0, a1, a2, a3, a4, a5])) = some y3 := hf 3 _ rfl
      rw [cellsBl] at h3
      have h4 : DataW.trod enc Tryd.prog w 0 (fun _ => true) true n' 3 (List.take (Tryd.prog.cellsOf 3) (List.drop 4 [a0, a1, a2, a3, a4, a5])) = some y4 := hf 4 _ rfl
      rw [cellsI] at h4
      have h5 : DataW.trod enc Tryd.prog w 0 (fun _ => true) true n' 33 (List.take (Tryd.prog.cellsOf 33) (List.drop 5 [a0, a1, a2, a3, a4, a5])) = some y5 := hf 5 _ rfl
      rw [cellsU32] at h5
      subst hy
      obtain ⟨z0, e0, _, w0⟩ := DataW.trod_int Tryd.underlying5 (h0 : DataW.trod enc Tryd.prog w 0 (fun _ => true) true n' 5 [a0] = some y0)
      obtain ⟨z1, e1, _, w1⟩ := DataW.trod_int Tryd.underlying3 (h1 : DataW.trod enc Tryd.prog w 0 (fun _ => true) true n' 3 [a1] = some y1)
      obtain ⟨r, e2, g1, g2, g3⟩ := open_row (h2 : DataW.trod enc Tryd.prog w 0 (fun _ => true) true n' 31 [a2] = some y2) (fun y hy => hlt y (by simp only [List.flatMap_cons, List.mem_append]; exact .inr (.inr (.inl hy))))
      obtain ⟨AK, cK, K, e3, k1, k2, k3⟩ := open_blsrow (h3 : DataW.trod enc Tryd.prog w 0 (fun _ => true) true n' 32 [a3] = some y3) (fun y hy => hlt y (by simp only [List.flatMap_cons, List.mem_append]; exact .inr (.inr (.inr (.inl hy)))))
      obtain ⟨z4, e4, _, w4⟩ := DataW.trod_int Tryd.underlying3 (h4 : DataW.trod enc Tryd.prog w 0 (fun _ => true) true n' 3 [a4] = some y4)
      obtain ⟨z5, e5, _, w5⟩ := DataW.trod_int Tryd.underlying33 (h5 : DataW.trod enc Tryd.prog w 0 (fun _ => true) true n' 33 [a5] = some y5)
      obtain ⟨a, rfl, ha⟩ := wf_u8 w0
      have hp := wf_i64 w1
      have hN := wf_i64 w4
      obtain ⟨k, rfl, hk⟩ := wf_u32 w5
      obtain rfl := List.head_eq_of_cons_eq e0
      obtain rfl := List.head_eq_of_cons_eq e1
      obtain rfl := List.head_eq_of_cons_eq e4
      obtain rfl := List.head_eq_of_cons_eq e5
      subst e2 e3
      exact ⟨⟨a, z1, r.A, r.c, r.l, AK, cK, K, z4, k⟩, ⟨ha, hp, ⟨g1, g2, g3⟩, ⟨k1, k2, k3⟩, hN, hk⟩, rfl⟩
set_option maxRecDepth 20000 in
theorem open_acts {b0 : Nat} {v : Value} {d : DataW H} {p : List MemPlace} (hval : Value.okWide Tryd.prog W .any b0 22 v) (h : DataW.Trod enc Tryd.prog W 0 (fun _ => true) true 22 v d p) (hlt : ∀ x ∈ p, x.block < W.heap.size) :
    ∃ (A : Option Addr) (n c : Nat) (l : List Actn), v = .slice A n c ∧ l.length = n ∧ n ≤ c ∧ c ≤ maxLen ∧ Rs actT W W.heap.size A l ∧ (∀ u ∈ l, u.In W) := by
  have hu : Tryd.prog.underlying 22 = some (.slice 35) := Tryd.underlying22
  have hk : Tryd.prog.cellsOf 35 = actT.k := cellsAct
  have hkp : 0 < actT.k := by decide
  obtain ⟨a0, len, cap, rfl⟩ := okWide_slice hu hval
  obtain ⟨fuel, hf⟩ := h
  rcases Go.Deep.open_slice hu hf with ⟨hcs, hx⟩ | ⟨a, len', cap', m, n, D, Pl, hcs, _, hl, hm, hmm, hx, hi⟩
  · simp [Value.cells] at hcs
    obtain ⟨rfl, rfl, rfl⟩ := hcs
    exact ⟨Option.none, 0, 0, [], rfl, rfl, Nat.le_refl _, Nat.zero_le _, (fun hn => absurd hn (by simp)), (fun u hu => nomatch hu)⟩
  · simp [Value.cells] at hcs
    obtain ⟨rfl, rfl, rfl⟩ := hcs
    simp only [if_true] at hmm
    subst hmm
    simp only [Prod.mk.injEq] at hx
    obtain ⟨_, rfl⟩ := hx
    rw [hk] at hi hlt
    have hv : ∀ i, i < m → ∃ v : Actn, v.In W ∧ ∀ (j : Nat) x, (actT.cells v)[j]? = some x → W.cell? (a.add (i * actT.k + j)) = some x := by
      intro i him
      obtain ⟨cs', hc, ht⟩ := hi i him
      obtain ⟨v, hin, rfl⟩ := open_act ht (fun y hy => hlt y (List.mem_append_right _ (List.mem_flatMap.2 ⟨i, List.mem_range.2 him, hy⟩)))
      obtain ⟨_, hcl, hat⟩ := World.cells?_some hc
      refine ⟨v, hin, fun j x hx => ?_⟩
      have hj : j < actT.k := by
        rcases Nat.lt_or_ge j actT.k with h | h
        · exact h
        · rw [List.getElem?_eq_none (by rw [actT.len]; exact h)] at hx; cases hx
      rw [← Go.Deep.add_add, hat j hj, hx]
    have hl2 : ∀ k, k ≤ len → ∃ l : List Actn, l.length = k ∧ (∀ u ∈ l, u.In W) ∧ ∀ (j : Nat) v, l[j]? = some v → ∀ (i : Nat) x, (actT.cells v)[i]? = some x → W.cell? (a.add (j * actT.k + i)) = some x := by
      intro k
      induction k with
      | zero => exact fun _ => ⟨[], rfl, (fun u hu => nomatch hu), (fun j v hv => by simp at hv)⟩
      | succ k ih =>
        intro hk
        obtain ⟨l, h1, h2, h3⟩ := ih (by omega)
        obtain ⟨v, g1, g2⟩ := hv k (by omega)
        refine ⟨l ++ [v], by simp [h1], fun u hu => ?_, fun j u hu => ?_⟩
        · rcases List.mem_append.1 hu with hu | hu
          · exact h2 u hu
          · rw [List.mem_singleton.1 hu]; exact g1
        · rcases Nat.lt_or_ge j k with hj | hj
          · rw [List.getElem?_append_left (by omega)] at hu
            exact h3 j u hu
          · rw [List.getElem?_append_right (by omega), h1] at hu
            have hj2 : j = k := by
              rcases Nat.lt_or_ge k j with h | h
              · rw [List.getElem?_eq_none (by simp; omega)] at hu; cases hu
              · omega
            subst hj2
            simp only [Nat.sub_self, List.getElem?_cons_zero, Option.some.injEq] at hu
            subst hu
            exact g2
    obtain ⟨l, h1, h2, h3⟩ := hl2 len (Nat.le_refl _)
    refine ⟨some a, len, m, l, rfl, h1, hl, hm, fun hn => ?_, h2⟩
    obtain ⟨b, off, spot⟩ := a
    have hne : 0 < (actT.cells (l[0]'hn)).length := by rw [actT.len]; exact hkp
    have h0 := h3 0 _ (List.getElem?_eq_getElem hn) 0 _ (List.getElem?_eq_getElem hne)
    have hspot : spot = Option.none := by simpa [Addr.add] using World.cell?_spot h0
    subst hspot
    have hmk : 0 < m * actT.k := Nat.mul_pos (by omega) hkp
    refine ⟨b, off, rfl, hlt (.cell b off) (List.mem_append_left _ (MemPlace.mem_row.2 ⟨0, hmk, by simp⟩)), fun j v hv i x hx => ?_⟩
    have := h3 j v hv i x hx
    rwa [add_plain] at this
end
end Go.Proofs.YthljcekodlbplaaDoor
