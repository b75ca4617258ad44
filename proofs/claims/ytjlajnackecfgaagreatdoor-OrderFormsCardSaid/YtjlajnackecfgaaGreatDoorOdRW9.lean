/-
Orders' bytes, and back: the plain mathematics. Condition: the orders may be.
-/
import Derived.Test.YtjlajnackecfgaaGreatDoorOdFW9
namespace Go.Proofs.YtjlajnackecfgaaGreatDoor
open Go.ChangeShapes Go.WideShapes Go.ChangeAt Go.RowKit
theorem tS_lay {most : Nat} {X r : List UInt8} (hn : X.length ≤ most) (hm : most < 18446744073709551616) : tS most (some (layT X ++ r)) = some r ∧ tV most (some (layT X ++ r)) = ⟨X.toArray⟩ := by
  obtain ⟨h1, h2⟩ := uS_lay (most := most) (n := X.length) (r := X ++ r) hn hm
  have t : takeU most (layN 0 X.length ++ (X ++ r)) = some (X.length, X ++ r) := by
    unfold uS at h1
    unfold uV at h2
    rw [Option.bind_some] at h1 h2
    cases hq : takeU most (layN 0 X.length ++ (X ++ r)) with
    | none => rw [hq] at h1; cases h1
    | some x =>
      rw [hq] at h1 h2
      obtain ⟨a, b⟩ := x
      simp only [Option.some.injEq] at h1 h2
      rw [h1, h2]
  have e : takeS most (layT X ++ r) = some (X, r) := by
    unfold takeS layT
    rw [List.append_assoc, t]
    simp
  unfold tS tV
  rw [Option.bind_some, e]
  exact ⟨rfl, rfl⟩
theorem tS_some {most : Nat} {st : Option (List UInt8)} {r : List UInt8} (h : tS most st = some r) : st = some (layT (tV most st).data.toList ++ r) ∧ (tV most st).data.toList.length ≤ most := by
  cases st with
  | none => cases h
  | some l =>
    cases hq : takeU most l with
    | none =>
      have e : takeS most l = none := by unfold takeS; rw [hq]
      unfold tS at h
      rw [Option.bind_some, e] at h
      cases h
    | some x =>
      obtain ⟨n, y⟩ := x
      by_cases hn : n ≤ y.length
      · have e : takeS most l = some (y.take n, y.drop n) := by unfold takeS; rw [hq]; exact if_pos hn
        unfold tS at h
        unfold tV
        rw [Option.bind_some, e] at h
        rw [Option.bind_some, e]
        have h9 : y.drop n = r := Option.some.inj h
        subst h9
        have hu : uS most (some l) = some y ∧ uV most (some l) = n := by
          unfold uS uV
          rw [Option.bind_some, hq]
          exact ⟨rfl, rfl⟩
        obtain ⟨e1, e2⟩ := uS_some hu.1
        rw [hu.2] at e1 e2
        simp only [Option.some.injEq] at e1
        refine ⟨?_, ?_⟩
        · show some l = some (layT (y.take n) ++ y.drop n)
          unfold layT
          rw [List.length_take, Nat.min_eq_left hn, List.append_assoc, List.take_append_drop, ← e1]
        · show (y.take n).length ≤ most
          rw [List.length_take]
          omega
      · have e : takeS most l = none := by unfold takeS; rw [hq]; exact if_neg hn
        unfold tS at h
        rw [Option.bind_some, e] at h
        cases h
def pk (q : List UInt8) : Nat := uV 255 (some q)
def ps1 (q : List UInt8) : Option (List UInt8) := uS 255 (some q)
def pa (q : List UInt8) : Nat := uV 4294967295 (ps1 q)
def ps2 (q : List UInt8) : Option (List UInt8) := uS 4294967295 (ps1 q)
/-- What stands behind the kind and the loan. -/
def Ord.tl (o : Ord) : List UInt8 :=
  if o.k = 1 then layT (layTm o.t) else if o.k = 2 then layN 0 o.e.s ++ (layN 0 o.e.d.toNat ++ (layN 0 o.e.k ++ layN 0 o.e.m.toNat)) else if o.k = 3 then layN 0 o.e.s else []
theorem layO_tl (o : Ord) : layO o = layN 0 o.k ++ (layN 0 o.a ++ o.tl) := by
  unfold layO Ord.tl
  split
  · simp only [List.nil_append, List.append_assoc]
  · split
    · simp only [List.nil_append, List.append_assoc]
    · split
      · simp only [List.nil_append, List.append_assoc]
      · simp only [List.nil_append, List.append_nil]
theorem po_lay {o : Ord} (hk : o.k ≤ 255) (ha : o.a ≤ 4294967295) : pk (layO o) = o.k ∧ pa (layO o) = o.a ∧ ps2 (layO o) = some o.tl := by
  rw [layO_tl]
  obtain ⟨a1, b1⟩ := uS_lay (most := 255) (n := o.k) (r := layN 0 o.a ++ o.tl) hk (by decide)
  obtain ⟨a2, b2⟩ := uS_lay (most := 4294967295) (n := o.a) (r := o.tl) ha (by decide)
  unfold pk pa ps2 ps1
  rw [a1, b1, a2, b2]
  exact ⟨rfl, rfl, rfl⟩
theorem ev_lay {s d k m : Nat} (hs : s ≤ 4294967295) (hd : d ≤ 3652058) (hk : k ≤ 255) (hm : m ≤ 1000000000000) (r : List UInt8) :
    uV 4294967295 (some (layN 0 s ++ (layN 0 d ++ (layN 0 k ++ (layN 0 m ++ r))))) = s ∧
    uV 3652058 (uS 4294967295 (some (layN 0 s ++ (layN 0 d ++ (layN 0 k ++ (layN 0 m ++ r)))))) = d ∧
    uV 255 (uS 3652058 (uS 4294967295 (some (layN 0 s ++ (layN 0 d ++ (layN 0 k ++ (layN 0 m ++ r))))))) = k ∧
    uV 1000000000000 (uS 255 (uS 3652058 (uS 4294967295 (some (layN 0 s ++ (layN 0 d ++ (layN 0 k ++ (layN 0 m ++ r)))))))) = m ∧
    uS 1000000000000 (uS 255 (uS 3652058 (uS 4294967295 (some (layN 0 s ++ (layN 0 d ++ (layN 0 k ++ (layN 0 m ++ r)))))))) = some r := by
  obtain ⟨a1, b1⟩ := uS_lay (most := 4294967295) (n := s) (r := layN 0 d ++ (layN 0 k ++ (layN 0 m ++ r))) hs (by decide)
  obtain ⟨a2, b2⟩ := uS_lay (most := 3652058) (n := d) (r := layN 0 k ++ (layN 0 m ++ r)) hd (by decide)
  obtain ⟨a3, b3⟩ := uS_lay (most := 255) (n := k) (r := layN 0 m ++ r) hk (by decide)
  obtain ⟨a4, b4⟩ := uS_lay (most := 1000000000000) (n := m) (r := r) hm (by decide)
  rw [a1, b1, a2, b2, a3, b3, a4, b4]
  exact ⟨rfl, rfl, rfl, rfl, rfl⟩
theorem layO_inj {o p : Ord} (hi : o.In) (hj : p.In) (ho : o.Right) (hp : p.Right) (h : layO o = layO p) : o = p := by
  have ik := hi.k
  have ia := hi.a
  have jk := hj.k
  have ja := hj.a
  obtain ⟨a1, a2, a3⟩ := po_lay (o := o) (by omega) (by omega)
  obtain ⟨b1, b2, b3⟩ := po_lay (o := p) (by omega) (by omega)
  rw [h] at a1 a2 a3
  have hk : o.k = p.k := a1.symm.trans b1
  have ha : o.a = p.a := a2.symm.trans b2
  have ht : o.tl = p.tl := Option.some.inj (a3.symm.trans b3)
  clear a1 a2 a3 b1 b2 b3 h
  obtain ⟨h0, h1, h2, h3, h4⟩ := ho
  obtain ⟨g0, g1, g2, g3, g4⟩ := hp
  unfold Ord.tl at ht
  rw [h0, g0]
  unfold Ord.named
  rw [← hk] at ht g1 g2 ⊢
  rw [ha]
  have hes := hi.e.s
  have hps := hj.e.s
  by_cases k1 : o.k = 1
  · rw [if_pos k1, if_pos k1] at ht
    have l1 := layTm_len (h1 k1)
    have l2 := layTm_len (g1 k1)
    obtain ⟨-, q1⟩ := tS_lay (most := 1000) (X := layTm o.t) (r := []) (by omega) (by decide)
    obtain ⟨-, q2⟩ := tS_lay (most := 1000) (X := layTm p.t) (r := []) (by omega) (by decide)
    rw [List.append_nil] at q1 q2
    rw [ht, q2] at q1
    injection q1 with q1
    have q3 := congrArg Array.toList q1
    rw [if_pos k1, if_pos k1, layTm_inj (h1 k1) (g1 k1) q3.symm]
  rw [if_neg k1, if_neg k1] at ht
  rw [if_neg k1, if_neg k1]
  by_cases k2 : o.k = 2
  · rw [if_pos k2, if_pos k2] at ht
    rw [if_pos k2, if_pos k2]
    obtain ⟨hd, hek⟩ := h2 k2
    obtain ⟨gd, gek⟩ := g2 k2
    obtain ⟨q1, q2, q3, q4, -⟩ := ev_lay (s := o.e.s) (d := o.e.d.toNat) (k := o.e.k) (m := o.e.m.toNat) (by omega) (by omega) (by omega) (by omega) []
    obtain ⟨r1, r2, r3, r4, -⟩ := ev_lay (s := p.e.s) (d := p.e.d.toNat) (k := p.e.k) (m := p.e.m.toNat) (by omega) (by omega) (by omega) (by omega) []
    rw [List.append_nil] at q1 q2 q3 q4 r1 r2 r3 r4
    rw [ht] at q1 q2 q3 q4
    have e1 := q1.symm.trans r1
    have e2 := q2.symm.trans r2
    have e3 := q3.symm.trans r3
    have e4 := q4.symm.trans r4
    have fin : o.e = p.e → (⟨2, p.a, Trm.zero, o.e⟩ : Ord) = ⟨2, p.a, Trm.zero, p.e⟩ := fun h => by rw [h]
    apply fin
    rw [evt_ext]
    omega
  rw [if_neg k2, if_neg k2] at ht
  rw [if_neg k2, if_neg k2]
  by_cases k3 : o.k = 3
  · rw [if_pos k3, if_pos k3] at ht
    rw [if_pos k3, if_pos k3]
    obtain ⟨-, q1⟩ := uS_lay (most := 4294967295) (n := o.e.s) (r := []) (by omega) (by decide)
    obtain ⟨-, r1⟩ := uS_lay (most := 4294967295) (n := p.e.s) (r := []) (by omega) (by decide)
    rw [List.append_nil] at q1 r1
    rw [ht, r1] at q1
    rw [q1]
  · rw [if_neg k3, if_neg k3]
end Go.Proofs.YtjlajnackecfgaaGreatDoor
