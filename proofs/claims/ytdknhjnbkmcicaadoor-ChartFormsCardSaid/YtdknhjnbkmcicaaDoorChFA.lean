/-
  What chart.Parse reads of any bytes. No condition.
  chart.readKey: what is read, and what is left. Conditions: the Lens is known.
  chart.readLegs: what is read, and what is left. Conditions: the Lens is known.
-/
import Derived.Test.YtdknhjnbkmcicaaDoorChA
import Derived.Test.YtdknhjnbkmcicaaDoorQuG
namespace Go.Proofs.YtdknhjnbkmcicaaDoor

/-- The key off the front, and what is left. -/
def ky1 (st : Option (List UInt8)) : Option (List UInt8) := uS 4294967295 st
def ky2 (st : Option (List UInt8)) : Option (List UInt8) := uS 3652058 (ky1 st)
def ky3 (st : Option (List UInt8)) : Option (List UInt8) := uS 255 (ky2 st)
def ky4 (st : Option (List UInt8)) : Option (List UInt8) := uS 4294967295 (ky3 st)
def kyR (st : Option (List UInt8)) : Ky := ⟨uV 4294967295 st, (uV 3652058 (ky1 st) : Nat), uV 255 (ky2 st), uV 4294967295 (ky3 st)⟩
/-- So many legs, and what is left. -/
def lgR (st : Option (List UInt8)) : Nat → List (Nat × Int) × Option (List UInt8)
  | 0 => ([], st)
  | k + 1 => ((lgR st k).1 ++ [(uV 255 (lgR st k).2, iV (uS 255 (lgR st k).2))], iS (uS 255 (lgR st k).2))
def lgN (st : Option (List UInt8)) : Nat := uV 8 st
def lgS (st : Option (List UInt8)) : List (Nat × Int) × Option (List UInt8) := lgR (uS 8 st) (lgN st)

theorem uS_some {most : Nat} {st : Option (List UInt8)} {r : List UInt8} (h : uS most st = some r) : st = some (layN 0 (uV most st) ++ r) ∧ uV most st ≤ most := by
  cases st with
  | none => cases h
  | some l =>
    unfold uS uV at *
    rw [Option.bind_some] at *
    cases ht : takeU most l with
    | none => rw [ht] at h; cases h
    | some p =>
      obtain ⟨n, r'⟩ := p
      rw [ht] at h
      injection h with h
      subst h
      unfold takeU at ht
      cases hn : numT l with
      | none => rw [hn] at ht; cases ht
      | some q =>
        obtain ⟨m, n2, r2⟩ := q
        rw [hn] at ht
        cases m with
        | true => cases ht
        | false =>
          simp only at ht
          split at ht
          · rename_i hle
            injection ht with ht
            injection ht with h1 h2
            subst h1 h2
            have e := numT_one hn
            simp only [Bool.false_eq_true, if_false] at e
            exact ⟨by simp only; rw [← e], hle⟩
          · cases ht
theorem uS_lay {most n : Nat} {r : List UInt8} (hn : n ≤ most) (hm : most < 18446744073709551616) : uS most (some (layN 0 n ++ r)) = some r ∧ uV most (some (layN 0 n ++ r)) = n := by
  have e := numT_lay 0 n r (.inl rfl) (by omega)
  have t : takeU most (layN 0 n ++ r) = some (n, r) := by
    unfold takeU
    rw [e]
    simp [hn]
  unfold uS uV
  rw [Option.bind_some, t]
  exact ⟨rfl, rfl⟩
theorem iS_some {st : Option (List UInt8)} {r : List UInt8} (h : iS st = some r) : st = some (layI (iV st) ++ r) ∧ -9223372036854775808 ≤ iV st ∧ iV st ≤ 9223372036854775807 := by
  cases st with
  | none => cases h
  | some l =>
    unfold iS iV at *
    rw [Option.bind_some] at *
    cases ht : takeI l with
    | none => rw [ht] at h; cases h
    | some p =>
      obtain ⟨n, r'⟩ := p
      rw [ht] at h
      injection h with h
      subst h
      unfold takeI at ht
      cases hn : numT l with
      | none => rw [hn] at ht; cases ht
      | some q =>
        obtain ⟨m, n2, r2⟩ := q
        rw [hn] at ht
        simp only at ht
        split at ht
        · rename_i hle
          injection ht with ht
          injection ht with h1 h2
          subst h1 h2
          have e := numT_one hn
          cases m with
          | true =>
            simp only [if_true] at e ⊢
            refine ⟨?_, by omega, by omega⟩
            unfold layI
            rw [if_neg (by omega), show (-1 - (-1 - (n2 : Int))).toNat = n2 by omega, ← e]
          | false =>
            simp only [Bool.false_eq_true, if_false] at e ⊢
            refine ⟨?_, by omega, by omega⟩
            unfold layI
            rw [if_pos (by omega), show ((n2 : Int)).toNat = n2 by omega, ← e]
        · cases ht
theorem iS_lay {i : Int} {r : List UInt8} (hi : -9223372036854775808 ≤ i ∧ i ≤ 9223372036854775807) : iS (some (layI i ++ r)) = some r ∧ iV (some (layI i ++ r)) = i := by
  have t : takeI (layI i ++ r) = some (i, r) := by
    unfold takeI layI
    by_cases h : 0 ≤ i
    · rw [if_pos h, numT_lay 0 i.toNat r (.inl rfl) (by omega)]
      simp
      omega
    · rw [if_neg h, numT_lay 128 (-1 - i).toNat r (.inr rfl) (by omega)]
      simp
      omega
  unfold iS iV
  rw [Option.bind_some, t]
  exact ⟨rfl, rfl⟩
/-- A leg's number that is read is one. -/
theorem uV_le (most : Nat) (st : Option (List UInt8)) : uV most st ≤ most := by
  cases h : uS most st with
  | some r => exact (uS_some h).2
  | none =>
    unfold uS at h
    unfold uV
    cases hb : st.bind (takeU most) with
    | none => simp
    | some p => rw [hb] at h; cases h
theorem iV_in (st : Option (List UInt8)) : -9223372036854775808 ≤ iV st ∧ iV st ≤ 9223372036854775807 := by
  cases h : iS st with
  | some r => exact (iS_some h).2
  | none =>
    unfold iS at h
    unfold iV
    cases hb : st.bind takeI with
    | none => simp
    | some p => rw [hb] at h; cases h
theorem lgR_len (st : Option (List UInt8)) : ∀ k, (lgR st k).1.length = k := by
  intro k
  induction k with
  | zero => rfl
  | succ k ih => unfold lgR; rw [List.length_append, ih]; rfl
theorem lgR_in (st : Option (List UInt8)) : ∀ k, ∀ u ∈ (lgR st k).1, LegIn u := by
  intro k
  induction k with
  | zero => intro u hu; cases hu
  | succ k ih =>
    intro u hu
    unfold lgR at hu
    rcases List.mem_append.1 hu with h | h
    · exact ih u h
    · rw [List.mem_singleton.1 h]
      have h1 := uV_le 255 (lgR st k).2
      have h2 := iV_in (uS 255 (lgR st k).2)
      exact ⟨by simp only; omega, h2.1, h2.2⟩
end Go.Proofs.YtdknhjnbkmcicaaDoor
namespace Go.Proofs.YtdknhjnbkmcicaaDoor
open Go.ChangeShapes Go.WideShapes Go.ChangeAt Go.RowKit

theorem Far.setNew {a w : World} {q g : Nat} (h : Far a w q none) (hg : a.heap.size ≤ g) (i : Nat) (u : Value) : Far a (w.setCell ⟨g, i, none⟩ u) q none :=
  ⟨h.1, h.2.1, h.2.2.1, by simpa [World.setCell] using h.2.2.2.1, fun j hj h1 h2 => (Below.heap_setCell w ⟨g, i, none⟩ u j (by intro e; have e2 : j = g := e; omega)).trans (h.2.2.2.2 j hj h1 h2)⟩
theorem Ln.set {w : World} {b g q : Nat} {st : Option (List UInt8)} (h : Ln w b g st) (h1 : b ≠ q) (h3 : g ≠ q) (i : Nat) (u : Value) : Ln (w.setCell ⟨q, i, none⟩ u) b g st := h.past ((Far.refl w q none).set i u) h1 (by simp) h3 (by simp)
theorem Ln.alloc {w : World} {b g : Nat} {st : Option (List UInt8)} (h : Ln w b g st) (o : Obj) : Ln (w.alloc o) b g st := h.below (b_alloc w o)

def RKPost (b g : Nat) (w : World) (st : Option (List UInt8)) (e : Ending) (w' : World) : Prop := e = .returned (kyR st).v ∧ Ln w' b g (ky4 st) ∧ Far w w' b none

set_option maxRecDepth 100000 in
set_option maxHeartbeats 4000000 in
theorem RKey_any (b g : Nat) (st : Option (List UInt8)) (w : World) (h : Ln w b g st) (hg : g < w.heap.size) :
    Calls Tryd.prog 30 #[.pointer (some ⟨b, 0, none⟩)] w (RKPost b g w st) := by
  have hb : b < w.heap.size := h.lt
  obtain ⟨G, hG⟩ : ∃ G, w.heap.size = G := ⟨_, rfl⟩
  have hK0 := (Blk.new w 25 #[.int .u32 0, .int .i32 0, .int .u8 0, .int .u32 0]).alloc (.cells #[.int .u32 0, .int .i32 0, .int .u8 0, .int .u32 0] 25)
  have hK1 := Blk.new (w.alloc (.cells #[.int .u32 0, .int .i32 0, .int .u8 0, .int .u32 0] 25)) 25 #[.int .u32 0, .int .i32 0, .int .u8 0, .int .u32 0]
  rw [show (w.alloc (.cells #[.int .u32 0, .int .i32 0, .int .u8 0, .int .u32 0] 25)).heap.size = G + 1 by simp [hG]] at hK1
  have hL := (h.alloc (.cells #[.int .u32 0, .int .i32 0, .int .u8 0, .int .u32 0] 25)).alloc (.cells #[.int .u32 0, .int .i32 0, .int .u8 0, .int .u32 0] 25)
  have hF := ((Far.refl w b none).alloc (.cells #[.int .u32 0, .int .i32 0, .int .u8 0, .int .u32 0] 25)).alloc (.cells #[.int .u32 0, .int .i32 0, .int .u8 0, .int .u32 0] 25)
  rw [hG] at hK0 hb hg
  have HG := Lib.hid hG
  have HBG := Lib.hid (And.intro hb hg)
  obtain ⟨x1, hx1⟩ : ∃ x, uV 4294967295 st = x := ⟨_, rfl⟩
  obtain ⟨x2, hx2⟩ : ∃ x, uV 3652058 (ky1 st) = x := ⟨_, rfl⟩
  obtain ⟨x3, hx3⟩ : ∃ x, uV 255 (ky2 st) = x := ⟨_, rfl⟩
  obtain ⟨x4, hx4⟩ : ∃ x, uV 4294967295 (ky3 st) = x := ⟨_, rfl⟩
  have b1 := uV_le 4294967295 st
  have b2 := uV_le 3652058 (ky1 st)
  have b3 := uV_le 255 (ky2 st)
  have b4 := uV_le 4294967295 (ky3 st)
  rw [hx1] at b1
  rw [hx2] at b2
  rw [hx3] at b3
  rw [hx4] at b4
  have i1 : IntKind.u32.wrap (x1 : Int) = (x1 : Int) := by rw [IntKind.wrap_u32]; omega
  have i2 : IntKind.i32.wrap (x2 : Int) = (x2 : Int) := by rw [IntKind.wrap_i32]; omega
  have i3 : IntKind.u8.wrap (x3 : Int) = (x3 : Int) := by rw [IntKind.wrap_u8]; omega
  have i4 : IntKind.u32.wrap (x4 : Int) = (x4 : Int) := by rw [IntKind.wrap_u32]; omega
  have HX := Lib.hid (And.intro hx1 (And.intro hx2 (And.intro hx3 hx4)))
  have HK0 := Lib.hid hK0
  have HK1 := Lib.hid hK1
  have HL := Lib.hid hL
  have HF := Lib.hid hF
  clear hK0 hK1 hL hF h hb hg hx1 hx2 hx3 hx4 b1 b2 b3 b4
  go_enter Tryd.func30, Tryd.ntmps30
  go_wp2_with fail
  refine (LUint_any b g 4294967295 (by decide) st _ HL.out).mono ?_
  rintro e w3 ⟨rfl, hl3, hf3⟩
  rw [HX.out.1]
  have HL3 := Lib.hid hl3
  have HF3 := Lib.hid (HF.out.trans hf3 (Stays.refl _ _))
  have HA3 := Lib.hid (HK0.out.past hf3 (by have := HBG.out.1; omega) (by simp))
  have HK3 := Lib.hid (HK1.out.past hf3 (by have := HBG.out.1; omega) (by simp))
  clear hl3 hf3 HL HF HK0 HK1
  have c0 := HK3.out.cell 0
  simp at c0
  have f0 := HK3.out.frozen 0
  have l0 := HK3.out.lt
  go_wp2_with fail
  refine (LUint_any b g 3652058 (by decide) (ky1 st) _ (HL3.out.set (q := G + 1) (by have := HBG.out.1; omega) (by have := HBG.out.2; omega) 0 (.int .u32 (x1 : Int)))).mono ?_
  rintro e w4 ⟨rfl, hl4, hf4⟩
  rw [HX.out.2.1]
  have HL4 := Lib.hid hl4
  have HF4 := Lib.hid ((HF3.out.setNew (g := G + 1) (by have := HG.out; omega) 0 (.int .u32 (x1 : Int))).trans hf4 (Stays.refl _ _))
  have HA4 := Lib.hid ((HA3.out.far (p := ⟨G + 1, 0, none⟩) (by simp) (.int .u32 (x1 : Int))).past hf4 (by have := HBG.out.1; omega) (by simp))
  have hk4 := (HK3.out.set_ 0 (.int .u32 (x1 : Int))).past hf4 (by have := HBG.out.1; omega) (by simp)
  simp only [List.setIfInBounds_toArray, List.set_cons_zero] at hk4
  have HK4 := Lib.hid hk4
  clear hl4 hf4 hk4 HL3 HF3 HA3 HK3 c0 f0 l0
  have c1 := HK4.out.cell 1
  simp at c1
  have f1 := HK4.out.frozen 1
  have l1 := HK4.out.lt
  go_wp2_with fail
  refine (LUint_any b g 255 (by decide) (ky2 st) _ (HL4.out.set (q := G + 1) (by have := HBG.out.1; omega) (by have := HBG.out.2; omega) 1 (.int .i32 (x2 : Int)))).mono ?_
  rintro e w5 ⟨rfl, hl5, hf5⟩
  rw [HX.out.2.2.1]
  have HL5 := Lib.hid hl5
  have HF5 := Lib.hid ((HF4.out.setNew (g := G + 1) (by have := HG.out; omega) 1 (.int .i32 (x2 : Int))).trans hf5 (Stays.refl _ _))
  have HA5 := Lib.hid ((HA4.out.far (p := ⟨G + 1, 1, none⟩) (by simp) (.int .i32 (x2 : Int))).past hf5 (by have := HBG.out.1; omega) (by simp))
  have hk5 := (HK4.out.set_ 1 (.int .i32 (x2 : Int))).past hf5 (by have := HBG.out.1; omega) (by simp)
  simp only [List.setIfInBounds_toArray, List.set_cons_zero, List.set_cons_succ] at hk5
  have HK5 := Lib.hid hk5
  clear hl5 hf5 hk5 HL4 HF4 HA4 HK4 c1 f1 l1
  have c2 := HK5.out.cell 2
  simp at c2
  have f2 := HK5.out.frozen 2
  have l2 := HK5.out.lt
  go_wp2_with fail
  refine (LUint_any b g 4294967295 (by decide) (ky3 st) _ (HL5.out.set (q := G + 1) (by have := HBG.out.1; omega) (by have := HBG.out.2; omega) 2 (.int .u8 (x3 : Int)))).mono ?_
  rintro e w6 ⟨rfl, hl6, hf6⟩
  rw [HX.out.2.2.2]
  have HL6 := Lib.hid hl6
  have HF6 := Lib.hid ((HF5.out.setNew (g := G + 1) (by have := HG.out; omega) 2 (.int .u8 (x3 : Int))).trans hf6 (Stays.refl _ _))
  have HA6 := Lib.hid ((HA5.out.far (p := ⟨G + 1, 2, none⟩) (by simp) (.int .u8 (x3 : Int))).past hf6 (by have := HBG.out.1; omega) (by simp))
  have hk6 := (HK5.out.set_ 2 (.int .u8 (x3 : Int))).past hf6 (by have := HBG.out.1; omega) (by simp)
  simp only [List.setIfInBounds_toArray, List.set_cons_zero, List.set_cons_succ] at hk6
  have HK6 := Lib.hid hk6
  clear hl6 hf6 hk6 HL5 HF5 HA5 HK5 c2 f2 l2
  have c3 := HK6.out.cell 3
  simp at c3
  have f3 := HK6.out.frozen 3
  have l3 := HK6.out.lt
  have c0 := HK6.out.cell 0
  have c1 := HK6.out.cell 1
  have c2 := HK6.out.cell 2
  have d0 := HA6.out.cell 0
  have d1 := HA6.out.cell 1
  have d2 := HA6.out.cell 2
  have d3 := HA6.out.cell 3
  simp at c0 c1 c2 d0 d1 d2 d3
  have e0 := HA6.out.frozen 0
  have e1 := HA6.out.frozen 1
  have e2 := HA6.out.frozen 2
  have e3 := HA6.out.frozen 3
  have l0 := HA6.out.lt
  go_wp2_with fail
  have hq6 := HA6.out
  have HLZ := Lib.hid (HL6.out.set (q := G + 1) (by have := HBG.out.1; omega) (by have := HBG.out.2; omega) 3 (.int .u32 (x4 : Int)))
  have HFZ := Lib.hid (HF6.out.setNew (g := G + 1) (by have := HG.out; omega) 3 (.int .u32 (x4 : Int)))
  have HAZ := Lib.hid (HA6.out.far (p := ⟨G + 1, 3, none⟩) (by simp) (.int .u32 (x4 : Int)))
  have h0 := (HAZ.out.set_ 0 (.int .u32 (x1 : Int)))
  have h1 := (h0.set_ 1 (.int .i32 (x2 : Int)))
  have h2 := (h1.set_ 2 (.int .u8 (x3 : Int)))
  have h3 := (h2.set_ 3 (.int .u32 (x4 : Int)))
  simp only [List.setIfInBounds_toArray, List.set_cons_zero, List.set_cons_succ] at h3
  have r0 := h3.cell 0
  have r1 := h3.cell 1
  have r2 := h3.cell 2
  have r3 := h3.cell 3
  simp at r0 r1 r2 r3
  refine bodyPost_ret (v := (kyR st).v) ?_ rfl ⟨rfl, ?_, ?_⟩
  · unfold kyR Ky.v
    rw [HX.out.1, HX.out.2.1, HX.out.2.2.1, HX.out.2.2.2]
    simp [results, Tryd.results30, go_sem, r0, r1, r2, r3, Result.andThen]
  · exact (((HLZ.out.set (by have := HBG.out.1; omega) (by have := HBG.out.2; omega) 0 _).set (by have := HBG.out.1; omega) (by have := HBG.out.2; omega) 1 _).set (by have := HBG.out.1; omega) (by have := HBG.out.2; omega) 2 _).set (by have := HBG.out.1; omega) (by have := HBG.out.2; omega) 3 _
  · exact (((HFZ.out.setNew (by have := HG.out; omega) 0 _).setNew (by have := HG.out; omega) 1 _).setNew (by have := HG.out; omega) 2 _).setNew (by have := HG.out; omega) 3 _
end Go.Proofs.YtdknhjnbkmcicaaDoor
namespace Go.Proofs.YtdknhjnbkmcicaaDoor
open Go.ChangeShapes Go.WideShapes Go.ChangeAt Go.RowKit

theorem infoLg : (Tryd.prog.info? 56).map (fun i => (i.zero, i.size, i.bytes)) = some (some (.agg #[.int .u8 0, .int .i64 0]), 2, 16) := by kernel_rfl
def legsA (l : List (Nat × Int)) : Array Value := (flatS legT l).toArray
theorem legsA_zero : ∀ n, n ≤ 8 → madeCells #[.int .u8 0, .int .i64 0] (n * 2) = legsA (List.replicate n (0, 0))
  | 0, _ => by kernel_rfl
  | 1, _ => by kernel_rfl
  | 2, _ => by kernel_rfl
  | 3, _ => by kernel_rfl
  | 4, _ => by kernel_rfl
  | 5, _ => by kernel_rfl
  | 6, _ => by kernel_rfl
  | 7, _ => by kernel_rfl
  | 8, _ => by kernel_rfl
  | n + 9, h => absurd h (by omega)
theorem makeLegs (n : Nat) (hn : n ≤ 8) (u : World) :
    (Instr.makeSlice 26 (.int .u64 (n : Int)) (.int .u64 (n : Int))).run Tryd.prog u = .ok (.slice (some ⟨u.heap.size, 0, none⟩) n n) (u.alloc (.cells (legsA (List.replicate n (0, 0))) 56)) := by
  obtain ⟨i0, hi, hz0, hz1, hz2⟩ := info_parts infoLg
  have h := run_make (P := Tryd.prog) u 26 56 i0 (.agg #[.int .u8 0, .int .i64 0]) Tryd.underlying26 hi hz0 .u64 .u64 (n : Int) (n : Int) (by omega) (Int.le_refl _) (by rw [hz2]; omega) (by omega)
  rw [Int.toNat_natCast, hz1, show Value.cells (.agg #[.int .u8 0, .int .i64 0]) = #[.int .u8 0, .int .i64 0] from rfl, legsA_zero n hn] at h
  exact h
theorem flat_set3 : ∀ (l : List (Nat × Int)) (k : Nat) (_ : k < l.length) (u : Nat × Int), ((l.flatMap legT.cells).set (k * 2) (.int .u8 (u.1 : Int))).set (k * 2 + 1) (.int .i64 u.2) = (l.set k u).flatMap legT.cells
  | g :: r, 0, _, u => rfl
  | g :: r, k + 1, hk, u => by
    have ih := flat_set3 r k (by simpa using hk) u
    have e : ∀ x : Nat × Int, legT.cells x = [.int .u8 (x.1 : Int), .int .i64 x.2] := fun x => rfl
    rw [List.flatMap_cons, List.set_cons_succ, List.flatMap_cons, e, ← ih]
    rw [show (k + 1) * 2 + 1 = (k * 2 + 1) + 1 + 1 by omega, show (k + 1) * 2 = (k * 2) + 1 + 1 by omega]
    rfl
theorem legsA_set {l : List (Nat × Int)} {k : Nat} (hk : k < l.length) (u : Nat × Int) : ((legsA l).setIfInBounds (k * 2) (.int .u8 (u.1 : Int))).setIfInBounds (k * 2 + 1) (.int .i64 u.2) = legsA (l.set k u) := by
  unfold legsA flatS
  rw [List.setIfInBounds_toArray, List.setIfInBounds_toArray, flat_set3 l k hk u]
theorem legsA_at {l : List (Nat × Int)} {k : Nat} (hk : k < l.length) : (legsA l)[k * 2]? = some (.int .u8 (l[k].1 : Int)) ∧ (legsA l)[k * 2 + 1]? = some (.int .i64 l[k].2) := by
  unfold legsA
  rw [List.getElem?_toArray, List.getElem?_toArray]
  exact ⟨flatS_at (T := legT) l k _ (List.getElem?_eq_getElem hk) 0 _ rfl, flatS_at (T := legT) l k _ (List.getElem?_eq_getElem hk) 1 _ rfl⟩
/-- The row after k legs are read of n. -/
def lgA (st : Option (List UInt8)) (n k : Nat) : List (Nat × Int) := (lgR st k).1 ++ List.replicate (n - k) (0, 0)
theorem lgA_len {st : Option (List UInt8)} {n k : Nat} (hk : k ≤ n) : (lgA st n k).length = n := by
  unfold lgA
  rw [List.length_append, lgR_len, List.length_replicate]
  omega
theorem lgA_set {st : Option (List UInt8)} {n k : Nat} (hk : k < n) : (lgA st n k).set k (uV 255 (lgR st k).2, iV (uS 255 (lgR st k).2)) = lgA st n (k + 1) := by
  unfold lgA
  rw [show n - k = (n - (k + 1)) + 1 by omega, List.replicate_succ, List.set_append_right _ _ (by rw [lgR_len]; omega), lgR_len, Nat.sub_self, List.set_cons_zero]
  show _ = ((lgR st k).1 ++ [_]) ++ _
  rw [List.append_assoc]
  rfl
theorem lgA_all (st : Option (List UInt8)) (n : Nat) : lgA st n n = (lgR st n).1 := by
  unfold lgA
  rw [Nat.sub_self]
  simp
def RLPost (b g : Nat) (w : World) (st : Option (List UInt8)) (e : Ending) (w' : World) : Prop :=
  ∃ G, w.heap.size ≤ G ∧ e = .returned (.slice (some ⟨G, 0, none⟩) (lgN st) (lgN st)) ∧ Blk w' G 56 (legsA (lgS st).1) ∧ Ln w' b g (lgS st).2 ∧ Far w w' b none

theorem Far.blkNew {w w' : World} {b : Nat} {t : TypeId} {cs : Array Value} {G : Nat} (hf : Far w w' b none) (h : Blk w G t cs) (hb : b < G) : Blk w' G t cs := h.past hf (by omega) (by simp)
set_option maxRecDepth 100000 in
set_option maxHeartbeats 4000000 in
theorem RLegs_any (b g : Nat) (st : Option (List UInt8)) (w : World) (h : Ln w b g st) (hg : g < w.heap.size) :
    Calls Tryd.prog 31 #[.pointer (some ⟨b, 0, none⟩)] w (RLPost b g w st) := by
  have HBG := Lib.hid (And.intro h.lt hg)
  have hN := LUint_any b g 8 (by decide) st w h
  unfold RLPost
  obtain ⟨n, hn⟩ : ∃ n, lgN st = n := ⟨_, rfl⟩
  obtain ⟨s1, hs⟩ : ∃ s, uS 8 st = s := ⟨_, rfl⟩
  have hn8 : n ≤ 8 := by rw [← hn]; exact uV_le 8 st
  have hX : (lgS st).1 = (lgR s1 n).1 ∧ (lgS st).2 = (lgR s1 n).2 := by unfold lgS; rw [hn, hs]; exact ⟨rfl, rfl⟩
  rw [hX.1, hX.2, hn]
  unfold UtPost at hN
  rw [show uV 8 st = n from hn, hs] at hN
  have HN := Lib.hid hN
  clear hN hn hs hX h hg
  go_enter Tryd.func31, Tryd.ntmps31
  go_wp2_with fail
  refine HN.out.mono ?_
  rintro e w1 ⟨rfl, hl1, hf1⟩
  have hw1 := hf1.2.2.2.1
  have hmk := fun W => makeLegs n hn8 W
  have HL1 := Lib.hid hl1
  have HF1 := Lib.hid hf1
  clear hl1 hf1 HN
  go_wp2_with fail
  obtain ⟨G, hG⟩ : ∃ G, w1.heap.size = G := ⟨_, rfl⟩
  have hB0 := Blk.new w1 56 (legsA (List.replicate n (0, 0)))
  have hL0 := HL1.out.alloc (.cells (legsA (List.replicate n (0, 0))) 56)
  have hF0 := HF1.out.alloc (.cells (legsA (List.replicate n (0, 0))) 56)
  rw [hG] at hB0 hw1
  rw [hG]
  have HGW := Lib.hid (And.intro (show b < G by have := HBG.out.1; omega) (And.intro (show g < G by have := HBG.out.2; omega) hw1))
  have e0 : lgA s1 n 0 = List.replicate n (0, 0) := rfl
  rw [← e0] at hB0
  have HB0 := Lib.hid hB0
  have HL0 := Lib.hid hL0
  have HF0 := Lib.hid hF0
  clear hB0 hL0 hF0 HL1 HF1 hmk e0 hG
  go_loopw [4, 10] (fun _ i wr => ∃ (k : Nat), k ≤ n ∧ i = .int .i64 k ∧ Hid (Ln wr b g (lgR s1 k).2) ∧ Hid (Blk wr G 56 (legsA (lgA s1 n k))) ∧ Hid (Far w wr b none)) (fun _ i _ => n - (intOf i).toNat)
  case atStart => exact ⟨0, Nat.zero_le _, rfl, HL0, HB0, HF0⟩
  case round =>
    obtain ⟨k, hk, rfl, HLk, HBk, HFk⟩ := hrel
    clear HL0 HB0 HF0
    by_cases hlt : k < n
    · have hU := LUint_any b g 255 (by decide) (lgR s1 k).2 wr HLk.out
      obtain ⟨x, hx⟩ : ∃ x, uV 255 (lgR s1 k).2 = x := ⟨_, rfl⟩
      obtain ⟨s2, hs2⟩ : ∃ s, uS 255 (lgR s1 k).2 = s := ⟨_, rfl⟩
      obtain ⟨z, hz⟩ : ∃ z, iV s2 = z := ⟨_, rfl⟩
      have bx := uV_le 255 (lgR s1 k).2
      unfold UtPost at hU
      rw [hx] at bx hU
      rw [hs2] at hU
      have HU := Lib.hid hU
      have i1 : IntKind.u8.wrap (x : Int) = (x : Int) := by rw [IntKind.wrap_u8]; omega
      have HX := Lib.hid (And.intro hx (And.intro hs2 hz))
      clear hU bx hx hs2 hz
      go_wp2_with fail
      refine HU.out.mono ?_
      rintro e w3 ⟨rfl, hl3, hf3⟩
      have HL3 := Lib.hid hl3
      have hb3 := hf3.blkNew HBk.out HGW.out.1
      have HB3 := Lib.hid hb3
      have HF3 := Lib.hid (HFk.out.trans hf3 (Stays.refl _ _))
      have hlen : k < (lgA s1 n k).length := by rw [lgA_len (by omega)]; exact hlt
      obtain ⟨v0, c0⟩ : ∃ v, w3.cell? ⟨G, k * 2, none⟩ = some v := ⟨_, (hb3.cell (k * 2)).trans (legsA_at hlen).1⟩
      have f0 := hb3.frozen (k * 2)
      have l0 := hb3.lt
      have HLEN := Lib.hid hlen
      clear hl3 hb3 hf3 HU HLk HBk HFk hlen
      go_wp2_with fail
      have hI := LInt_any b g s2 _ (HL3.out.set (q := G) (by have := HGW.out.1; omega) (by have := HGW.out.2.1; omega) (k * 2) (.int .u8 (x : Int)))
      unfold ItPost at hI
      rw [HX.out.2.2] at hI
      refine hI.mono ?_
      rintro e w5 ⟨rfl, hl5, hf5⟩
      have hb5 := hf5.blkNew (HB3.out.set_ (k * 2) (.int .u8 (x : Int))) HGW.out.1
      obtain ⟨v1, c1⟩ : ∃ v, w5.cell? ⟨G, k * 2 + 1, none⟩ = some v := ⟨_, (hb5.cell (k * 2 + 1)).trans (by rw [Array.getElem?_setIfInBounds_ne (by omega)]; exact (legsA_at HLEN.out).2)⟩
      have f1 := hb5.frozen (k * 2 + 1)
      have l1 := hb5.lt
      have HL5 := Lib.hid hl5
      have HB5 := Lib.hid hb5
      have HF5 := Lib.hid ((HF3.out.setNew HGW.out.2.2 (k * 2) (.int .u8 (x : Int))).trans hf5 (Stays.refl _ _))
      clear hl5 hb5 hf5 hI HL3 HB3 HF3 c0 f0 l0
      go_wp2_with fail
      go_roundw
      case rel =>
        refine ⟨k + 1, by omega, by go_num, Lib.hid ?_, Lib.hid ?_, Lib.hid (HF5.out.setNew HGW.out.2.2 (k * 2 + 1) (.int .i64 z))⟩
        · have h3 := HL5.out.set (q := G) (by have := HGW.out.1; omega) (by have := HGW.out.2.1; omega) (k * 2 + 1) (.int .i64 z)
          rw [← HX.out.2.1] at h3
          exact h3
        · have h3 := HB5.out.set_ (k * 2 + 1) (.int .i64 z)
          have h4 := legsA_set HLEN.out (x, z)
          simp only at h4
          rw [h4] at h3
          have h5 := lgA_set (st := s1) (n := n) (k := k) (by omega)
          rw [HX.out.1, HX.out.2.1, HX.out.2.2] at h5
          rw [h5] at h3
          exact h3
      case measure => simp [intOf]; omega
    · obtain rfl : k = n := by omega
      have hb9 := HBk.out
      rw [lgA_all] at hb9
      have HB9 := Lib.hid hb9
      clear hb9 HBk
      go_wp2_with fail
      go_ret
      exact ⟨G, HGW.out.2.2, rfl, HB9.out, HLk.out, HFk.out⟩
end Go.Proofs.YtdknhjnbkmcicaaDoor
