/-
  A drum and the document's, alike: what an act leaves of both. Condition: both are there.
-/
import Derived.Test.YthljcekodlbplaaDoorDPW
import Derived.Test.YthljcekodlbplaaDoorDPD
namespace Go.Proofs.YthljcekodlbplaaDoor
open Go.ChangeShapes Go.WideShapes Go.ChangeAt Go.RowKit

/-- Both are there, apart, and alike, behind so many acts. -/
def InvP (B0 n : Nat) (w : World) (d x k : Nat) : Prop :=
  ∃ base od fl ws left bx AF cF gs AD cD ds, Dr w base d od fl ws left ∧ XD w bx x (fun i => od i ∨ ownD x (.slice AF gs.length cF) (.slice AD ds.length cD) i) AF cF gs AD cD ds (max left (-1)) ∧ (∀ i, od i → ¬ ownD x (.slice AF gs.length cF) (.slice AD ds.length cD) i) ∧ RelD fl ws (gs.map Seg.l) (dsl ds) ∧ (-9223372036854775808 ≤ left ∧ left ≤ 9223372036854775807) ∧ (∀ d ∈ ds, 0 ≤ d.1 → d.2.l.length = 256 ∧ 256 ≤ d.2.cap) ∧ (ds.length ≤ k ∧ ws.length ≤ k) ∧ gs.length = n ∧ (∀ i, od i → B0 ≤ i) ∧ (∀ i, ownD x (.slice AF gs.length cF) (.slice AD ds.length cD) i → B0 ≤ i) ∧ (∀ s ∈ gs, s.l.length = 256)
theorem InvP.below {B0 n d x k : Nat} {w w' : World} (h : InvP B0 n w d x k) (hb : Below w.heap.size w w') : InvP B0 n w' d x k := by
  obtain ⟨base, od, fl, ws, left, bx, AF, cF, gs, AD, cD, ds, h1, h2, h3⟩ := h
  exact ⟨base, od, fl, ws, left, bx, AF, cF, gs, AD, cD, ds, h1.below hb, h2.below hb, h3⟩
/-- Behind the drum's act, ahead of the document's. -/
def MidP (B0 n : Nat) (w : World) (d x k : Nat) (y : Actn) (c : Int) : Prop :=
  ∃ base od fl ws left bx AF cF gs AD cD ds fl0 ws0 left0, Dr w base d od fl ws left ∧ XD w bx x (fun i => od i ∨ ownD x (.slice AF gs.length cF) (.slice AD ds.length cD) i) AF cF gs AD cD ds (max left0 (-1)) ∧ (∀ i, od i → ¬ ownD x (.slice AF gs.length cF) (.slice AD ds.length cD) i) ∧ RelD fl0 ws0 (gs.map Seg.l) (dsl ds) ∧ (-9223372036854775808 ≤ left0 ∧ left0 ≤ 9223372036854775807) ∧ (∀ d ∈ ds, 0 ≤ d.1 → d.2.l.length = 256 ∧ 256 ≤ d.2.cap) ∧ (ds.length ≤ k ∧ ws0.length ≤ k) ∧ gs.length = n ∧ (∀ i, od i → B0 ≤ i) ∧ (∀ i, ownD x (.slice AF gs.length cF) (.slice AD ds.length cD) i → B0 ≤ i) ∧ (∀ s ∈ gs, s.l.length = 256) ∧
    (∀ s ∈ fl0, s.length = 256) ∧ (∀ z ∈ ws0, z.2.length = 256) ∧ (∀ z ∈ ws0, z.1 < fl0.length) ∧ c = codeA (kindA fl0.length left0 y) ∧ (fl, ws, left) = stepC fl0 ws0 left0 y (kindA fl0.length left0 y) ∧ RdK (fun i => od i ∨ ownD x (.slice AF gs.length cF) (.slice AD ds.length cD) i) w y.AP y.P
theorem stepC_left {fl : List (List UInt8)} {ws : List (Nat × List UInt8)} {left : Int} {y : Actn} {n : Nat} (h : -9223372036854775808 ≤ left ∧ left ≤ 9223372036854775807) (hN : -9223372036854775808 ≤ y.N ∧ y.N ≤ 9223372036854775807) (hl : n = 1 ∨ n = 9 → left ≠ 0) : -9223372036854775808 ≤ (stepC fl ws left y n).2.2 ∧ (stepC fl ws left y n).2.2 ≤ 9223372036854775807 := by
  have hless : left ≠ 0 → -9223372036854775808 ≤ less left ∧ less left ≤ 9223372036854775807 := fun h0 => by unfold less; split <;> omega
  match n with
  | 0 => exact h
  | 1 => exact hless (hl (.inl rfl))
  | 2 => exact ⟨show (-9223372036854775808 : Int) ≤ -1 by decide, show (-1 : Int) ≤ 9223372036854775807 by decide⟩
  | 3 => exact h
  | 4 => exact h
  | 5 => exact hN
  | 6 => exact h
  | 7 => exact h
  | 8 => exact h
  | 9 => exact hless (hl (.inr rfl))
  | _ + 10 => exact h
theorem stepC_few {fl : List (List UInt8)} {ws : List (Nat × List UInt8)} {left : Int} {y : Actn} {n : Nat} : (stepC fl ws left y n).2.1.length ≤ ws.length + 1 := by
  match n with
  | 0 => exact Nat.le_succ _
  | 1 => exact Nat.zero_le _
  | 2 => exact Nat.zero_le _
  | 3 => exact Nat.le_succ _
  | 4 => exact Nat.le_succ _
  | 5 => exact Nat.le_succ _
  | 6 => exact Nat.le_succ _
  | 7 => exact Nat.le_succ _
  | 8 => exact Nat.le_succ _
  | 9 => simp [stepC]
  | _ + 10 => exact Nat.le_succ _
theorem stepC_len {fl : List (List UInt8)} {ws : List (Nat × List UInt8)} {left : Int} {y : Actn} {n : Nat} : (stepC fl ws left y n).1.length = fl.length := by
  match n with
  | 0 => rfl
  | 1 => exact app_length ..
  | 2 => exact fallK_length ..
  | 3 => exact List.length_set ..
  | 4 => rfl
  | 5 => rfl
  | 6 => rfl
  | 7 => rfl
  | 8 => rfl
  | 9 => rfl
  | _ + 10 => rfl
theorem stepR_sec {fl fs : List (List UInt8)} {ws : List (Nat × List UInt8)} {ds : List (Int × List UInt8)} {left l2 : Int} {y : Actn} (h : RelD fl ws fs ds) {n : Nat} (hf : ∀ s ∈ fl, s.length = 256) (hw : ∀ z ∈ ws, z.2.length = 256) (ha : ∀ z ∈ ws, z.1 < fl.length) : (stepR fs ds l2 y n).1 = fs ∨ (stepR fs ds l2 y n).1 = (stepC fl ws left y n).1 := by
  match n with
  | 0 => exact .inl rfl
  | 1 => exact .inl rfl
  | 2 =>
    right
    show rfOf (sfA fs ds) (dn (waR ds)) y.K y.N = fallOf fl ws y.K y.N
    rw [h.all, h.wa, dn_up, fallOf_rf y.N hf hw ha]
  | 3 =>
    right
    show (sfA fs ds).set _ (turnK ((sfA fs ds).getD _ []) _ _ _) = fl.set _ (turnK (fl.getD _ []) _ _ _)
    rw [h.all]
  | 4 => exact .inl rfl
  | 5 => exact .inl rfl
  | 6 => exact .inl rfl
  | 7 => exact .inl rfl
  | 8 => exact .inl rfl
  | 9 => exact .inl rfl
  | _ + 10 => exact .inl rfl
theorem playM {B0 n d x k : Nat} {wq w : World} (h : InvP B0 n wq d x k) (hbq : Below wq.heap.size wq w) (hk : k ≤ 100) (hB : B0 ≤ wq.heap.size) (y : Actn) (ha : y.a < 256) (hkk : y.k < 4294967296) (hRd : Rd w w.heap.size y.AP y.P) (hnew : ∀ b q, y.AP = some ⟨b, q, none⟩ → wq.heap.size ≤ b) (hK : Rb w B0 y.AK y.K) (hKm : y.K.length ≤ maxLen) :
    Calls Tryd.prog 8 #[.pointer (some ⟨d, 0, none⟩), actV y] w fun e w' => ∃ d' c, e = .returned (.tuple #[.pointer (some ⟨d', 0, none⟩), errv c]) ∧ MidP B0 n w' d' x k y c ∧ Below B0 w w' ∧ ∀ i, wq.heap.size ≤ i → i < w.heap.size → w'.heap[i]? = w.heap[i]? := by
  have hq := h
  obtain ⟨base, od, fl, ws, left, bx, AF, cF, gs, AD, cD, ds, q1, q2, -⟩ := hq
  have h := h
  have hB' : B0 ≤ w.heap.size := Nat.le_trans hB hbq.size
  clear q1 q2 base od fl ws left bx AF cF gs AD cD ds
  obtain ⟨base, od, fl, ws, left, bx, AF, cF, gs, AD, cD, ds, h1, h2, h3, h4, h5, h6, h7, h8, h9, h10, h11⟩ := h
  have hR : RdK (fun i => od i ∨ ownD x (.slice AF gs.length cF) (.slice AD ds.length cD) i) w y.AP y.P := RdK.of_new hRd hnew (by
    rintro i (e | e)
    · exact h1.lt i e
    · exact h2.lt i e)
  have hodlt := h1.lt
  have h1 := h1.below hbq
  have h2 := h2.below hbq
  have hRo : RdK od w y.AP y.P := fun hn => by
    obtain ⟨b, q, e, hb, hno, hc⟩ := hR hn
    exact ⟨b, q, e, hb, fun e => hno (.inl e), hc⟩
  have hB := hB'
  refine (play_any h1 y ha hkk hRo (hK.more hB) hKm (by omega) (by omega)).mono ?_
  rintro e w' ⟨d', base', o', rfl, g1, g2, g3⟩
  have hxk := h2.kept g2 (fun i e e' => h3 i e' e) (fun i e => .inl e) (oo' := fun i => o' i ∨ ownD x (.slice AF gs.length cF) (.slice AD ds.length cD) i) (fun i hi e => by
    rcases e with e | e
    · exact .inl (g3 i hi e)
    · exact .inr e)
  have hxlt := h2.lt
  refine ⟨d', _, rfl, ⟨base', o', _, _, _, bx, AF, cF, gs, AD, cD, ds, fl, ws, left, g1, hxk, fun i e e' => ?_, h4, h5, h6, h7, h8, fun i e => ?_, h10, h11, h1.full, h1.fullW, h1.at_, rfl, rfl, ?_⟩, g2.below hB (fun i hi e => by have := h9 i e; omega), fun i hi hi2 => g2.block i hi2 (fun e => by have := hodlt i e; omega)⟩
  · exact h3 i (g3 i (hxlt i e') e) e'
  · rcases Nat.lt_or_ge i w.heap.size with hi | hi
    · exact h9 i (g3 i hi e)
    · omega
  · intro hn
    obtain ⟨b, q, e, hb, hno, hc⟩ := hR hn
    refine ⟨b, q, e, Nat.lt_of_lt_of_le hb g2.size, fun e => hno ?_, fun j u hu => (World.cell?_of_block (g2.block b hb (fun e => hno (.inl e)))).trans (hc j u hu)⟩
    rcases e with e | e
    · exact .inl (g3 b hb e)
    · exact .inr e
theorem playX {B0 n d x k : Nat} {w : World} {y : Actn} {c : Int} (h : MidP B0 n w d x k y c) (hn1 : n ≤ 1000) (hk : k ≤ 100) (hB : B0 ≤ w.heap.size) (hkk : y.k < 4294967296) (hN : -9223372036854775808 ≤ y.N ∧ y.N ≤ 9223372036854775807) (hP2 : y.P.length ≤ 1000) (hK : Rb w B0 y.AK y.K) (hKm : y.K.length ≤ maxLen) :
    Calls Tryd.prog 9 #[.pointer (some ⟨x, 0, none⟩), actV y] w fun e w' => ∃ x', e = .returned (.tuple #[.pointer (some ⟨x', 0, none⟩), .int .i64 c]) ∧ InvP B0 n w' d x' (k + 1) ∧ Below B0 w w' := by
  obtain ⟨base, od, fl, ws, left, bx, AF, cF, gs, AD, cD, ds, fl0, ws0, left0, h1, h2, h3, h4, h5, h6, h7, h8, h9, h10, hs, f1, f2, f3, hc, hst, hR⟩ := h
  have hlen : fl0.length = gs.length := by have := h4.len; rwa [List.length_map] at this
  have hwa : ∀ d ∈ waS ds, 0 ≤ d.1 ∧ d.1 < (gs.length : Int) := fun d hd => by
    have e : (waS ds).map (fun d => (d.1, d.2.l)) = up ws0 := (waS_map ds).trans h4.wa
    have hm : (d.1, d.2.l) ∈ up ws0 := by rw [← e]; exact List.mem_map.2 ⟨d, hd, rfl⟩
    obtain ⟨z, hz, hze⟩ := List.mem_map.1 hm
    injection hze with e1 e2
    have := f3 z hz
    omega
  refine (Play_any h2 (fun i e => .inr e) (fun i e => by rcases e with e | e; exact h1.lt i e; exact h2.lt i e) (by omega) (by omega) hs h6 hwa (by omega) (by omega) y hkk hR hP2 (hK.more hB) hKm).mono ?_
  rintro e w' ⟨x', base', AF', cF', gs', AD', cD', ds', rfl, g1, g2, g3, g4, g5, g6, g7⟩
  rw [List.length_map, ← hlen, kind_max] at g1 g2 g3
  rw [List.length_map, ← hlen, kind_max]
  obtain ⟨r1, r2⟩ := h4.step y f1 f2 f3 (n := kindA fl0.length left0 y) rfl
  rw [r2] at g1
  have hsec := stepR_sec (left := left0) (l2 := max left0 (-1)) (y := y) h4 (n := kindA fl0.length left0 y) f1 f2 f3
  have hst1 := congrArg Prod.fst hst
  have hst2 := congrArg (fun z => z.2.1) hst
  have hst3 := congrArg (fun z => z.2.2) hst
  rw [← hst] at g1 r1
  rw [← hst1] at hsec
  dsimp only at hst1 hst2 hst3 hsec
  have hxlt := h2.lt
  have hdlt := h1.lt
  refine ⟨x', by rw [hc], ⟨base, od, fl, ws, left, base', AF', cF', gs', AD', cD', ds', h1.keep g4 h3, g1.weaken (fun i hi e => ?_), fun i e e' => h3 i e (g5 i (hdlt i e) e'), ?_, ?_, g6, ⟨by omega, ?_⟩, ?_, h9, fun i e => ?_, fun s hs' => ?_⟩, g4.below hB (fun i hi e => by have := h10 i e; omega)⟩
  · rcases e with e | e
    · exact .inl (.inl e)
    · exact .inr e
  · rw [g2, g3]; exact r1
  · rw [hst3]
    exact stepC_left h5 hN (fun e => by rcases e with e | e; exact kind1 e; exact (kind9 e).1)
  · rw [hst2]
    exact Nat.le_trans stepC_few (by omega)
  · have e : gs'.length = ((stepR (gs.map Seg.l) (dsl ds) (max left0 (-1)) y (kindA fl0.length left0 y)).1).length := by rw [← g2, List.length_map]
    rw [e]
    rcases hsec with h | h
    · rw [h, List.length_map]; exact h8
    · rw [h, hst1, stepC_len]; omega
  · rcases Nat.lt_or_ge i w.heap.size with hi | hi
    · exact h10 i (g5 i hi e)
    · omega
  · have hm : s.l ∈ gs'.map Seg.l := List.mem_map.2 ⟨s, hs', rfl⟩
    rw [g2] at hm
    rcases hsec with h | h
    · rw [h] at hm
      obtain ⟨z, hz, hze⟩ := List.mem_map.1 hm
      rw [← hze]
      exact hs z hz
    · rw [h] at hm
      exact h1.full _ hm
end Go.Proofs.YthljcekodlbplaaDoor
