/-
  The document's Play, whole. Conditions: the document's drum is there.
-/
import Derived.Test.YthljcekodlbplaaDoorDPV
import Derived.Test.YthljcekodlbplaaDoorDPS
import Derived.Test.YthljcekodlbplaaDoorDPFB
import Derived.Test.YthljcekodlbplaaDoorDPI
namespace Go.Proofs.YthljcekodlbplaaDoor
open Go.ChangeShapes Go.WideShapes Go.ChangeAt Go.RowKit

def PlayN (w : World) (oo own : Nat → Prop) (fs : List (List UInt8)) (dl : List (Int × List UInt8)) (m : Nat) (left : Int) (x : Actn) (n : Nat) (e : Ending) (w' : World) : Prop :=
  ∃ x' base' AF' cF' gs' AD' cD' ds', e = .returned (.tuple #[.pointer (some ⟨x', 0, none⟩), .int .i64 (codeA n)]) ∧ XD w' base' x' (fun i => oo i ∨ ownD x' (.slice AF' gs'.length cF') (.slice AD' ds'.length cD') i) AF' cF' gs' AD' cD' ds' (stepR fs dl left x n).2.2 ∧ gs'.map Seg.l = (stepR fs dl left x n).1 ∧ dsl ds' = (stepR fs dl left x n).2.1 ∧ Kept own w w' ∧ (∀ i, i < w.heap.size → ownD x' (.slice AF' gs'.length cF') (.slice AD' ds'.length cD') i → own i) ∧ (∀ d ∈ ds', 0 ≤ d.1 → d.2.l.length = 256 ∧ 256 ≤ d.2.cap) ∧ ds'.length ≤ m + 1
def PlayX (w : World) (oo own : Nat → Prop) (fs : List (List UInt8)) (dl : List (Int × List UInt8)) (n : Nat) (left : Int) (x : Actn) (e : Ending) (w' : World) : Prop := PlayN w oo own fs dl n left x (kindA fs.length left x) e w'
set_option maxRecDepth 20000 in
set_option maxHeartbeats 1000000 in
theorem Play_any {w : World} {base x : Nat} {oo : Nat → Prop} {AF AD : Option Addr} {cF cD : Nat} {gs : List Seg} {ds : List (Int × Seg)} {left : Int} (h : XD w base x oo AF cF gs AD cD ds left) (hown : ∀ i, ownD x (.slice AF gs.length cF) (.slice AD ds.length cD) i → oo i) (hoo : ∀ i, oo i → i < w.heap.size) (hg : gs.length ≤ 1000) (hd : ds.length ≤ 1000) (hs : ∀ s ∈ gs, s.l.length = 256) (he : ∀ d ∈ ds, 0 ≤ d.1 → d.2.l.length = 256 ∧ 256 ≤ d.2.cap) (hwa : ∀ d ∈ waS ds, 0 ≤ d.1 ∧ d.1 < (gs.length : Int)) (hm : left ≤ 9223372036854775807) (hl1 : -1 ≤ left)
    (y : Actn) (hk : y.k < 4294967296) (hP : RdK oo w y.AP y.P) (hP2 : y.P.length ≤ 1000) (hK : Rb w w.heap.size y.AK y.K) (hKm : y.K.length ≤ maxLen) :
    Calls Tryd.prog 9 #[.pointer (some ⟨x, 0, none⟩), actV y] w (PlayX w oo (ownD x (.slice AF gs.length cF) (.slice AD ds.length cD)) (gs.map Seg.l) (dsl ds) ds.length left y) := by
  obtain ⟨a, p, AP, cP, P, AK, cK, K, N, k⟩ := y
  obtain ⟨n, hn⟩ : ∃ n, kindA (gs.map Seg.l).length left ⟨a, p, AP, cP, P, AK, cK, K, N, k⟩ = n := ⟨_, rfl⟩
  have hn2 := hn
  unfold kindA at hn2
  unfold PlayX
  rw [hn]
  dsimp only at hn2 hk hP hP2 hK hKm
  rw [List.length_map] at hn2
  have he1 : ∀ d ∈ ds, 0 ≤ d.1 → d.2.l.length = 256 := fun d h1 h2 => (he d h1 h2).1
  have he2 : ∀ d ∈ ds, 0 ≤ d.1 → 256 ≤ d.2.cap := fun d h1 h2 => (he d h1 h2).2
  have hsub : ∀ d ∈ waS ds, 0 ≤ d.1 → d.2.l.length = 256 ∧ 256 ≤ d.2.cap := fun d h1 h2 => he d (waS_sub ds d h1) h2
  have hdw : dsl (waS ds) = waR (dsl ds) := waS_map ds
  -- nothing turns
  have same : ∀ (e : Ending) (w' : World) (c : Int), e = .returned (.tuple #[.pointer (some ⟨x, 0, none⟩), .int .i64 c]) ∧ Below w.heap.size w w' → codeA n = c → (∀ l, stepR (gs.map Seg.l) (dsl ds) left l n = (gs.map Seg.l, dsl ds, left)) → PlayN w oo (ownD x (.slice AF gs.length cF) (.slice AD ds.length cD)) (gs.map Seg.l) (dsl ds) ds.length left ⟨a, p, AP, cP, P, AK, cK, K, N, k⟩ n e w' := by
    rintro e w' c ⟨rfl, hb⟩ hc hst
    unfold PlayN
    rw [hst]
    exact ⟨x, base, AF, cF, gs, AD, cD, ds, by rw [hc], (h.below hb).weaken (fun i _ e => by rcases e with e | e; exact e; exact hown i e), rfl, rfl, Kept.of_below hb, fun i _ e => e, he, by omega⟩
  have hb0 := h.head
  have hLE : (gs.map Seg.l).length = gs.length := List.length_map ..
  show Calls Tryd.prog 9 #[.pointer (some ⟨x, 0, none⟩), .agg #[.int .u8 (a : Int), .int .i64 p, .slice AP P.length cP, .slice AK K.length cK, .int .i64 N, .int .u32 (k : Int)]] w _
  split at hn2
  · rename_i h3
    split at hn2
    · rename_i h0
      subst hn2
      by_cases hp : 0 ≤ p
      · exact (Play_flush_off_pos hp (th := decide (p < (gs.length : Int))) rfl h0 h3 hb0).mono fun e w' hh => same e w' 8 hh rfl (fun _ => rfl)
      · exact (Play_flush_off_neg hp h0 h3 hb0).mono fun e w' hh => same e w' 8 hh rfl (fun _ => rfl)
    · rename_i h0
      subst hn2
      have fin : ∀ e w', PlayF w base x oo AF AD cF cD gs ds left e w' → PlayN w oo (ownD x (.slice AF gs.length cF) (.slice AD ds.length cD)) (gs.map Seg.l) (dsl ds) ds.length left ⟨a, p, AP, cP, P, AK, cK, K, N, k⟩ 1 e w' := fun e w' (hh : PlayF w base x oo AF AD cF cD gs ds left e w') => by
        obtain ⟨AD', cD', rfl, g1, g2, g3⟩ := hh
        exact ⟨x, base, AF, cF, gs, AD', cD', ds ++ [(-1, noSeg)], rfl, g1, rfl, by unfold dsl; rw [List.map_append]; rfl, g2 _ (fun _ h => h), g3, fun d hd h0 => by
          rcases List.mem_append.1 hd with h1 | h1
          · exact he d h1 h0
          · rw [List.mem_singleton.1 h1] at h0; exact absurd h0 (by decide), by simp⟩
      by_cases hp : 0 ≤ p
      · exact (Play_flush_ok_pos hp (th := decide (p < (gs.length : Int))) rfl h0 hm h3 rfl rfl h hown hoo hd hb0).mono fin
      · exact (Play_flush_ok_neg hp h0 hm h3 rfl rfl h hown hoo hd hb0).mono fin
  · split at hn2
    · rename_i h3 h4
      subst hn2
      have fin : ∀ e w', PlayL w oo gs ds K N e w' → PlayN w oo (ownD x (.slice AF gs.length cF) (.slice AD ds.length cD)) (gs.map Seg.l) (dsl ds) ds.length left ⟨a, p, AP, cP, P, AK, cK, K, N, k⟩ 2 e w' := fun e w' (hh : PlayL w oo gs ds K N e w') => by
        obtain ⟨x2, AF', cF', gs', rfl, g1, g2, g3⟩ := hh
        exact ⟨x2, w.heap.size, AF', cF', gs', none, 0, [], rfl, g1, g2, rfl, Kept.of_below g3, fun i hi e => absurd (g1.gee i e) (by omega), (fun d hd => by cases hd), by simp⟩
      by_cases hp : 0 ≤ p
      · exact (Play_fall_pos hp (th := decide (p < (gs.length : Int))) rfl h4 rfl rfl h hown hoo hg (by omega) hs he1 he2 hwa hK rfl hKm hb0).mono fin
      · exact (Play_fall_neg hp h4 rfl rfl h hown hoo hg (by omega) hs he1 he2 hwa hK rfl hKm hb0).mono fin
    · split at hn2
      · rename_i h3 h4 h5
        split at hn2
        · rename_i hh
          subst hn2
          obtain ⟨⟨p0, p1⟩, n0, n1⟩ := hh
          refine (Play_turn_ok p0 (decide_eq_true p1) ⟨n0, by omega⟩ h5 hk rfl rfl h hown hoo hg (by omega) hs he1 hb0).mono ?_
          rintro e w' ⟨AF', cF', gs', AD', cD', rfl, g1, g2, g3, g4⟩
          exact ⟨x, base, AF', cF', gs', AD', cD', waS ds, rfl, g1, g2, hdw, g3.mono (fun i e => .inl e), fun i hi e => .inl (g4 i hi e), hsub, Nat.le_trans (waS_le ds) (by omega)⟩
        · rename_i hh
          subst hn2
          by_cases hp : 0 ≤ p
          · by_cases hp1 : p < (gs.length : Int)
            · exact (Play_turn_bit hp (decide_eq_true hp1) (by omega) h5 hb0).mono fun e w' hh => same e w' 7 hh rfl (fun _ => rfl)
            · exact (Play_turn_high hp (decide_eq_false hp1) h5 hb0).mono fun e w' hh => same e w' 7 hh rfl (fun _ => rfl)
          · exact (Play_turn_neg hp h5 hb0).mono fun e w' hh => same e w' 7 hh rfl (fun _ => rfl)
      · split at hn2
        · rename_i h3 h4 h5 h6
          subst hn2
          have fin : ∀ (e : Ending) (w' : World), (e = .returned (.tuple #[.pointer (some ⟨x, 0, none⟩), .int .i64 0]) ∧ ∃ w1, Below w.heap.size w w1 ∧ w' = w1.setCell ⟨x, 2, none⟩ (.int .i64 (max N (-1)))) → PlayN w oo (ownD x (.slice AF gs.length cF) (.slice AD ds.length cD)) (gs.map Seg.l) (dsl ds) ds.length left ⟨a, p, AP, cP, P, AK, cK, K, N, k⟩ 5 e w' := fun e w' (hh : e = .returned (.tuple #[.pointer (some ⟨x, 0, none⟩), .int .i64 0]) ∧ ∃ w1, Below w.heap.size w w1 ∧ w' = w1.setCell ⟨x, 2, none⟩ (.int .i64 (max N (-1)))) => by
            obtain ⟨rfl, w1, g1, rfl⟩ := hh
            have g2 := (h.below g1).left (max N (-1)) hown
            exact ⟨x, base, AF, cF, gs, AD, cD, ds, rfl, g2.1.weaken (fun i _ e => by rcases e with e | e; exact e; exact hown i e), rfl, rfl, (Kept.of_below g1).trans g2.2 (fun i _ e => .inl e), fun i _ e => e, he, by omega⟩
          by_cases hp : 0 ≤ p
          · exact (Play_arm_pos hp (th := decide (p < (gs.length : Int))) rfl h6 hb0).mono fin
          · exact (Play_arm_neg hp h6 hb0).mono fin
        · rename_i h3 h4 h5 h6
          have h7 : a % 7 < 3 := by omega
          split at hn2
          · rename_i hi
            subst hn2
            by_cases hp : 0 ≤ p
            · exact (Play_write_high hp (decide_eq_false (by omega)) h7 hb0).mono fun e w' hh => same e w' 7 hh rfl (fun _ => rfl)
            · exact (Play_write_neg hp h7 hb0).mono fun e w' hh => same e w' 7 hh rfl (fun _ => rfl)
          · rename_i hi
            obtain ⟨p0, p1⟩ := Classical.not_not.1 hi
            split at hn2
            · rename_i hl
              subst hn2
              have hl : 256 < P.length := hl
              exact (Play_write_long p0 (decide_eq_true p1) (by omega) h7 hb0).mono fun e w' hh => same e w' 4 hh rfl (fun _ => rfl)
            · rename_i hl
              have hl : ¬ 256 < P.length := hl
              split at hn2
              · rename_i h0
                subst hn2
                exact (Play_write_off p0 (decide_eq_true p1) (by omega) h0 h7 hb0).mono fun e w' hh => same e w' 8 hh rfl (fun _ => rfl)
              · rename_i h0
                subst hn2
                refine (Play_write_ok_any p0 (decide_eq_true p1) (by omega) h0 hm h7 rfl rfl h hown hoo hd hP rfl hb0).mono ?_
                rintro e w' ⟨AD', cD', s, rfl, hsl, hsc, g1, g2, g3⟩
                exact ⟨x, base, AF, cF, gs, AD', cD', ds ++ [(p, s)], rfl, g1, rfl, by show dsl (ds ++ [(p, s)]) = dsl ds ++ [(p, full P)]; unfold dsl; rw [List.map_append, ← hsl]; rfl, g2 _ (fun _ h => h), g3, fun d hd h0 => by
                  rcases List.mem_append.1 hd with h1 | h1
                  · exact he d h1 h0
                  · rw [List.mem_singleton.1 h1]
                    exact ⟨by show s.l.length = 256; rw [hsl]; exact full_length _ (by omega), by show 256 ≤ s.cap; omega⟩, by simp⟩
end Go.Proofs.YthljcekodlbplaaDoor
