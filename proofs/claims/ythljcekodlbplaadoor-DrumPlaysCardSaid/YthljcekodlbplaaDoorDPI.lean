/-
  An act on the drum. Conditions: the drum is there, and the act's bytes are.
-/
import Derived.Test.YthljcekodlbplaaDoorDPH
import Derived.Test.YthljcekodlbplaaDoorDPC
import Derived.Test.YthljcekodlbplaaDoorDrumN
namespace Go.Proofs.YthljcekodlbplaaDoor
open Go.ChangeShapes Go.WideShapes Go.ChangeAt Go.RowKit

def errv (n : Int) : Value := if n = 0 then .nilIface else .iface 40 (.int .i64 n)
def actV (x : Actn) : Value := .agg #[.int .u8 (x.a : Int), .int .i64 x.p, .slice x.AP x.P.length x.cP, .slice x.AK x.K.length x.cK, .int .i64 x.N, .int .u32 (x.k : Int)]
def PlayC (w : World) (o : Nat → Prop) (fl : (List (List UInt8))) (ws : List (Nat × List UInt8)) (left : Int) (x : Actn) (e : Ending) (w' : World) : Prop :=
  ∃ d' base' o', e = .returned (.tuple #[.pointer (some ⟨d', 0, none⟩), errv (codeA (kindA fl.length left x))]) ∧ Dr w' base' d' o' (stepC fl ws left x (kindA fl.length left x)).1 (stepC fl ws left x (kindA fl.length left x)).2.1 (stepC fl ws left x (kindA fl.length left x)).2.2 ∧ Kept o w w' ∧ ∀ i, i < w.heap.size → o' i → o i
set_option maxRecDepth 20000 in
theorem play_any {w : World} {base d : Nat} {o : Nat → Prop} {fl : (List (List UInt8))} {ws : List (Nat × List UInt8)} {left : Int} (h : Dr w base d o fl ws left) (x : Actn) (ha : x.a < 256) (hk : x.k < 4294967296) (hP : RdK o w x.AP x.P) (hK : Rb w w.heap.size x.AK x.K) (hKm : x.K.length ≤ maxLen) (hws : ws.length < 1000000) (hm : left < 9223372036854775808) :
    Calls Tryd.prog 8 #[.pointer (some ⟨d, 0, none⟩), actV x] w (PlayC w o fl ws left x) := by
  obtain ⟨a, p, AP, cP, P, AK, cK, K, N, k⟩ := x
  have hb := (Below.refl _ w).alloc (Nat.le_refl _) (.cells #[.int .u8 (a : Int), .int .i64 p, .slice AP P.length cP, .slice AK K.length cK, .int .i64 N, .int .u32 (k : Int)] 35)
  have hd := h.below hb
  have hp := hP.below hb
  have hlt := h.lt
  obtain ⟨W, hW⟩ : ∃ W, w.alloc (.cells #[.int .u8 (a : Int), .int .i64 p, .slice AP P.length cP, .slice AK K.length cK, .int .i64 N, .int .u32 (k : Int)] 35) = W := ⟨_, rfl⟩
  rw [hW] at hb hd hp
  have hsz := hb.size
  have KO : Kept o w W := Kept.of_below hb
  obtain ⟨n, hn⟩ : ∃ n, kindA fl.length left ⟨a, p, AP, cP, P, AK, cK, K, N, k⟩ = n := ⟨_, rfl⟩
  have hn2 := hn
  unfold kindA at hn2
  unfold PlayC
  rw [hn]
  dsimp only at hn2 ha hk hP hK hKm hp
  split at hn2
  · rename_i h3
    split at hn2
    · rename_i h0
      subst hn2 h0
      refine (play_flush (Q := fun v w' => v = errv 8 ∧ w' = W) h3 ?_).mono ?_
      · rw [hW]
        exact (Flush_off_dr hd).mono fun e w' ⟨h1, h2⟩ => ⟨_, h1, rfl, h2⟩
      · rintro e w' ⟨v, rfl, rfl, rfl⟩
        exact ⟨d, base, o, rfl, hd, KO, fun _ _ h => h⟩
    · rename_i h0
      subst hn2
      refine (play_flush (Q := fun v w' => v = errv 0 ∧ ∃ o', Dr w' base d o' (app fl ws) [] (less left) ∧ Kept o W w' ∧ ∀ i, i < W.heap.size → o' i → o i) h3 ?_).mono ?_
      · rw [hW]
        exact (Flush_dr hd h0 hm).mono fun e w' ⟨h1, h2⟩ => ⟨_, h1, rfl, h2⟩
      · rintro e w' ⟨v, rfl, rfl, o', g1, g2, g3⟩
        exact ⟨d, base, o', rfl, g1, KO.trans g2 (fun _ _ h => h), fun i hi => g3 i (by omega)⟩
  · split at hn2
    · rename_i h3 h4
      subst hn2
      refine (play_fall (Q := fun v w' => ∃ d' o', v = .pointer (some ⟨d', 0, none⟩) ∧ Dr w' W.heap.size d' o' (fallOf fl ws K N) [] (-1) ∧ Below W.heap.size W w') h4 ?_).mono ?_
      · rw [hW]
        exact (Fall_dr hd cK w.heap.size K (hK.below hb) hsz rfl hKm N).mono fun e w' ⟨d', o', h1, h2⟩ => ⟨_, h1, d', o', rfl, h2⟩
      · rintro e w' ⟨v, rfl, d', o', rfl, g1, g2⟩
        exact ⟨d', W.heap.size, o', rfl, g1, KO.trans (Kept.of_below (own := o) g2) (fun _ _ h => h), fun i hi e => absurd (g1.ge i e) (by omega)⟩
    · split at hn2
      · rename_i h3 h4 h5
        split at hn2
        · rename_i hh
          subst hn2
          obtain ⟨⟨p0, p1⟩, n0, n1⟩ := hh
          obtain ⟨p', rfl⟩ := Int.eq_ofNat_of_zero_le p0
          obtain ⟨N', rfl⟩ := Int.eq_ofNat_of_zero_le n0
          refine (play_turn (Q := fun v w' => v = errv 0 ∧ Dr w' base d o (fl.set p' (turnK (fl.getD p' []) N' k (min 32 (2048 - N')))) ws left ∧ Kept o W w') h5 ?_).mono ?_
          · rw [hW]
            exact (Turn_dr hd p' N' k (by omega) (by omega) hk).mono fun e w' ⟨h1, h2⟩ => ⟨_, h1, rfl, h2⟩
          · rintro e w' ⟨v, rfl, rfl, g1, g2⟩
            exact ⟨d, base, o, rfl, g1, KO.trans g2 (fun _ _ h => h), fun _ _ h => h⟩
        · rename_i hh
          subst hn2
          refine (play_turn (Q := fun v w' => v = errv 7 ∧ w' = W) h5 ?_).mono ?_
          · rw [hW]
            exact (Turn_index_dr hd p N k hh).mono fun e w' ⟨h1, h2⟩ => ⟨_, h1, rfl, h2⟩
          · rintro e w' ⟨v, rfl, rfl, rfl⟩
            exact ⟨d, base, o, rfl, hd, KO, fun _ _ h => h⟩
      · split at hn2
        · rename_i h3 h4 h5 h6
          subst hn2
          refine (play_arm (Q := fun v w' => v = .tuple #[] ∧ Dr w' base d o fl ws N ∧ Kept o W w') h6 ?_).mono ?_
          · rw [hW]
            exact (Arm_dr hd N).mono fun e w' ⟨h1, h2⟩ => ⟨_, h1, rfl, h2⟩
          · rintro e w' ⟨v, rfl, rfl, g1, g2⟩
            exact ⟨d, base, o, rfl, g1, KO.trans g2 (fun _ _ h => h), fun _ _ h => h⟩
        · rename_i h3 h4 h5 h6
          have h7 : a % 7 < 3 := by omega
          split at hn2
          · rename_i hi
            subst hn2
            refine (play_write (Q := fun v w' => v = errv 7 ∧ w' = W) h7 ?_).mono ?_
            · rw [hW]
              exact (Write_index_dr hd p cP hi).mono fun e w' ⟨h1, h2⟩ => ⟨_, h1, rfl, h2⟩
            · rintro e w' ⟨v, rfl, rfl, rfl⟩
              exact ⟨d, base, o, rfl, hd, KO, fun _ _ h => h⟩
          · rename_i hi
            have hi := Classical.not_not.1 hi
            split at hn2
            · rename_i hl
              subst hn2
              refine (play_write (Q := fun v w' => v = errv 4 ∧ w' = W) h7 ?_).mono ?_
              · rw [hW]
                exact (Write_long_dr hd p cP hi hl).mono fun e w' ⟨h1, h2⟩ => ⟨_, h1, rfl, h2⟩
              · rintro e w' ⟨v, rfl, rfl, rfl⟩
                exact ⟨d, base, o, rfl, hd, KO, fun _ _ h => h⟩
            · rename_i hl
              split at hn2
              · rename_i h0
                subst hn2 h0
                refine (play_write (Q := fun v w' => v = errv 8 ∧ w' = W) h7 ?_).mono ?_
                · rw [hW]
                  exact (Write_off_dr hd p cP hi (Nat.not_lt.1 hl)).mono fun e w' ⟨h1, h2⟩ => ⟨_, h1, rfl, h2⟩
                · rintro e w' ⟨v, rfl, rfl, rfl⟩
                  exact ⟨d, base, o, rfl, hd, KO, fun _ _ h => h⟩
              · rename_i h0
                subst hn2
                obtain ⟨p0, p1⟩ := hi
                obtain ⟨p', rfl⟩ := Int.eq_ofNat_of_zero_le p0
                refine (play_write (Q := fun v w' => v = errv 0 ∧ ∃ o', Dr w' base d o' fl (ws ++ [(p', full P)]) (less left) ∧ Kept o W w' ∧ ∀ i, i < W.heap.size → o' i → o i) h7 ?_).mono ?_
                · rw [hW]
                  exact (Write_dr hd h0 hm p' cP (by omega) hp rfl (Nat.not_lt.1 hl) hws).mono fun e w' ⟨h1, h2⟩ => ⟨_, h1, rfl, h2⟩
                · rintro e w' ⟨v, rfl, rfl, o', g1, g2, g3⟩
                  exact ⟨d, base, o', rfl, g1, KO.trans g2 (fun _ _ h => h), fun i hi => g3 i (by omega)⟩
end Go.Proofs.YthljcekodlbplaaDoor
