/-
begun. Conditions: a drum that isn't armed, of six sectors at least and a thousand at most; a record that fits and lies off the drum; room for the writes.
-/
import Derived.Test.YtbaenpgjggojaaaRlVZ9
namespace Go.Proofs.Ytbaenpgjggojaaa
open Go.ChangeShapes Go.WideShapes Go.RowKit

section
variable {w w1 w2 w' : World} {base d r g : Nat} {own own0 o : Nat → Prop} {fl : List (List UInt8)} {ws : List (Nat × List UInt8)} {Ls : List (List UInt8)}
theorem Rl.lt (h : Rl w base d r g own fl ws Ls) : ∀ i, own i → i < w.heap.size := by
  obtain ⟨o, R, c, vals, hd, hh, hoff, rfl⟩ := h
  rintro i (h | h)
  · exact hd.lt i h
  · exact (hh.lt (Nat.le_succ r) i h).2
theorem Rl.below (h : Rl w base d r g own fl ws Ls) (hb : Below w.heap.size w w') : Rl w' base d r g own fl ws Ls := by
  obtain ⟨o, R, c, vals, hd, hh, hoff, e⟩ := h
  exact ⟨o, R, c, vals, hd.below hb, hh.below hb, hoff, e⟩
theorem Rl.refl (h : Rl w base d r g own fl ws Ls) : RlK w own base d r g fl ws Ls w := ⟨own, h, Kept.refl _ _, fun _ _ h => h⟩
theorem RlK.step (h : RlK w own0 base d r g fl ws Ls w1) : ∃ own1, Rl w1 base d r g own1 fl ws Ls ∧ (Kept own0 w w1 ∧ ∀ i, i < w.heap.size → own1 i → own0 i) ∧ ∀ g' fl' ws' Ls' w2, RlK w1 own1 base d r g' fl' ws' Ls' w2 → RlK w own0 base d r g' fl' ws' Ls' w2 := by
  obtain ⟨own1, h1, h2, h3⟩ := h
  refine ⟨own1, h1, ⟨h2, h3⟩, fun g' fl' ws' Ls' w2 k => ?_⟩
  obtain ⟨own2, k1, k2, k3⟩ := k
  exact ⟨own2, k1, h2.trans k2 h3, fun i hi h => h3 i hi (k3 i (Nat.lt_of_lt_of_le hi h2.size) h)⟩
theorem RlK.below (h : RlK w own0 base d r g fl ws Ls w1) (hb : Below w1.heap.size w1 w2) : RlK w own0 base d r g fl ws Ls w2 := by
  obtain ⟨own1, h1, h2, h3⟩ := h
  exact ⟨own1, h1.below hb, h2.trans (Kept.of_below (own := own1) hb) h3, h3⟩
/-- What an act on its drum makes of a reel. -/
theorem Rl.drum (h : Rl w base d r g own fl ws Ls) : ∃ o, Dr w base d o fl ws (-1) ∧ (∀ i, o i → own i) ∧ ∀ fl' ws' w', DrK w o base d fl' ws' w' → RlK w own base d r g fl' ws' Ls w' := by
  obtain ⟨o, R, c, vals, hd, hh, hoff, rfl⟩ := h
  refine ⟨o, hd, fun i h => .inl h, fun fl' ws' w' k => ?_⟩
  obtain ⟨o', k1, k2, k3⟩ := k
  have hlt := hh.lt (Nat.le_succ r)
  refine ⟨Mine o' r R Ls.length c vals, ⟨o', R, c, vals, k1, hh.keepO k2 hoff, ⟨fun h => hoff.1 (k3 r (hlt r (.inl rfl)).2 h), fun q hq h => hoff.2.1 q hq (k3 q (hlt q (.inr (.inl hq))).2 h), fun v hv q hq h => hoff.2.2 v hv q hq (k3 q (hlt q (.inr (.inr ⟨v, hv, hq⟩))).2 h)⟩, rfl⟩, k2.mono fun i h => .inl h, ?_⟩
  rintro i hi (h | h)
  · exact .inl (k3 i hi h)
  · exact .inr h
/-- A reel that has just been made. -/
theorem Rl.new (hd : Dr w base d o fl ws (-1)) : Rl (w.alloc (.cells (rhead d g none 0 0 0) 62)) base d w.heap.size g (Mine o w.heap.size none 0 0 []) fl ws [] := by
  refine ⟨o, none, 0, [], hd.below ((Below.refl _ _).alloc (Nat.le_refl _) _), ⟨Blk.new w _ _, World.ownsRow_nil _ _ _ _, rfl, fun q hq => by simp [Value.ownBlock] at hq, fun i v b hv => by simp at hv⟩, ⟨fun h => by have := hd.lt _ h; omega, fun q hq => by simp [Value.ownBlock] at hq, fun v hv => by cases hv⟩, rfl⟩
theorem RlK.of_new (hd : Dr w base d o fl ws (-1)) : RlK w o base d w.heap.size g fl ws [] (w.alloc (.cells (rhead d g none 0 0 0) 62)) := by
  refine ⟨_, Rl.new hd, Kept.of_below ((Below.refl _ _).alloc (Nat.le_refl _) _), ?_⟩
  rintro i hi (h | h | h | ⟨v, h, -⟩)
  · exact h
  · omega
  · simp [Value.ownBlock] at h
  · cases h
end
def begNow (fl : List (List UInt8)) (ws : List (Nat × List UInt8)) (g : Nat) (b : List UInt8) (j : Nat) : List UInt8 :=
  if j = g % 2 then headL g else if startN fl.length g ≤ j ∧ j < startN fl.length g + halfN fl.length then (secs (seedN g 0) b).getD (j - startN fl.length g) zeros else now fl ws j
def BegPost (w : World) (o : Nat → Prop) (base d g : Nat) (fl : List (List UInt8)) (ws : List (Nat × List UInt8)) (b : List UInt8) (e : Ending) (w' : World) : Prop :=
  ∃ r fl', e = .returned (.tuple #[.pointer (some ⟨r, 0, none⟩), .nilIface]) ∧ w.heap.size ≤ r ∧ RlK w o base d r g fl' [] [b] w' ∧ fl'.length = fl.length ∧ ∀ j, j < fl.length → now fl' [] j = begNow fl ws g b j
theorem half_bounds (n g : Nat) (h : 6 ≤ n) : 2 ≤ startN n g ∧ startN n g + halfN n ≤ n ∧ 2 ≤ halfN n ∧ 2 * halfN n + 2 ≤ n := by
  unfold startN halfN
  rcases Nat.mod_two_eq_zero_or_one g with h | h <;> rw [h] <;> omega
theorem begNow_is (fl : List (List UInt8)) (ws : List (Nat × List UInt8)) (g : Nat) (b : List UInt8) (h6 : 6 ≤ fl.length) (hb : pagesN b.length ≤ halfN fl.length) (j : Nat) (_hj : j < fl.length) :
    now (app (app fl (addW fl (wipeW fl ws (startN fl.length g) (halfN fl.length)) g [] b)) [(g % 2, headL g)]) [] j = begNow fl ws g b j := by
  have hh := half_bounds fl.length g h6
  have hg2 : g % 2 < 2 := Nat.mod_lt _ (by decide)
  have e0 : now (app (app fl (addW fl (wipeW fl ws (startN fl.length g) (halfN fl.length)) g [] b)) [(g % 2, headL g)]) [] j = now (app fl (addW fl (wipeW fl ws (startN fl.length g) (halfN fl.length)) g [] b)) ([] ++ [(g % 2, headL g)]) j := rfl
  rw [e0, now_add _ _ _ _ _ (by rw [app_length]; omega)]
  unfold begNow
  by_cases h1 : g % 2 = j
  · rw [if_pos h1, if_pos h1.symm]
  · rw [if_neg h1, if_neg (fun e => h1 e.symm)]
    show now fl (addW fl (wipeW fl ws (startN fl.length g) (halfN fl.length)) g [] b) j = _
    unfold addW
    have hl := secs_len (seedN g ([] : List (List UInt8)).length) b
    rw [show usedN [] = 0 from rfl, Nat.add_zero, now_puts fl _ _ j (secs (seedN g ([] : List (List UInt8)).length) b) _ (List.reverse_reverse _).symm (by rw [hl]; omega), wipeW_now fl ws _ _ (by omega), hl]
    by_cases h2 : startN fl.length g ≤ j ∧ j < startN fl.length g + pagesN b.length
    · rw [if_pos h2, if_pos (by omega), List.getD_eq_getElem?_getD, List.getD_eq_getElem?_getD]
      show ((secs (seedN g 0) b)[j - startN fl.length g]?).getD [] = ((secs (seedN g 0) b)[j - startN fl.length g]?).getD zeros
      have hl2 : (secs (seedN g 0) b).length = pagesN b.length := secs_len _ _
      rw [List.getElem?_eq_getElem (by omega)]
      rfl
    · rw [if_neg h2]
      by_cases h3 : startN fl.length g ≤ j ∧ j < startN fl.length g + halfN fl.length
      · rw [if_pos h3, if_pos h3, List.getD_eq_getElem?_getD, List.getElem?_eq_none (by rw [secs_len]; omega)]
        rfl
      · rw [if_neg h3, if_neg h3]
section
variable {w : World} {base d g q m : Nat} {av o : Nat → Prop} {fl : List (List UInt8)} {ws : List (Nat × List UInt8)} {A : Option Addr} {b : List UInt8}
set_option maxRecDepth 20000 in
set_option maxHeartbeats 4000000 in
theorem begun_dr (hd : Dr w base d o fl ws (-1)) (hg : g < 4294967296) (h6 : 6 ≤ fl.length) (h1k : fl.length ≤ 1000) (hws : ws.length ≤ 800000) (hb : RdQ w av A b) (hav : ∀ i, av i → ¬ o i) (hm : b.length = m) (hmq : m ≤ q) (hqx : m ≤ 140737488355328)
    (hfit : fitsN m (halfN fl.length : Nat) = 0) :
    Calls Try.prog 33 #[.pointer (some ⟨d, 0, none⟩), .int .u32 (g : Int), .slice A m q] w (BegPost w o base d g fl ws b) := by
  have hfit2 : m ≤ 100000 ∧ pagesN m ≤ halfN fl.length := by
    unfold fitsN at hfit
    split at hfit
    · cases hfit
    · split at hfit
      · cases hfit
      · omega
  have hh := half_bounds fl.length g h6
  have hwl := wipeW_len fl ws (startN fl.length g) (halfN fl.length)
  have hp2 : RdQ w (fun i => av i ∧ i < w.heap.size) A b := fun h0 => by
    obtain ⟨b1, o1, e1, h1, h2, h3⟩ := hb h0
    exact ⟨b1, o1, e1, h1, ⟨h2, h1⟩, h3⟩
  have hK1 := RlK.of_new (g := g) hd
  obtain ⟨own1, hR1, -, tr1⟩ := hK1.step
  have HB := Lib.hid (And.intro hp2 (And.intro hav (And.intro hm (And.intro hmq (And.intro hqx hfit)))))
  have HH := Lib.hid (And.intro hh (And.intro hwl hfit2))
  have HT := Lib.hid (And.intro hg (And.intro h6 (And.intro h1k hws)))
  have HBE := Lib.hid (fun j hj => begNow_is fl ws g b h6 (by rw [hm]; exact hfit2.2) j hj)
  have HD := Lib.hid hd
  have HR := Lib.hid (And.intro hK1 (And.intro hR1 tr1))
  clear hd hg h6 h1k hws hb hav hm hmq hqx hfit hfit2 hh hwl hp2 hK1 hR1 tr1
  go_enter Try.func33, Try.ntmps33
  go_wp2_with fail
  obtain ⟨r, hr⟩ : ∃ r, w.heap.size = r := ⟨_, rfl⟩
  rw [hr] at HR ⊢
  have HRR := Lib.hid hr
  clear hr
  obtain ⟨W1, hW1⟩ : ∃ W, w.alloc (.cells (rhead d g none 0 0 0) 62) = W := ⟨_, rfl⟩
  rw [hW1] at HR
  have e1 : w.alloc (.cells #[.pointer (some ⟨d, 0, none⟩), .int .u32 (g : Int), .slice none 0 0, .int .i64 0] 62) = W1 := hW1
  rw [e1]
  clear hW1 e1
  obtain ⟨o1, R1, c1, vals1, hd1, hh1, hoff1, -⟩ := HR.out.2.1
  have hr1 := hh1.1
  have hrl := hr1.lt
  have cS := start_dr hr1 hd1 (by have := HT.out; omega)
  have cE := fun n => end_dr (hr1.drewN n) (hd1.below (below_drewN (Below.refl _ _) n)) (by have := HT.out; omega)
  obtain ⟨a, ha⟩ : ∃ a, startN fl.length g = a := ⟨_, rfl⟩
  obtain ⟨N, hN⟩ : ∃ N, halfN fl.length = N := ⟨_, rfl⟩
  rw [ha] at cS
  simp only [ha, hN] at cE
  have HAN := Lib.hid (And.intro ha hN)
  clear hd1 hh1 hoff1 hr1 ha hN
  refine cS.mono ?_
  rintro e w2 ⟨rfl, n2, rfl⟩
  clear cS
  go_wp2_with fail
  refine (cE n2).mono ?_
  rintro e w3 ⟨rfl, n3, rfl⟩
  have hb3 : Below W1.heap.size W1 ((W1.drewN n2).drewN n3) := below_drewN (below_drewN (Below.refl _ _) _) _
  obtain ⟨W3, hW3⟩ : ∃ W, (W1.drewN n2).drewN n3 = W := ⟨_, rfl⟩
  rw [hW3] at hb3 ⊢
  have hK3 := HR.out.1.below hb3
  clear hW3 cE hb3
  obtain ⟨own3, hR3, -, tr3⟩ := hK3.step
  obtain ⟨o3, hd3, -, act3⟩ := hR3.drum
  have cW := wipe_dr hd3 a N (by have := HH.out.1; have := HAN.out; omega) (by have := HT.out; have := HH.out.1; have := HAN.out; omega)
  have HA3 := Lib.hid (And.intro tr3 act3)
  clear hK3 hR3 tr3 hd3 act3
  go_wp2_with fail
  refine cW.mono ?_
  rintro e w4 ⟨rfl, hdk⟩
  have hK4 := HA3.out.1 _ _ _ _ _ (HA3.out.2 _ _ _ hdk)
  clear cW hdk HA3
  obtain ⟨own4, hR4, ⟨hk4, hs4⟩, tr4⟩ := hK4.step
  have hp4 := HB.out.1.kept (w' := w4) (own := o) hk4 fun i hi => HB.out.2.1 i hi.1
  have hav4 : ∀ i, (av i ∧ i < w.heap.size) → ¬ own4 i := fun i hi h => HB.out.2.1 i hi.1 (hs4 i hi.2 h)
  have cA := Append_dr hR4 HT.out.1 HT.out.2.1 HT.out.2.2.1 (by simp) (by show 0 ≤ _; omega) (by have h1 := HH.out.2.1.2; have h2 := HAN.out; have h3 := HT.out; have h4 := HH.out.1; rw [h2.1, h2.2] at h1; omega) hp4 hav4 HB.out.2.2.1 HB.out.2.2.2.1 HB.out.2.2.2.2.1
  rw [show (usedN ([] : List (List UInt8)) : Int) = 0 from rfl, Int.sub_zero, HB.out.2.2.2.2.2] at cA
  have HA4 := Lib.hid tr4
  clear hK4 hR4 tr4 hk4 hs4 hp4 hav4
  go_wp2_with fail
  refine cA.mono ?_
  rintro e w5 (⟨h, -⟩ | ⟨-, rfl, hK5⟩)
  · exact absurd rfl h
  have hK5 := HA4.out _ _ _ _ _ hK5
  clear cA HA4
  obtain ⟨own5, hR5, -, tr5⟩ := hK5.step
  obtain ⟨o5, hd5, -, act5⟩ := hR5.drum
  have cF := Flush_dr hd5 (by decide) (by decide)
  rw [show less (-1) = -1 from rfl] at cF
  have HA5 := Lib.hid (And.intro tr5 act5)
  clear hK5 hR5 tr5 hd5 act5
  go_wp2_with fail
  refine cF.mono ?_
  rintro e w6 ⟨rfl, hdk⟩
  have hK6 := HA5.out.1 _ _ _ _ _ (HA5.out.2 _ _ _ hdk)
  clear cF hdk HA5
  have HK6 := Lib.hid hK6
  clear hK6
  go_wp2_with fail
  refine (place_any g w6).mono ?_
  rintro e w7 ⟨rfl, rfl⟩
  go_wp2_with fail
  refine (headG_any g HT.out.1 _).mono ?_
  rintro e w8 ⟨qh, rfl, hqh, hkh, hb8⟩
  obtain ⟨own6, hR6, -, tr6⟩ := HK6.out.step
  have hl6 := hR6.lt
  have hR8 := hR6.below hb8
  obtain ⟨o8, hd8, hs8, act8⟩ := hR8.drum
  have hlen8 : (headL g).length = 256 := sector_len _ _
  have h9 : g % 2 < fl.length := by have := HT.out; omega
  have cH := Write_dr hd8 (by decide) (by decide) (g % 2) 256 (by rw [app_length]; exact h9) (A := some ⟨qh, 0, none⟩) (l := headL g)
    (RdK.of_new (B := qh) (blk_rd hkh) (fun b q e => by injection e with e; injection e with e; subst e; exact Nat.le_refl _) (fun i h => by have := hl6 i (hs8 i h); omega)) hlen8 (by decide) (by simp)
  rw [show less (-1) = -1 from rfl, full_id _ hlen8] at cH
  have hpl : ((g % 2 : Nat) : Int) = (g : Int) % 2 := by omega
  rw [hpl] at cH
  have HA8 := Lib.hid (And.intro tr6 act8)
  have HB8 := Lib.hid hb8
  rw [hlen8]
  clear hR6 tr6 hl6 hR8 hd8 hs8 act8 hlen8 h9 hqh hkh hb8
  go_wp2_with fail
  refine cH.mono ?_
  rintro e w9 ⟨rfl, hdk⟩
  have hK9 : RlK w o base d r g _ _ _ w9 := HA8.out.1 _ _ _ _ _ (by
    obtain ⟨own9, k1, k2, k3⟩ := HA8.out.2 _ _ _ hdk
    exact ⟨own9, k1, (Kept.of_below (own := own6) HB8.out).trans k2 (fun _ _ h => h), fun i hi h => k3 i (Nat.lt_of_lt_of_le hi HB8.out.size) h⟩)
  clear cH hdk HA8
  obtain ⟨own9, hR9, -, tr9⟩ := hK9.step
  obtain ⟨o9, hd9, -, act9⟩ := hR9.drum
  have cF := Flush_dr hd9 (by decide) (by decide)
  rw [show less (-1) = -1 from rfl] at cF
  have HA9 := Lib.hid (And.intro tr9 act9)
  clear hK9 hR9 tr9 hd9 act9
  go_wp2_with fail
  refine cF.mono ?_
  rintro e wA ⟨rfl, hdk⟩
  have hKA := HA9.out.1 _ _ _ _ _ (HA9.out.2 _ _ _ hdk)
  have HKA := Lib.hid hKA
  clear cF hdk HA9 hKA
  go_wp2_with fail
  go_ret2
  refine ⟨r, _, rfl, by rw [HRR.out]; exact Nat.le_refl _, HKA.out, ?_, fun j hj => ?_⟩
  · rw [app_length, app_length]
  · have e := HBE.out j hj
    rw [HAN.out.1, HAN.out.2] at e
    exact e
end
end Go.Proofs.Ytbaenpgjggojaaa
