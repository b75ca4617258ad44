/-
Turn. Conditions: a reel on a drum that isn't armed, of a thousand sectors at most, its generation below the last one; a record that lies off both; room for the writes.
-/
import Derived.Test.YtbaenpgjggojaaaRlXZ9
namespace Go.Proofs.Ytbaenpgjggojaaa
open Go.ChangeShapes Go.WideShapes Go.RowKit

/-- A drum in a slot, made since. -/
def drumF (fl : List (List UInt8)) : Flw := ⟨fun v w => ∃ B d o, v = .pointer (some ⟨d, 0, none⟩) ∧ Dr w B d o fl [] (-1), fun ⟨B, d, o, h1, h2⟩ hb => ⟨B, d, o, h1, h2.below hb⟩⟩
def TurnPost (w : World) (own : Nat → Prop) (base d r g : Nat) (fl : List (List UInt8)) (ws : List (Nat × List UInt8)) (b : List UInt8) (F : Nat) (e : Ending) (w' : World) : Prop :=
  (F ≠ 0 ∧ e = .returned (errV F) ∧ w' = w) ∨
  (F = 0 ∧ e = .returned .nilIface ∧ ∃ fl', RlK w own base d r (g + 1) fl' [] [b] w' ∧ fl'.length = fl.length ∧ ∀ j, j < fl.length → now fl' [] j = begNow fl ws (g + 1) b j)
section
variable {w : World} {base d g q m r : Nat} {av own : Nat → Prop} {fl : List (List UInt8)} {ws : List (Nat × List UInt8)} {A : Option Addr} {b : List UInt8} {Ls : List (List UInt8)}
/-- One reel is made another one: the records of the one, the place of the other. -/
theorem turn_end {w1 w2 : World} {o1 : Nat → Prop} {r2 g2 : Nat} {fl1 fl2 : List (List UInt8)} {ws1 : List (Nat × List UInt8)} {L2 : List (List UInt8)} (_hd : Dr w1 base d o1 fl1 ws1 (-1)) (hr : r < w1.heap.size) (hro : ¬ o1 r) (hr2 : w1.heap.size ≤ r2) (hK : RlK w1 o1 base d r2 g2 fl2 [] L2 w2) :
    ∃ R c, Blk w2 r2 62 (rhead d g2 R L2.length c (usedN L2)) ∧ ∀ w3, Kept (fun i => i = r) w2 w3 → Blk w3 r 62 (rhead d g2 R L2.length c (usedN L2)) → ∃ own, Rl w3 base d r g2 own fl2 [] L2 ∧ Kept (fun i => o1 i ∨ i = r) w1 w3 ∧ ∀ i, i < w1.heap.size → own i → o1 i ∨ i = r := by
  obtain ⟨own2, ⟨o, R, c, vals, hd2, hh, hoff, rfl⟩, hk, hs⟩ := hK
  have hlt := hh.lt (Nat.le_succ r2)
  refine ⟨R, c, hh.1, fun w3 hk3 hb3 => ?_⟩
  obtain ⟨h1, h2, h3, h4, h5⟩ := hh
  have hor : ∀ i, o i → i ≠ r := fun i hi e => hro (by rw [← e]; exact hs i (by omega) (.inl hi))
  have hne : ∀ i, (i = r2 ∨ (Value.slice R L2.length c).ownBlock = some i ∨ ∃ v, v ∈ vals ∧ v.ownBlock = some i) → i ≠ r := fun i hi e => by
    have := hlt i hi
    omega
  refine ⟨Mine o r R L2.length c vals, ⟨o, R, c, vals, hd2.keep hk3 hor, ⟨hb3, ?_, h3, fun q hq e => hne q (.inr (.inl hq)) e, fun i v b hv hl => ⟨?_, fun q hq => ⟨fun e => hne q (.inr (.inr ⟨v, List.mem_of_getElem? hv, hq⟩)) e, ((h5 i v b hv hl).2 q hq).2⟩⟩⟩, ⟨fun h => hor r h rfl, hoff.2.1, hoff.2.2⟩, rfl⟩, ?_, ?_⟩
  · have k := ownR_kept h2 hk3 fun q hq => hne q (.inr (.inl hq))
    refine ⟨k.1, ?_⟩
    rcases k.2 with k | ⟨gg, cap, cur, k1, k2, k3⟩
    · exact .inl k
    · exact .inr ⟨gg, cap, cur, k1, by omega, k3⟩
  · exact (ownB_kept (h5 i v b hv hl).1 hk3 fun q hq => hne q (.inr (.inr ⟨v, List.mem_of_getElem? hv, hq⟩))).low (by omega)
  · exact (hk.mono fun i h => Or.inl h).trans (hk3.mono fun i h => Or.inr h) fun _ _ h => h
  · rintro i hi (h | h | h | ⟨v, h, h9⟩)
    · exact .inl (hs i hi (.inl h))
    · exact .inr h
    · have := hlt i (.inr (.inl h)); omega
    · have := hlt i (.inr (.inr ⟨v, h, h9⟩)); omega
set_option maxRecDepth 20000 in
set_option maxHeartbeats 4000000 in
theorem Turn_dr (h : Rl w base d r g own fl ws Ls) (hg : g < 2147483648) (h6 : 6 ≤ fl.length) (h1k : fl.length ≤ 1000) (hws : ws.length ≤ 700000) (hb : RdQ w av A b) (hav : ∀ i, av i → ¬ own i) (hm : b.length = m) (hmq : m ≤ q) (hqx : m ≤ 140737488355328) :
    Calls Try.prog 9 #[.pointer (some ⟨r, 0, none⟩), .slice A m q] w (TurnPost w own base d r g fl ws b (fitsN m (halfN fl.length : Nat))) := by
  obtain ⟨o, R, c, vals, hd, hh, hoff, ho9⟩ := h
  have c2 := half_dr hd (by omega)
  obtain ⟨F, hF⟩ : ∃ F, fitsN m (halfN fl.length : Nat) = F := ⟨_, rfl⟩
  have c3 := fun W => fits_any A m q (by omega) (halfN fl.length : Nat) W
  rw [hF] at c3 ⊢
  obtain ⟨k0, k1, -, -⟩ := rhead_cells hh.1
  have HF := Lib.hid hF
  have HD := Lib.hid (And.intro hd (And.intro hh (And.intro hoff ho9)))
  have HB := Lib.hid (And.intro (rdq_near hb) (And.intro hav (And.intro hm (And.intro hmq hqx))))
  have HT := Lib.hid (And.intro h6 (And.intro h1k hws))
  have hgi : ¬ ((2147483648 : Int) ≤ (g : Int)) := by omega
  have hgd : decide ((2147483648 : Int) ≤ (g : Int)) = false := by simpa using hgi
  have HG := Lib.hid hg
  clear hd hh hoff ho9 hb hav hm hmq hqx hF h6 h1k hws hg
  go_enter Try.func9, Try.ntmps9
  go_wp2_with fail
  refine c2.mono ?_
  rintro e w1 ⟨rfl, hw1⟩
  subst hw1
  clear c2
  go_wp2_with fail
  refine (c3 _).mono ?_
  rintro e w1 ⟨rfl, hw1⟩
  subst hw1
  clear c3
  by_cases h0 : F = 0
  · subst h0
    rw [show errV 0 = .nilIface from rfl]
    have cFl : ∀ W, Below w1.heap.size w1 W → Calls Try.prog 35 #[.pointer (some ⟨d, 0, none⟩)] W (ToF (drumF fl) W) := fun W hb => (flushed_dr (HD.out.1.below hb)).mono fun e w' h => by
      obtain ⟨d', o', h1, h2, h3⟩ := h
      exact ⟨_, h1, ⟨_, d', o', rfl, h2⟩, h3⟩
    obtain ⟨N, hN⟩ : ∃ N, newN fl [] = N := ⟨_, rfl⟩
    have cN : ∀ W B d' o', Dr W B d' o' fl [] (-1) → Calls Try.prog 34 #[.pointer (some ⟨d', 0, none⟩)] W fun e w' => e = .returned (.int .u32 (N : Nat)) ∧ Below W.heap.size W w' := fun W B d' o' h => by
      have c := newest_dr h (by have := HT.out; omega)
      rw [hN] at c
      exact c
    obtain ⟨bb, hbb⟩ : ∃ bb, ((N : Int) != (g : Int)) = bb := ⟨_, rfl⟩
    have L0 : ∀ W, Below w1.heap.size w1 W → (Instr.loadAt 25 (.pointer (some ⟨r, 0, none⟩))).run Try.prog W = .ok (.pointer (some ⟨d, 0, none⟩)) W := fun W hb => by
      have c1 := (rhead_cells (HD.out.2.1.1.below hb HD.out.2.1.1.lt)).1
      go_simp
    have L1 : ∀ W, Below w1.heap.size w1 W → (Instr.loadAt 33 (.pointer (some ⟨r, 1, none⟩))).run Try.prog W = .ok (.int .u32 (g : Int)) W := fun W hb => by
      have c1 := (rhead_cells (HD.out.2.1.1.below hb HD.out.2.1.1.lt)).2.1
      go_simp
    go_wp2_with fail
    refine wp_region_flow [some 28, some 29, some 30, some 31, some 32, some 33, some 34, some 35, some 36, some 37, some 38] (fun i => ([.is (.pointer (some ⟨r, 0, none⟩)), .is (.pointer (some ⟨r, 0, none⟩)), .is (.pointer (some ⟨r, 0, none⟩)), .is (.pointer (some ⟨d, 0, none⟩)), drumF fl, .is (.int .u32 (N : Nat)), .is (.pointer (some ⟨r, 0, none⟩)), .is (.pointer (some ⟨r, 0, none⟩)), .is (.pointer (some ⟨r, 1, none⟩)), .is (.int .u32 (g : Int)), .is (.bool bb)] : List Flw).getD i .any) (by kernel_rfl) (by kernel_rfl) rfl ?_ ?_
    · skip
      refine ⟨step_free rfl (fun aF wF hs hb => ?_), ?_⟩
      · obtain ⟨x0, -⟩ := hs
        have e0 : aF.eval (.tmp 0) = .pointer (some ⟨r, 0, none⟩) := x0
        exact opC_move e0 ⟨rfl, below_same wF⟩
      refine ⟨step_free rfl (fun aF wF hs hb => ?_), ?_⟩
      · obtain ⟨x0, -⟩ := hs
        have e0 : aF.eval (.tmp 28) = .pointer (some ⟨r, 0, none⟩) := x0
        refine opC_value (v := .pointer (some ⟨r, 0, none⟩)) ?_ ⟨rfl, below_same wF⟩
        have t0 := ev_of e0
        simp [execOp, go_sem, t0]
      refine ⟨step_free rfl (fun aF wF hs hb => ?_), ?_⟩
      · obtain ⟨x0, -⟩ := hs
        have e0 : aF.eval (.tmp 29) = .pointer (some ⟨r, 0, none⟩) := x0
        refine opC_value (v := .pointer (some ⟨r, 0, none⟩)) ?_ ⟨rfl, below_same wF⟩
        have t0 := ev_of e0
        simp [execOp, go_sem, t0]
      refine ⟨step_free rfl (fun aF wF hs hb => ?_), ?_⟩
      · obtain ⟨x0, -⟩ := hs
        have e0 : aF.eval (.tmp 30) = .pointer (some ⟨r, 0, none⟩) := x0
        exact opC_load e0 (L0 wF hb) ⟨rfl, below_same wF⟩
      refine ⟨step_free rfl (fun aF wF hs hb => ?_), ?_⟩
      · obtain ⟨x0, -⟩ := hs
        have e0 : aF.eval (.tmp 31) = .pointer (some ⟨d, 0, none⟩) := x0
        exact opC_callF (args := #[.pointer (some ⟨d, 0, none⟩)]) (enters_of Try.func35 (by kernel_rfl) rfl) (by simp [e0]) (cFl wF hb) (fun _ _ h1 h2 => ⟨h1, h2⟩)
      refine ⟨step_free rfl (fun aF wF hs hb => ?_), ?_⟩
      · obtain ⟨x0, -⟩ := hs
        have y0 : (drumF fl).p (aF.eval (.tmp 32)) wF := x0
        obtain ⟨B9, d9, o9, e9, hd9⟩ := y0
        exact opC_call (args := #[.pointer (some ⟨d9, 0, none⟩)]) (enters_of Try.func34 (by kernel_rfl) rfl) (by simp [e9]) (cN wF B9 d9 o9 hd9) (fun _ h => ⟨rfl, h⟩)
      refine ⟨step_free rfl (fun aF wF hs hb => ?_), ?_⟩
      · obtain ⟨x0, -⟩ := hs
        have e0 : aF.eval (.tmp 0) = .pointer (some ⟨r, 0, none⟩) := x0
        exact opC_move e0 ⟨rfl, below_same wF⟩
      refine ⟨step_free rfl (fun aF wF hs hb => ?_), ?_⟩
      · obtain ⟨x0, -⟩ := hs
        have e0 : aF.eval (.tmp 34) = .pointer (some ⟨r, 0, none⟩) := x0
        refine opC_value (v := .pointer (some ⟨r, 0, none⟩)) ?_ ⟨rfl, below_same wF⟩
        have t0 := ev_of e0
        simp [execOp, go_sem, t0]
      refine ⟨step_free rfl (fun aF wF hs hb => ?_), ?_⟩
      · obtain ⟨x0, -⟩ := hs
        have e0 : aF.eval (.tmp 35) = .pointer (some ⟨r, 0, none⟩) := x0
        refine opC_value (v := .pointer (some ⟨r, 1, none⟩)) ?_ ⟨rfl, below_same wF⟩
        have t0 := ev_of e0
        simp [execOp, go_sem, t0]
      refine ⟨step_free rfl (fun aF wF hs hb => ?_), ?_⟩
      · obtain ⟨x0, -⟩ := hs
        have e0 : aF.eval (.tmp 36) = .pointer (some ⟨r, 1, none⟩) := x0
        exact opC_load e0 (L1 wF hb) ⟨rfl, below_same wF⟩
      refine ⟨step_free rfl (fun aF wF hs hb => ?_), ?_⟩
      · obtain ⟨x0, x1, -⟩ := hs
        have e0 : aF.eval (.tmp 33) = .int .u32 (N : Nat) := x0
        have e1 : aF.eval (.tmp 37) = .int .u32 (g : Int) := x1
        refine opC_value (v := .bool bb) ?_ ⟨rfl, below_same wF⟩
        have t0 := ev_of e0
        have t1 := ev_of e1
        simp [execOp, go_sem, t0, t1, hbb]
      exact trivial
    · intro fv W9 hf hb9
      have e38 : fv 10 = .bool bb := hf 10 38 rfl
      simp only [putF, Act.put, List.setIfInBounds_toArray, List.set_cons_zero, List.set_cons_succ]
      rw [e38]
      have hd9 := HD.out.1.below hb9
      have hr9 := HD.out.2.1.1.below hb9 HD.out.2.1.1.lt
      obtain ⟨j0, j1, -, -⟩ := rhead_cells hr9
      have hk9 : Kept o w1 W9 := Kept.of_below hb9
      cases bb with
      | true =>
        have cF := Flush_dr hd9 (by decide) (by decide)
        rw [show less (-1) = -1 from rfl] at cF
        have HK9 := Lib.hid hk9
        clear hf hb9 e38 hd9 hr9 hk9 cFl L0 L1 cN hbb hN k0 k1
        go_wp2_with fail
        refine cF.mono ?_
        rintro e W1 ⟨rfl, o1, hd1, hk1, ho1⟩
        obtain ⟨fl1, hfl1⟩ : ∃ f, app fl ws = f := ⟨_, rfl⟩
        obtain ⟨ws1, hws1⟩ : ∃ f : List (Nat × List UInt8), [] = f := ⟨_, rfl⟩
        have HX : Hid (Dr W1 base d o1 fl1 ws1 (-1) ∧ (∀ i, i < w1.heap.size → o1 i → o i) ∧ Kept o w1 W1 ∧ fl1.length = fl.length ∧ ws1.length ≤ 700000 ∧ ∀ j, now fl1 ws1 j = now fl ws j) := Lib.hid ⟨by rw [← hfl1, ← hws1]; exact hd1, fun i hi h => ho1 i (Nat.lt_of_lt_of_le hi HK9.out.size) h, HK9.out.trans hk1 (fun _ _ h => h), by rw [← hfl1]; exact app_length _ _, by rw [← hws1]; simp, fun j => by rw [← hfl1, ← hws1]; rfl⟩
        clear cF hd1 hk1 ho1 hfl1 hws1 HK9 j0 j1
        obtain ⟨hd1, ho1, hk1, hl1, hw1, hn1⟩ := HX.out
        have hr1 : Blk W1 r 62 (rhead d g R Ls.length c (usedN Ls)) := (hk1.block r HD.out.2.1.1.lt HD.out.2.2.1.1).trans HD.out.2.1.1
        obtain ⟨j0, j1, -, -⟩ := rhead_cells hr1
        have hg1 : IntKind.u32.wrap ((g : Int) + 1) = ((g + 1 : Nat) : Int) := by rw [IntKind.wrap_u32]; have := HG.out; omega
        have hbd : Below W1.heap.size W1 W1.drew := (Below.refl _ _).drew
        have hkd : Kept o w1 W1.drew := hk1.trans (Kept.of_below (own := o) hbd) (fun _ _ h => h)
        have cB := begun_dr (w := W1.drew) (o := o1) (g := g + 1) (hd1.below hbd) (by have := HG.out; omega) (by have := HT.out; omega) (by have := HT.out; omega) (by have := HT.out; omega) (HB.out.1.kept hkd fun i hi h => HB.out.2.1 i hi.1 (by rw [HD.out.2.2.2]; exact .inl h)) (fun i hi h => HB.out.2.1 i hi.1 (by rw [HD.out.2.2.2]; exact .inl (ho1 i hi.2 h))) HB.out.2.2.1 HB.out.2.2.2.1 HB.out.2.2.2.2 (by rw [hl1]; exact HF.out)
        have HR1 := Lib.hid hr1
        have hrl1 : r < W1.heap.size := hr1.lt
        have hro1 : ¬ o1 r := fun e => HD.out.2.2.1.1 (ho1 r HD.out.2.1.1.lt e)
        have HR1 := Lib.hid (And.intro hr1 (And.intro (hd1.below hbd) (And.intro hkd (And.intro hrl1 (And.intro hro1 (And.intro ho1 (And.intro hl1 hn1)))))))
        clear hd1 ho1 hk1 hl1 hw1 hn1 hr1 hbd hkd hrl1 hro1 HX
        go_wp2_with fail
        go_region_with (go_at_call 33; refine cB.mono ?_; rintro e W4 ⟨r2, fl2, rfl, hr2, hK2, hl2, hn2⟩)
        all_goals
          clear cB j0 j1
          obtain ⟨R2, c2, hb2, hend⟩ := turn_end HR1.out.2.1 HR1.out.2.2.2.1 HR1.out.2.2.2.2.1 hr2 hK2
          have hr4 : Blk W4 r 62 (rhead d g R Ls.length c (usedN Ls)) := by
            obtain ⟨own9, -, k2, -⟩ := hK2
            exact (k2.block r HR1.out.2.2.2.1 HR1.out.2.2.2.2.1).trans HR1.out.1
          obtain ⟨i0, i1, i2, i3⟩ := rhead_cells hb2
          obtain ⟨j0, j1, j2, j3⟩ := rhead_cells hr4
          have z0 := hr4.frozen 0
          have z1 := hr4.frozen 1
          have z2 := hr4.frozen 2
          have z3 := hr4.frozen 3
          have HE := Lib.hid (And.intro hend (And.intro hr4 (And.intro hl2 hn2)))
          clear hend hr4 hl2 hn2 hK2 hr2 hb2
          go_wp2_with fail
          have hg2 : (g : Int) + 1 = ((g + 1 : Nat) : Int) := by omega
          rw [hg2]
          have hb5 := (((HE.out.2.1.set_ 0 (.pointer (some ⟨d, 0, none⟩))).set_ 1 (.int .u32 ((g + 1 : Nat) : Int))).set_ 2 (.slice R2 1 c2)).set_ 3 (.int .i64 (usedN [b] : Nat))
          have hk5 : Kept (fun i => i = r) W4 ((((W4.setCell ⟨r, 0, none⟩ (.pointer (some ⟨d, 0, none⟩))).setCell ⟨r, 1, none⟩ (.int .u32 ((g + 1 : Nat) : Int))).setCell ⟨r, 2, none⟩ (.slice R2 1 c2)).setCell ⟨r, 3, none⟩ (.int .i64 (usedN [b] : Nat))) :=
            (((kept_set W4 r 0 none _).trans (kept_set _ r 1 none _) (fun _ _ h => h)).trans (kept_set _ r 2 none _) (fun _ _ h => h)).trans (kept_set _ r 3 none _) (fun _ _ h => h)
          obtain ⟨own9, q1, q2, q3⟩ := HE.out.1 _ hk5 hb5
          have HQ := Lib.hid (And.intro q1 (And.intro q2 q3))
          clear hb5 hk5 q1 q2 q3 hg2
          go_ret
          obtain ⟨q1, q2, q3⟩ := HQ.out
          obtain ⟨-, hd1, hkd, hrl1, hro1, ho1, hl1, hn1⟩ := HR1.out
          obtain ⟨-, -, hl2, hn2⟩ := HE.out
          have e9 := HD.out.2.2.2
          refine .inr ⟨rfl, rfl, fl2, ⟨own9, q1, ?_, ?_⟩, hl2.trans hl1, fun j hj => ?_⟩
          · refine (hkd.mono (own' := own) fun i h => by rw [e9]; exact .inl h).trans q2 fun i hi h => ?_
            rw [e9]
            rcases h with h | h
            · exact .inl (ho1 i hi h)
            · exact .inr (.inl h)
          · intro i hi h
            rw [e9]
            rcases q3 i (Nat.lt_of_lt_of_le hi hkd.size) h with h | h
            · exact .inl (ho1 i hi h)
            · exact .inr (.inl h)
          · rw [hn2 j (by omega)]
            unfold begNow
            rw [hl1, hn1 j]
      | false =>
        obtain ⟨W1, hW1⟩ : ∃ W, W9 = W := ⟨_, rfl⟩
        rw [hW1] at hd9 hk9 ⊢
        obtain ⟨fl1, hfl1⟩ : ∃ f, fl = f := ⟨_, rfl⟩
        obtain ⟨ws1, hws1⟩ : ∃ f, ws = f := ⟨_, rfl⟩
        obtain ⟨o1, ho1⟩ : ∃ f, o = f := ⟨_, rfl⟩
        have HX : Hid (Dr W1 base d o1 fl1 ws1 (-1) ∧ (∀ i, i < w1.heap.size → o1 i → o i) ∧ Kept o w1 W1 ∧ fl1.length = fl.length ∧ ws1.length ≤ 700000 ∧ ∀ j, now fl1 ws1 j = now fl ws j) := Lib.hid ⟨by rw [← hfl1, ← hws1, ← ho1]; exact hd9, fun i hi h => by rw [ho1]; exact h, hk9, by rw [← hfl1], by rw [← hws1]; have := HT.out; omega, fun j => by rw [← hfl1, ← hws1]⟩
        clear hf hb9 e38 hd9 hr9 hk9 cFl L0 L1 cN hbb hN k0 k1 hW1 hfl1 hws1 ho1 j0 j1
        obtain ⟨hd1, ho1, hk1, hl1, hw1, hn1⟩ := HX.out
        have hr1 : Blk W1 r 62 (rhead d g R Ls.length c (usedN Ls)) := (hk1.block r HD.out.2.1.1.lt HD.out.2.2.1.1).trans HD.out.2.1.1
        obtain ⟨j0, j1, -, -⟩ := rhead_cells hr1
        have hg1 : IntKind.u32.wrap ((g : Int) + 1) = ((g + 1 : Nat) : Int) := by rw [IntKind.wrap_u32]; have := HG.out; omega
        have hbd : Below W1.heap.size W1 W1.drew := (Below.refl _ _).drew
        have hkd : Kept o w1 W1.drew := hk1.trans (Kept.of_below (own := o) hbd) (fun _ _ h => h)
        have cB := begun_dr (w := W1.drew) (o := o1) (g := g + 1) (hd1.below hbd) (by have := HG.out; omega) (by have := HT.out; omega) (by have := HT.out; omega) (by have := HT.out; omega) (HB.out.1.kept hkd fun i hi h => HB.out.2.1 i hi.1 (by rw [HD.out.2.2.2]; exact .inl h)) (fun i hi h => HB.out.2.1 i hi.1 (by rw [HD.out.2.2.2]; exact .inl (ho1 i hi.2 h))) HB.out.2.2.1 HB.out.2.2.2.1 HB.out.2.2.2.2 (by rw [hl1]; exact HF.out)
        have HR1 := Lib.hid hr1
        have hrl1 : r < W1.heap.size := hr1.lt
        have hro1 : ¬ o1 r := fun e => HD.out.2.2.1.1 (ho1 r HD.out.2.1.1.lt e)
        have HR1 := Lib.hid (And.intro hr1 (And.intro (hd1.below hbd) (And.intro hkd (And.intro hrl1 (And.intro hro1 (And.intro ho1 (And.intro hl1 hn1)))))))
        clear hd1 ho1 hk1 hl1 hw1 hn1 hr1 hbd hkd hrl1 hro1 HX
        go_wp2_with fail
        go_region_with (go_at_call 33; refine cB.mono ?_; rintro e W4 ⟨r2, fl2, rfl, hr2, hK2, hl2, hn2⟩)
        all_goals
          clear cB j0 j1
          obtain ⟨R2, c2, hb2, hend⟩ := turn_end HR1.out.2.1 HR1.out.2.2.2.1 HR1.out.2.2.2.2.1 hr2 hK2
          have hr4 : Blk W4 r 62 (rhead d g R Ls.length c (usedN Ls)) := by
            obtain ⟨own9, -, k2, -⟩ := hK2
            exact (k2.block r HR1.out.2.2.2.1 HR1.out.2.2.2.2.1).trans HR1.out.1
          obtain ⟨i0, i1, i2, i3⟩ := rhead_cells hb2
          obtain ⟨j0, j1, j2, j3⟩ := rhead_cells hr4
          have z0 := hr4.frozen 0
          have z1 := hr4.frozen 1
          have z2 := hr4.frozen 2
          have z3 := hr4.frozen 3
          have HE := Lib.hid (And.intro hend (And.intro hr4 (And.intro hl2 hn2)))
          clear hend hr4 hl2 hn2 hK2 hr2 hb2
          go_wp2_with fail
          have hg2 : (g : Int) + 1 = ((g + 1 : Nat) : Int) := by omega
          rw [hg2]
          have hb5 := (((HE.out.2.1.set_ 0 (.pointer (some ⟨d, 0, none⟩))).set_ 1 (.int .u32 ((g + 1 : Nat) : Int))).set_ 2 (.slice R2 1 c2)).set_ 3 (.int .i64 (usedN [b] : Nat))
          have hk5 : Kept (fun i => i = r) W4 ((((W4.setCell ⟨r, 0, none⟩ (.pointer (some ⟨d, 0, none⟩))).setCell ⟨r, 1, none⟩ (.int .u32 ((g + 1 : Nat) : Int))).setCell ⟨r, 2, none⟩ (.slice R2 1 c2)).setCell ⟨r, 3, none⟩ (.int .i64 (usedN [b] : Nat))) :=
            (((kept_set W4 r 0 none _).trans (kept_set _ r 1 none _) (fun _ _ h => h)).trans (kept_set _ r 2 none _) (fun _ _ h => h)).trans (kept_set _ r 3 none _) (fun _ _ h => h)
          obtain ⟨own9, q1, q2, q3⟩ := HE.out.1 _ hk5 hb5
          have HQ := Lib.hid (And.intro q1 (And.intro q2 q3))
          clear hb5 hk5 q1 q2 q3 hg2
          go_ret
          obtain ⟨q1, q2, q3⟩ := HQ.out
          obtain ⟨-, hd1, hkd, hrl1, hro1, ho1, hl1, hn1⟩ := HR1.out
          obtain ⟨-, -, hl2, hn2⟩ := HE.out
          have e9 := HD.out.2.2.2
          refine .inr ⟨rfl, rfl, fl2, ⟨own9, q1, ?_, ?_⟩, hl2.trans hl1, fun j hj => ?_⟩
          · refine (hkd.mono (own' := own) fun i h => by rw [e9]; exact .inl h).trans q2 fun i hi h => ?_
            rw [e9]
            rcases h with h | h
            · exact .inl (ho1 i hi h)
            · exact .inr (.inl h)
          · intro i hi h
            rw [e9]
            rcases q3 i (Nat.lt_of_lt_of_le hi hkd.size) h with h | h
            · exact .inl (ho1 i hi h)
            · exact .inr (.inl h)
          · rw [hn2 j (by omega)]
            unfold begNow
            rw [hl1, hn1 j]
  · rw [errV_pos h0]
    have H0 := Lib.hid h0
    have hF0 : ¬ ((F : Int) = 0) := by omega
    clear h0
    go_wp2_with fail
    go_ret
    exact .inl ⟨H0.out, by rw [errV_pos H0.out]; rfl, rfl⟩
end
end Go.Proofs.Ytbaenpgjggojaaa
