/-
A reel's acts where its drum holds it: as the laws want them. Conditions: as each act's.
The document's example of a reel. No condition.
The reference's Pages. Condition: a number of bytes that isn't too great.
-/
import Derived.Test.YtbaenpgjggojaaaDoorRlGdM
import Derived.Laws.BytesArg
import Derived.Lib.SlBytesConst
namespace Go.Proofs.YtbaenpgjggojaaaDoor
open Go.ChangeShapes Go.WideShapes Go.RowKit

theorem rdq_blk {w : World} {q : Nat} {l : List UInt8} (h : Blk w q 5 (l.map enc8).toArray) : RdQ w (fun i => i = q) (some ⟨q, 0, none⟩) l := fun _ =>
  ⟨q, 0, rfl, h.lt, rfl, fun j u hu => by rw [h.cell, Nat.zero_add, List.getElem?_toArray, List.getElem?_map, hu]; rfl⟩
theorem rdq_nil (w : World) (av : Nat → Prop) (A : Option Addr) : RdQ w av A [] := fun h => absurd h (by simp)
theorem rdq_rd {w : World} {B : Nat} {A : Option Addr} {l : List UInt8} (h : Rd w B A l) (hB : B ≤ w.heap.size) : RdQ w (fun i => i < B) A l := fun h0 => by
  obtain ⟨b, o, e, h1, h2⟩ := h h0
  exact ⟨b, o, e, by omega, h1, h2⟩
section
variable {w w1 w2 : World} {base d r g : Nat} {own own0 o : Nat → Prop} {fl : List (List UInt8)} {ws : List (Nat × List UInt8)} {Ls : List (List UInt8)}
theorem Rl.ge (h : Rl w base d r g own fl ws Ls) (hr : base ≤ r) : ∀ i, own i → base ≤ i := by
  obtain ⟨o, R, c, vals, hd, hh, hoff, rfl⟩ := h
  rintro i (h | h)
  · exact hd.ge i h
  · have := (hh.lt (Nat.le_succ r) i h).1
    omega
theorem kept_below {B : Nat} (h : Kept own w1 w2) (hb : Below B w w1) (hB : B ≤ w1.heap.size) (ho : ∀ i, own i → B ≤ i) : Below B w w2 :=
  ⟨h.os.trans hb.os, h.tape.trans hb.tape, h.output.trans hb.output, Nat.le_trans hb.size h.size, fun i hi => (h.block i (by omega) fun e => by have := ho i e; omega).trans (hb.block i hi)⟩
end
/-- A reel on a drum that holds it. -/
structure Sg (W : World) (base d r g : Nat) (own : Nat → Prop) (fl : List (List UInt8)) (ws : List (Nat × List UInt8)) (Ls : List (List UInt8)) : Prop where
  rl : Rl W base d r g own fl ws Ls
  good : Good fl ws g Ls
  far : base ≤ r
  few : fl.length ≤ 1000
  cnt : Ls.length ≤ 1000
/-- What an act keeps. -/
def Ks (W : World) (own : Nat → Prop) (W' : World) (own' : Nat → Prop) : Prop := Kept own W W' ∧ ∀ i, i < W.heap.size → own' i → own i
section
variable {W W' W2 w0 : World} {base d r g m q : Nat} {own own' own2 av o : Nat → Prop} {fl : List (List UInt8)} {ws : List (Nat × List UInt8)} {Ls : List (List UInt8)} {A : Option Addr} {b : List UInt8}
theorem Sg.below (h : Sg W base d r g own fl ws Ls) (hb : Below W.heap.size W W') : Sg W' base d r g own fl ws Ls := ⟨h.rl.below hb, h.good, h.far, h.few, h.cnt⟩
theorem Ks.below (hb : Below W.heap.size W W') : Ks W own W' own := ⟨Kept.of_below hb, fun _ _ h => h⟩
theorem Ks.trans (h : Ks W own W' own') (k : Ks W' own' W2 own2) : Ks W own W2 own2 := ⟨h.1.trans k.1 h.2, fun i hi e => h.2 i hi (k.2 i (Nat.lt_of_lt_of_le hi h.1.size) e)⟩
theorem Sg.used (h : Sg W base d r g own fl ws Ls) : usedN Ls ≤ halfN fl.length := h.good.2.2.2.2.2.2.1
theorem Sg.append (h : Sg W base d r g own fl ws Ls) (hL : Ls.length < 1000) (hws : ws.length ≤ 700000) (hb : RdQ W av A b) (hav : ∀ i, av i → ¬ own i) (hm : b.length = m) (hmq : m ≤ q) (hqx : m ≤ 140737488355328) (hF : fitsN m ((halfN fl.length : Nat) - (usedN Ls : Int)) = 0) :
    Calls Tryd.prog 23 #[.pointer (some ⟨r, 0, none⟩), .slice A m q] W fun e W' => e = .returned .nilIface ∧ ∃ own', Sg W' base d r g own' fl (addW fl ws g Ls b) (Ls ++ [b]) ∧ Ks W own W' own' := by
  have hg := h.good.2.1
  have hx : m ≤ 100000 ∧ usedN Ls + pagesN m ≤ halfN fl.length := by
    unfold fitsN at hF
    split at hF
    · cases hF
    · split at hF
      · cases hF
      · omega
  refine (Append_dr h.rl (by omega) h.good.2.2.1 h.few h.cnt h.used (by omega) hb hav hm hmq hqx).mono ?_
  rintro e W' (⟨h1, -⟩ | ⟨-, rfl, own', k1, k2, k3⟩)
  · exact absurd hF h1
  · exact ⟨rfl, own', ⟨k1, h.good.append (by omega) (by rw [hm]; exact hx.2), h.far, h.few, by simp; omega⟩, k2, k3⟩
theorem Sg.full (h : Sg W base d r g own fl ws Ls) (hws : ws.length ≤ 700000) (hb : RdQ W av A b) (hav : ∀ i, av i → ¬ own i) (hm : b.length = m) (hmq : m ≤ q) (hqx : m ≤ 140737488355328) {F : Nat} (hF : fitsN m ((halfN fl.length : Nat) - (usedN Ls : Int)) = F) (hF0 : F ≠ 0) :
    Calls Tryd.prog 23 #[.pointer (some ⟨r, 0, none⟩), .slice A m q] W fun e W' => e = .returned (errV F) ∧ Below W.heap.size W W' := by
  have hg := h.good.2.1
  refine (Append_dr h.rl (by omega) h.good.2.2.1 h.few h.cnt h.used (by omega) hb hav hm hmq hqx).mono ?_
  rintro e W' (⟨h1, h2, h3⟩ | ⟨h1, -⟩)
  · rw [hF] at h2; exact ⟨h2, h3⟩
  · exact absurd (hF.symm.trans h1) hF0
theorem Sg.flush (h : Sg W base d r g own fl ws Ls) :
    Calls Tryd.prog 26 #[.pointer (some ⟨r, 0, none⟩)] W fun e W' => e = .returned .nilIface ∧ ∃ own', Sg W' base d r g own' (app fl ws) [] Ls ∧ Ks W own W' own' := by
  obtain ⟨o, R, c, vals, hd, hh, hoff, ho⟩ := h.rl
  obtain ⟨o9, hd9, -, act⟩ := h.rl.drum
  refine (RFlush_dr hh.1 hd9).mono ?_
  rintro e W' ⟨rfl, hk⟩
  obtain ⟨own', k1, k2, k3⟩ := act _ _ _ hk
  exact ⟨rfl, own', ⟨k1, h.good.same (app_length _ _) fun j _ => rfl, h.far, by rw [app_length]; exact h.few, h.cnt⟩, k2, k3⟩
theorem Sg.turn (h : Sg W base d r g own fl ws Ls) (hg : g + 1 < 2147483648) (hws : ws.length ≤ 700000) (hb : RdQ W av A b) (hav : ∀ i, av i → ¬ own i) (hm : b.length = m) (hmq : m ≤ q) (hqx : m ≤ 140737488355328) (hF : fitsN m (halfN fl.length : Nat) = 0) :
    Calls Tryd.prog 25 #[.pointer (some ⟨r, 0, none⟩), .slice A m q] W fun e W' => e = .returned .nilIface ∧ ∃ own' fl', fl'.length = fl.length ∧ Sg W' base d r (g + 1) own' fl' [] [b] ∧ Ks W own W' own' := by
  have hx : m ≤ 100000 ∧ pagesN m ≤ halfN fl.length := by
    unfold fitsN at hF
    split at hF
    · cases hF
    · split at hF
      · cases hF
      · omega
  refine (Turn_dr h.rl (by omega) h.good.2.2.1 h.few hws hb hav hm hmq hqx).mono ?_
  rintro e W' (⟨h1, -⟩ | ⟨-, rfl, fl', ⟨own', k1, k2, k3⟩, hl, hn⟩)
  · exact absurd hF h1
  · exact ⟨rfl, own', fl', hl, ⟨k1, h.good.turn hg hl (by omega) (by rw [hm]; exact hx.2) hn, h.far, by rw [hl]; exact h.few, by simp⟩, k2, k3⟩
theorem make_sg (hd : Dr W base d o fl ws (-1)) (hbw : base ≤ W.heap.size) (h6 : 6 ≤ fl.length) (h1k : fl.length ≤ 1000) (hws : ws.length ≤ 700000) (hb : RdQ W av A b) (hav : ∀ i, av i → ¬ o i) (hm : b.length = m) (hmq : m ≤ q) (hqx : m ≤ 140737488355328) (hF : fitsN m (halfN fl.length : Nat) = 0) :
    Calls Tryd.prog 21 #[.pointer (some ⟨d, 0, none⟩), .slice A m q] W fun e W' => ∃ r own' fl', e = .returned (.tuple #[.pointer (some ⟨r, 0, none⟩), .nilIface]) ∧ W.heap.size ≤ r ∧ fl'.length = fl.length ∧ Sg W' base d r 1 own' fl' [] [b] ∧ Ks W o W' own' := by
  have hx : m ≤ 100000 ∧ pagesN m ≤ halfN fl.length := by
    unfold fitsN at hF
    split at hF
    · cases hF
    · split at hF
      · cases hF
      · omega
  refine (Make_dr hd h1k hws hb hav hm hmq hqx).mono ?_
  rintro e W' (⟨h1, -⟩ | ⟨-, h1, -⟩ | ⟨-, -, r, rfl, fl', hr, ⟨own', k1, k2, k3⟩, hl, hn⟩)
  · omega
  · exact absurd hF h1
  · exact ⟨r, own', fl', rfl, hr, hl, ⟨k1, good_make hl h6 (by omega) (by rw [hm]; exact hx.2) hn, by omega, by rw [hl]; exact h1k, by simp⟩, k2, k3⟩
theorem open_sg (hd : Dr W base d o fl ws (-1)) (hbw : base ≤ W.heap.size) (hG : Good fl ws g Ls) (h1k : fl.length ≤ 1000) (hL : Ls.length ≤ 1000) (hws : ws.length ≤ 700000) :
    Calls Tryd.prog 12 #[.pointer (some ⟨d, 0, none⟩)] W fun e W' => ∃ r own' fl' ws', e = .returned (.tuple #[.pointer (some ⟨r, 0, none⟩), .nilIface]) ∧ W.heap.size ≤ r ∧ fl'.length = fl.length ∧ ws'.length ≤ ws.length + fl.length ∧ Sg W' base d r g own' fl' ws' Ls ∧ Ks W o W' own' := by
  refine (Open_dr hd h1k (by omega)).mono ?_
  rintro e W' (⟨k, h1, -⟩ | ⟨r, rfl, j, L, own', fl', ws', h6, hr, hn0, hLn, hj, hm, he, hF, hu, hRl, hk, hs, hl, hwl, hnow⟩)
  · exact absurd h1 (hG.noErr k)
  · obtain ⟨rfl, rfl⟩ := hG.found hj hm he hF
    rw [hG.new] at hRl
    exact ⟨r, own', fl', ws', rfl, hr, hl, hwl, ⟨hRl, hG.opened hl hnow, by omega, by rw [hl]; exact h1k, hL⟩, hk, hs⟩
theorem Sg.records (h : Sg W base d r g own fl ws Ls) : Calls Tryd.prog 18 #[.pointer (some ⟨r, 0, none⟩)] W (RecsPost W Ls) := by
  obtain ⟨o, R, c, vals, hd, hh, hoff, ho⟩ := h.rl
  exact Records_any hh hh.1.lt h.cnt fun b hb => by have := h.good.2.2.2.2.2.2.2.1 b hb; omega
theorem Sg.count (h : Sg W base d r g own fl ws Ls) : Calls Tryd.prog 19 #[.pointer (some ⟨r, 0, none⟩)] W fun e W' => e = .returned (.int .i64 (Ls.length : Int)) ∧ W' = W := by
  obtain ⟨o, R, c, vals, hd, hh, hoff, ho⟩ := h.rl
  exact Count_any hh.1
theorem Sg.gen (h : Sg W base d r g own fl ws Ls) : Calls Tryd.prog 16 #[.pointer (some ⟨r, 0, none⟩)] W fun e W' => e = .returned (.int .u32 (g : Int)) ∧ W' = W := by
  obtain ⟨o, R, c, vals, hd, hh, hoff, ho⟩ := h.rl
  exact Gen_any hh.1
theorem Sg.room (h : Sg W base d r g own fl ws Ls) : Calls Tryd.prog 14 #[.pointer (some ⟨r, 0, none⟩)] W fun e W' => e = .returned (.int .i64 ((halfN fl.length : Nat) - (usedN Ls : Int))) ∧ ∃ m, W' = W.drewN m := by
  obtain ⟨o, R, c, vals, hd, hh, hoff, ho⟩ := h.rl
  have := h.good.2.2.1
  have := h.used
  have := h.few
  exact Room_dr hh.1 hd (by omega) (by unfold halfN at *; omega)
theorem Sg.dr (h : Sg W base d r g own fl ws Ls) : ∃ o, Dr W base d o fl ws (-1) ∧ ∀ i, o i → own i := by
  obtain ⟨o, R, c, vals, hd, hh, hoff, rfl⟩ := h.rl
  exact ⟨o, hd, fun i h => .inl h⟩
theorem addW_len (fl : List (List UInt8)) (ws : List (Nat × List UInt8)) (g : Nat) (Ls : List (List UInt8)) (b : List UInt8) : (addW fl ws g Ls b).length = ws.length + pagesN b.length := by
  unfold addW
  rw [List.length_append, putsW_len, secs_len]
end
end Go.Proofs.YtbaenpgjggojaaaDoor
namespace Go.Proofs.YtbaenpgjggojaaaDoor
open Go.ChangeShapes Go.WideShapes Go.RowKit

theorem strOf_bytes (l : List UInt8) : strOfNums (l.map fun x => (x.toNat : Int)) = ⟨l.toArray⟩ := by
  unfold strOfNums
  rw [List.map_map]
  congr 2
  conv => rhs; rw [← List.map_id l]
  apply List.map_congr_left
  intro x _
  simp
theorem conv_rd {w : World} {B : Nat} {A : Option Addr} {l : List UInt8} {n c : Nat} (h : Rd w B A l) (hn : l.length = n) (h0 : 0 < n) : (convert 23 9 (.slice A n c)).run Tryd.prog w = .ok (.string ⟨l.toArray⟩) w := by
  obtain ⟨g, o, rfl, _, hc⟩ := h (by omega)
  have := run_convert_bytes_arg (P := Tryd.prog) w 23 5 Tryd.underlying23 Tryd.underlying5 g o n c (l.map fun x => (x.toNat : Int)) (by rw [List.length_map]; exact hn)
    (fun i hi => by
      have hil : i < l.length := by omega
      rw [hc i _ (List.getElem?_eq_getElem hil)]
      simp [List.getD, hil]) 9 Tryd.underlying9
  rw [strOf_bytes] at this
  exact this
/-- A literal's bytes. -/
theorem rdq_lit (w : World) (l : List UInt8) (t : TypeId) (mk : Nat × Nat) : RdQ (w.alloc (.cells (l.map enc8).toArray t mk)) (fun i => i = w.heap.size) (some ⟨w.heap.size, 0, none⟩) l := fun _ =>
  ⟨w.heap.size, 0, rfl, by simp, rfl, fun j u hu => by
    have h := heap_alloc_new w (.cells (l.map enc8).toArray t mk)
    rw [cell_of_row _ w.heap.size (0 + j) (l.map enc8).toArray t mk h, Nat.zero_add, List.getElem?_toArray, List.getElem?_map, hu]
    rfl⟩
theorem good_flushed {fl : List (List UInt8)} {g : Nat} {Ls : List (List UInt8)} {W : World} {base d : Nat} {o : Nat → Prop} {ws : List (Nat × List UInt8)} {left : Int} (hd : Dr W base d o fl ws left) (hG : Good fl [] g Ls) :
    Calls Tryd.prog 27 #[.pointer (some ⟨d, 0, none⟩), .slice none 0 0, .int .i64 (-1)] W fun e W' => ∃ d' o', e = .returned (.pointer (some ⟨d', 0, none⟩)) ∧ Dr W' W.heap.size d' o' fl [] (-1) ∧ Good fl [] g Ls ∧ Below W.heap.size W W' := by
  have c := Fall_dr hd (A := none) (n := 0) 0 0 [] (fun hn => absurd hn (by simp)) (Nat.zero_le _) rfl (by decide) (-1)
  rw [fallOf_nil] at c
  refine c.mono ?_
  rintro e W' ⟨d', o', rfl, h1, h2⟩
  exact ⟨d', o', rfl, h1, hG, h2⟩
set_option maxRecDepth 20000 in
set_option maxHeartbeats 4000000 in
theorem awake15 (w : World) : Calls Tryd.prog 6 #[] w fun e w' => e = .returned (.bool true) ∧ Below w.heap.size w w' := by
  have c1 := New_dr 12 (by decide) (by decide) w
  have kc := fun (w : World) (C : Array Value) (n c : Nat) => Lib.run_convert_bytes_const (P := Tryd.prog) w 23 5 C n c Tryd.underlying23 Tryd.underlying5
  go_enter Tryd.func6, Tryd.ntmps6
  go_wp2_with fail
  refine c1.mono ?_
  rintro e w1 ⟨d, o1, rfl, hd1, hb1⟩
  clear c1
  have hq2 := rdq_lit w1 [102] 5 (1, 2)
  have hb2 : Below w1.heap.size w1 (w1.alloc (.cells #[.int .u8 102] 5 (1, 2))) := (Below.refl _ _).alloc (Nat.le_refl _) _
  go_wp2_with fail
  obtain ⟨w2, hw2⟩ : ∃ W, w1.alloc (.cells #[.int .u8 102] 5 (1, 2)) = W := ⟨_, rfl⟩
  have hq2 : RdQ w2 (fun i => i = w1.heap.size) (some ⟨w1.heap.size, 0, none⟩) [102] := by rw [← hw2]; exact hq2
  rw [hw2] at hb2 ⊢
  have cM := make_sg (base := w.heap.size) (o := o1) (b := [102]) (m := 1) (q := 1) (hd1.below hb2) (Nat.le_trans hb1.size hb2.size) (by decide) (by decide) (by decide) hq2 (fun i hi h => by have := hd1.lt i h; omega) rfl (by decide) (by decide) (by decide +kernel)
  have hge := hd1.ge
  have HB := Lib.hid (And.intro (hb1.trans (hb2.mono hb1.size)) hge)
  clear hw2 hq2 hb2 hd1 hb1 hge
  refine cM.mono ?_
  rintro e w3 ⟨r, own3, fl3, rfl, hr, hl3, sg3, ks3⟩
  rw [List.length_replicate] at hl3
  have hb3 : Below w.heap.size w w3 := kept_below ks3.1 HB.out.1 HB.out.1.size HB.out.2
  have HL := Lib.hid hl3
  have HB3 := Lib.hid (And.intro hb3 (And.intro sg3 hr))
  clear cM hr hl3 sg3 ks3 hb3
  have hq4 := rdq_lit w3 [97] 5 (1, 2)
  have hb4 : Below w3.heap.size w3 (w3.alloc (.cells #[.int .u8 97] 5 (1, 2))) := (Below.refl _ _).alloc (Nat.le_refl _) _
  go_wp2_with fail
  obtain ⟨w4, hw4⟩ : ∃ W, w3.alloc (.cells #[.int .u8 97] 5 (1, 2)) = W := ⟨_, rfl⟩
  have hq4 : RdQ w4 (fun i => i = w3.heap.size) (some ⟨w3.heap.size, 0, none⟩) [97] := by rw [← hw4]; exact hq4
  rw [hw4] at hb4 ⊢
  have cA := (HB3.out.2.1.below hb4).append (by decide) (by decide) hq4 (fun i hi h => by have := HB3.out.2.1.rl.lt i h; omega) (m := 1) (q := 1) rfl (by decide) (by decide) (by rw [HL.out]; decide +kernel)
  have HB4 := Lib.hid hb4
  clear hw4 hq4 hb4
  refine cA.mono ?_
  rintro e w5 ⟨rfl, own5, sg5, ks5⟩
  have HB5 := Lib.hid (And.intro sg5 ks5)
  have cF := sg5.flush
  clear cA sg5 ks5
  go_wp2_with fail
  refine cF.mono ?_
  rintro e w6 ⟨rfl, own6, sg6, ks6⟩
  have HB6 := Lib.hid (And.intro sg6 ks6)
  clear cF sg6 ks6
  have hq7 := rdq_lit w6 [98] 5 (1, 2)
  have hb7 : Below w6.heap.size w6 (w6.alloc (.cells #[.int .u8 98] 5 (1, 2))) := (Below.refl _ _).alloc (Nat.le_refl _) _
  go_wp2_with fail
  obtain ⟨w7, hw7⟩ : ∃ W, w6.alloc (.cells #[.int .u8 98] 5 (1, 2)) = W := ⟨_, rfl⟩
  have hq7 : RdQ w7 (fun i => i = w6.heap.size) (some ⟨w6.heap.size, 0, none⟩) [98] := by rw [← hw7]; exact hq7
  rw [hw7] at hb7 ⊢
  have hl6 : ∀ (ws9 : List (Nat × List UInt8)), (app fl3 ws9).length = 12 := fun ws9 => by rw [app_length]; exact HL.out
  have cA := (HB6.out.1.below hb7).append (by decide) (by simp) hq7 (fun i hi h => by have := HB6.out.1.rl.lt i h; omega) (m := 1) (q := 1) rfl (by decide) (by decide) (by rw [hl6]; decide +kernel)
  have HB7 := Lib.hid hb7
  clear hw7 hq7 hb7
  refine cA.mono ?_
  rintro e w8 ⟨rfl, own8, sg8, ks8⟩
  clear cA
  obtain ⟨o8, hd8, -⟩ := sg8.dr
  have cL := good_flushed hd8 HB6.out.1.good
  have HB8 := Lib.hid (And.intro sg8 ks8)
  clear sg8 ks8 hd8
  go_wp2_with fail
  refine cL.mono ?_
  rintro e w9 ⟨d9, o9, rfl, hd9, hG9, hb9⟩
  have cO := open_sg hd9 hb9.size hG9 (by rw [hl6]; decide) (by decide) (by decide)
  have hge9 := hd9.ge
  have HB9 := Lib.hid (And.intro hb9 hge9)
  clear cL hd9 hG9 hb9 hge9
  go_wp2_with fail
  refine cO.mono ?_
  rintro e wA ⟨rA, ownA, flA, wsA, rfl, hrA, hlA, hwA, sgA, ksA⟩
  have hbA : Below w8.heap.size w8 wA := kept_below ksA.1 HB9.out.1 HB9.out.1.size HB9.out.2
  have cC := sgA.count
  have cR := sgA.records
  have HBA := Lib.hid hbA
  clear cO hrA hlA hwA sgA ksA hbA
  go_wp2_with fail
  refine cC.mono ?_
  rintro e wB ⟨rfl, rfl⟩
  clear cC
  go_wp2_with fail
  refine cR.mono ?_
  rintro e wC ⟨qR, vs, rfl, hqR, ⟨hbR, hvl, hvs⟩, hbC⟩
  obtain ⟨v1, hv1⟩ : ∃ v, vs[1]? = some v := ⟨_, List.getElem?_eq_getElem (by rw [hvl]; decide)⟩
  obtain ⟨ho1, -⟩ := hvs 1 v1 [97] hv1 rfl
  obtain ⟨-, A1, k1, rfl, -, -, hrd⟩ := own_form ho1
  have hcv := conv_rd (c := k1) hrd rfl (by decide)
  have hce : wC.cell? ⟨qR, 1, none⟩ = some (.slice A1 1 k1) := by rw [hbR.cell 1, List.getElem?_toArray]; exact hv1
  have HC := Lib.hid hbC
  clear cR hqR hbR hvl hvs hbC hv1 ho1 hrd
  simp only [List.length_cons, List.length_nil, List.length_append] at hcv ⊢
  have hbF : Below w.heap.size w wC := by
    have g3 := HB3.out.2.1.rl.ge HB3.out.2.1.far
    have g5 := HB5.out.1.rl.ge HB5.out.1.far
    have g6 := HB6.out.1.rl.ge HB6.out.1.far
    have b3 := HB3.out.1
    have b4 := b3.trans (HB4.out.mono b3.size)
    have b5 := kept_below HB5.out.2.1 b4 b4.size g3
    have b6 := kept_below HB6.out.2.1 b5 b5.size g5
    have b7 := b6.trans (HB7.out.mono b6.size)
    have b8 := kept_below HB8.out.2.1 b7 b7.size g6
    have b9 := b8.trans (HBA.out.mono b8.size)
    exact b9.trans (HC.out.mono b9.size)
  have HBF := Lib.hid hbF
  clear hbF
  go_wp2_with fail
  go_ret
  exact ⟨rfl, HBF.out⟩
end Go.Proofs.YtbaenpgjggojaaaDoor
namespace Go.Proofs.YtbaenpgjggojaaaDoor
open Go.ChangeShapes Go.WideShapes Go.RowKit

theorem RPages_any (n : Nat) (hn : n ≤ 1000000) (w : World) : Calls Tryd.prog 20 #[.int .i64 (n : Int)] w fun e w' => e = .returned (.int .i64 (pagesN n : Nat)) ∧ w' = w := by
  have hb := pages_bounds n
  obtain ⟨K, hK⟩ : ∃ K, pagesN n = K := ⟨_, rfl⟩
  rw [hK] at hb ⊢
  have hn1 : (n : Int) ≤ 1000000 := by omega
  have HB := Lib.hid hb
  clear hK hb
  go_enter Tryd.func20, Tryd.ntmps20
  go_wp2
  go_loopw [3] (fun i wr => ∃ k : Nat, 1 ≤ k ∧ k ≤ K ∧ i = .int .i64 (k : Int) ∧ wr = w) (fun i _ => K - (intOf i).toNat)
  case atStart => exact ⟨1, Nat.le_refl _, by have := HB.out; omega, rfl, rfl⟩
  case round =>
    obtain ⟨k, hk1, hk, rfl, rfl⟩ := hrel
    have hkb : (k : Int) ≤ 4000 := by have := HB.out; omega
    have hw1 : IntKind.i64.wrap (254 * (k : Int)) = 254 * (k : Int) := by rw [IntKind.wrap_i64]; omega
    by_cases hlt : k < K
    · have h1 : 254 * (k : Int) < (n : Int) + 8 := by have := HB.out; omega
      clear hlt
      go_wp2
      go_roundw
      case rel => exact ⟨k + 1, by omega, by have := HB.out; omega, congrArg (Value.int .i64) (by omega), trivial⟩
      case measure => simp [intOf]; have := HB.out; omega
    · have h1 : ¬ 254 * (k : Int) < (n : Int) + 8 := by have := HB.out; omega
      have hkn : k = K := by omega
      subst hkn
      clear hlt
      go_wp2
      go_ret
      exact ⟨rfl, rfl⟩
end Go.Proofs.YtbaenpgjggojaaaDoor
