/-
A reel's acts where its drum holds it: as the laws want them. Conditions: as each act's.
-/
import Derived.Test.YtbaenpgjggojaaaRlGdZ9
namespace Go.Proofs.Ytbaenpgjggojaaa
open Go.ChangeShapes Go.WideShapes Go.RowKit

theorem rdq_blk {w : World} {q : Nat} {l : List UInt8} (h : Blk w q 5 (l.map enc8).toArray) : RdQ w (fun i => i = q) (some ⟨q, 0, none⟩) l := fun _ =>
  ⟨q, 0, rfl, h.lt, rfl, fun j u hu => by rw [h.cell, Nat.zero_add, List.getElem?_toArray, List.getElem?_map, hu]; rfl⟩
theorem rdq_nil (w : World) (av : Nat → Prop) (A : Option Addr) : RdQ w av A [] := fun h => absurd h (by simp)
theorem rdq_rd {w : World} {B : Nat} {A : Option Addr} {l : List UInt8} (h : Rd w B A l) (hB : B ≤ w.heap.size) : RdQ w (fun i => i < B) A l := fun h0 => by
  obtain ⟨b, o, e, h1, h2⟩ := h h0
  exact ⟨b, o, e, by omega, h1, h2⟩
section
variable {w w1 w2 : World} {base d r g : Nat} {own own0 o : Nat → Prop} {fl : List (List UInt8)} {ws : List (Nat × List UInt8)} {Ls : List (List UInt8)}
theorem Rl.ge (h : Rl w base d r g own fl ws Ls) (hr : base ≤ r) : ∀ i, own i → base ≤ i := by
  obtain ⟨o, R, c, vals, hd, hh, hoff, rfl⟩ := h
  rintro i (h | h)
  · exact hd.ge i h
  · have := (hh.lt (Nat.le_succ r) i h).1
    omega
theorem kept_below {B : Nat} (h : Kept own w1 w2) (hb : Below B w w1) (hB : B ≤ w1.heap.size) (ho : ∀ i, own i → B ≤ i) : Below B w w2 :=
  ⟨h.os.trans hb.os, h.tape.trans hb.tape, h.output.trans hb.output, Nat.le_trans hb.size h.size, fun i hi => (h.block i (by omega) fun e => by have := ho i e; omega).trans (hb.block i hi)⟩
end
/-- A reel on a drum that holds it. -/
structure Sg (W : World) (base d r g : Nat) (own : Nat → Prop) (fl : List (List UInt8)) (ws : List (Nat × List UInt8)) (Ls : List (List UInt8)) : Prop where
  rl : Rl W base d r g own fl ws Ls
  good : Good fl ws g Ls
  far : base ≤ r
  few : fl.length ≤ 1000
  cnt : Ls.length ≤ 1000
/-- What an act keeps. -/
def Ks (W : World) (own : Nat → Prop) (W' : World) (own' : Nat → Prop) : Prop := Kept own W W' ∧ ∀ i, i < W.heap.size → own' i → own i
section
variable {W W' W2 w0 : World} {base d r g m q : Nat} {own own' own2 av o : Nat → Prop} {fl : List (List UInt8)} {ws : List (Nat × List UInt8)} {Ls : List (List UInt8)} {A : Option Addr} {b : List UInt8}
theorem Sg.below (h : Sg W base d r g own fl ws Ls) (hb : Below W.heap.size W W') : Sg W' base d r g own fl ws Ls := ⟨h.rl.below hb, h.good, h.far, h.few, h.cnt⟩
theorem Ks.below (hb : Below W.heap.size W W') : Ks W own W' own := ⟨Kept.of_below hb, fun _ _ h => h⟩
theorem Ks.trans (h : Ks W own W' own') (k : Ks W' own' W2 own2) : Ks W own W2 own2 := ⟨h.1.trans k.1 h.2, fun i hi e => h.2 i hi (k.2 i (Nat.lt_of_lt_of_le hi h.1.size) e)⟩
theorem Sg.used (h : Sg W base d r g own fl ws Ls) : usedN Ls ≤ halfN fl.length := h.good.2.2.2.2.2.2.1
theorem Sg.append (h : Sg W base d r g own fl ws Ls) (hL : Ls.length < 1000) (hws : ws.length ≤ 700000) (hb : RdQ W av A b) (hav : ∀ i, av i → ¬ own i) (hm : b.length = m) (hmq : m ≤ q) (hqx : m ≤ 140737488355328) (hF : fitsN m ((halfN fl.length : Nat) - (usedN Ls : Int)) = 0) :
    Calls Try.prog 12 #[.pointer (some ⟨r, 0, none⟩), .slice A m q] W fun e W' => e = .returned .nilIface ∧ ∃ own', Sg W' base d r g own' fl (addW fl ws g Ls b) (Ls ++ [b]) ∧ Ks W own W' own' := by
  have hg := h.good.2.1
  have hx : m ≤ 100000 ∧ usedN Ls + pagesN m ≤ halfN fl.length := by
    unfold fitsN at hF
    split at hF
    · cases hF
    · split at hF
      · cases hF
      · omega
  refine (Append_dr h.rl (by omega) h.good.2.2.1 h.few h.cnt h.used (by omega) hb hav hm hmq hqx).mono ?_
  rintro e W' (⟨h1, -⟩ | ⟨-, rfl, own', k1, k2, k3⟩)
  · exact absurd hF h1
  · exact ⟨rfl, own', ⟨k1, h.good.append (by omega) (by rw [hm]; exact hx.2), h.far, h.few, by simp; omega⟩, k2, k3⟩
theorem Sg.full (h : Sg W base d r g own fl ws Ls) (hws : ws.length ≤ 700000) (hb : RdQ W av A b) (hav : ∀ i, av i → ¬ own i) (hm : b.length = m) (hmq : m ≤ q) (hqx : m ≤ 140737488355328) {F : Nat} (hF : fitsN m ((halfN fl.length : Nat) - (usedN Ls : Int)) = F) (hF0 : F ≠ 0) :
    Calls Try.prog 12 #[.pointer (some ⟨r, 0, none⟩), .slice A m q] W fun e W' => e = .returned (errV F) ∧ Below W.heap.size W W' := by
  have hg := h.good.2.1
  refine (Append_dr h.rl (by omega) h.good.2.2.1 h.few h.cnt h.used (by omega) hb hav hm hmq hqx).mono ?_
  rintro e W' (⟨h1, h2, h3⟩ | ⟨h1, -⟩)
  · rw [hF] at h2; exact ⟨h2, h3⟩
  · exact absurd (hF.symm.trans h1) hF0
theorem Sg.flush (h : Sg W base d r g own fl ws Ls) :
    Calls Try.prog 20 #[.pointer (some ⟨r, 0, none⟩)] W fun e W' => e = .returned .nilIface ∧ ∃ own', Sg W' base d r g own' (app fl ws) [] Ls ∧ Ks W own W' own' := by
  obtain ⟨o, R, c, vals, hd, hh, hoff, ho⟩ := h.rl
  obtain ⟨o9, hd9, -, act⟩ := h.rl.drum
  refine (RFlush_dr hh.1 hd9).mono ?_
  rintro e W' ⟨rfl, hk⟩
  obtain ⟨own', k1, k2, k3⟩ := act _ _ _ hk
  exact ⟨rfl, own', ⟨k1, h.good.same (app_length _ _) fun j _ => rfl, h.far, by rw [app_length]; exact h.few, h.cnt⟩, k2, k3⟩
theorem Sg.turn (h : Sg W base d r g own fl ws Ls) (hg : g + 1 < 2147483648) (hws : ws.length ≤ 700000) (hb : RdQ W av A b) (hav : ∀ i, av i → ¬ own i) (hm : b.length = m) (hmq : m ≤ q) (hqx : m ≤ 140737488355328) (hF : fitsN m (halfN fl.length : Nat) = 0) :
    Calls Try.prog 9 #[.pointer (some ⟨r, 0, none⟩), .slice A m q] W fun e W' => e = .returned .nilIface ∧ ∃ own' fl', fl'.length = fl.length ∧ Sg W' base d r (g + 1) own' fl' [] [b] ∧ Ks W own W' own' := by
  have hx : m ≤ 100000 ∧ pagesN m ≤ halfN fl.length := by
    unfold fitsN at hF
    split at hF
    · cases hF
    · split at hF
      · cases hF
      · omega
  refine (Turn_dr h.rl (by omega) h.good.2.2.1 h.few hws hb hav hm hmq hqx).mono ?_
  rintro e W' (⟨h1, -⟩ | ⟨-, rfl, fl', ⟨own', k1, k2, k3⟩, hl, hn⟩)
  · exact absurd hF h1
  · exact ⟨rfl, own', fl', hl, ⟨k1, h.good.turn hg hl (by omega) (by rw [hm]; exact hx.2) hn, h.far, by rw [hl]; exact h.few, by simp⟩, k2, k3⟩
theorem make_sg (hd : Dr W base d o fl ws (-1)) (hbw : base ≤ W.heap.size) (h6 : 6 ≤ fl.length) (h1k : fl.length ≤ 1000) (hws : ws.length ≤ 700000) (hb : RdQ W av A b) (hav : ∀ i, av i → ¬ o i) (hm : b.length = m) (hmq : m ≤ q) (hqx : m ≤ 140737488355328) (hF : fitsN m (halfN fl.length : Nat) = 0) :
    Calls Try.prog 8 #[.pointer (some ⟨d, 0, none⟩), .slice A m q] W fun e W' => ∃ r own' fl', e = .returned (.tuple #[.pointer (some ⟨r, 0, none⟩), .nilIface]) ∧ W.heap.size ≤ r ∧ fl'.length = fl.length ∧ Sg W' base d r 1 own' fl' [] [b] ∧ Ks W o W' own' := by
  have hx : m ≤ 100000 ∧ pagesN m ≤ halfN fl.length := by
    unfold fitsN at hF
    split at hF
    · cases hF
    · split at hF
      · cases hF
      · omega
  refine (Make_dr hd h1k hws hb hav hm hmq hqx).mono ?_
  rintro e W' (⟨h1, -⟩ | ⟨-, h1, -⟩ | ⟨-, -, r, rfl, fl', hr, ⟨own', k1, k2, k3⟩, hl, hn⟩)
  · omega
  · exact absurd hF h1
  · exact ⟨r, own', fl', rfl, hr, hl, ⟨k1, good_make hl h6 (by omega) (by rw [hm]; exact hx.2) hn, by omega, by rw [hl]; exact h1k, by simp⟩, k2, k3⟩
theorem open_sg (hd : Dr W base d o fl ws (-1)) (hbw : base ≤ W.heap.size) (hG : Good fl ws g Ls) (h1k : fl.length ≤ 1000) (hL : Ls.length ≤ 1000) (hws : ws.length ≤ 700000) :
    Calls Try.prog 21 #[.pointer (some ⟨d, 0, none⟩)] W fun e W' => ∃ r own' fl' ws', e = .returned (.tuple #[.pointer (some ⟨r, 0, none⟩), .nilIface]) ∧ W.heap.size ≤ r ∧ fl'.length = fl.length ∧ ws'.length ≤ ws.length + fl.length ∧ Sg W' base d r g own' fl' ws' Ls ∧ Ks W o W' own' := by
  refine (Open_dr hd h1k (by omega)).mono ?_
  rintro e W' (⟨k, h1, -⟩ | ⟨r, rfl, j, L, own', fl', ws', h6, hr, hn0, hLn, hj, hm, he, hF, hu, hRl, hk, hs, hl, hwl, hnow⟩)
  · exact absurd h1 (hG.noErr k)
  · obtain ⟨rfl, rfl⟩ := hG.found hj hm he hF
    rw [hG.new] at hRl
    exact ⟨r, own', fl', ws', rfl, hr, hl, hwl, ⟨hRl, hG.opened hl hnow, by omega, by rw [hl]; exact h1k, hL⟩, hk, hs⟩
theorem Sg.records (h : Sg W base d r g own fl ws Ls) : Calls Try.prog 10 #[.pointer (some ⟨r, 0, none⟩)] W (RecsPost W Ls) := by
  obtain ⟨o, R, c, vals, hd, hh, hoff, ho⟩ := h.rl
  exact Records_any hh hh.1.lt h.cnt fun b hb => by have := h.good.2.2.2.2.2.2.2.1 b hb; omega
theorem Sg.count (h : Sg W base d r g own fl ws Ls) : Calls Try.prog 19 #[.pointer (some ⟨r, 0, none⟩)] W fun e W' => e = .returned (.int .i64 (Ls.length : Int)) ∧ W' = W := by
  obtain ⟨o, R, c, vals, hd, hh, hoff, ho⟩ := h.rl
  exact Count_any hh.1
theorem Sg.gen (h : Sg W base d r g own fl ws Ls) : Calls Try.prog 23 #[.pointer (some ⟨r, 0, none⟩)] W fun e W' => e = .returned (.int .u32 (g : Int)) ∧ W' = W := by
  obtain ⟨o, R, c, vals, hd, hh, hoff, ho⟩ := h.rl
  exact Gen_any hh.1
theorem Sg.room (h : Sg W base d r g own fl ws Ls) : Calls Try.prog 18 #[.pointer (some ⟨r, 0, none⟩)] W fun e W' => e = .returned (.int .i64 ((halfN fl.length : Nat) - (usedN Ls : Int))) ∧ ∃ m, W' = W.drewN m := by
  obtain ⟨o, R, c, vals, hd, hh, hoff, ho⟩ := h.rl
  have := h.good.2.2.1
  have := h.used
  have := h.few
  exact Room_dr hh.1 hd (by omega) (by unfold halfN at *; omega)
theorem Sg.dr (h : Sg W base d r g own fl ws Ls) : ∃ o, Dr W base d o fl ws (-1) ∧ ∀ i, o i → own i := by
  obtain ⟨o, R, c, vals, hd, hh, hoff, rfl⟩ := h.rl
  exact ⟨o, hd, fun i h => .inl h⟩
theorem addW_len (fl : List (List UInt8)) (ws : List (Nat × List UInt8)) (g : Nat) (Ls : List (List UInt8)) (b : List UInt8) : (addW fl ws g Ls b).length = ws.length + pagesN b.length := by
  unfold addW
  rw [List.length_append, putsW_len, secs_len]
end
end Go.Proofs.Ytbaenpgjggojaaa
