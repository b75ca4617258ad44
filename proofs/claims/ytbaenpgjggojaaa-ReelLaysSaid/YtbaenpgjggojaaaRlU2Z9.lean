/-
Append: what is behind a round, and behind the last one. No condition of its own.
-/
import Derived.Test.YtbaenpgjggojaaaRlUZ9
namespace Go.Proofs.Ytbaenpgjggojaaa
open Go.ChangeShapes Go.WideShapes Go.RowKit

section
variable {w w1 w2 : World} {r d g u c B : Nat} {own : Nat → Prop} {Ls : List (List UInt8)} {R : Option Addr} {vals : List Value}
theorem HeldAt.keepO (h : HeldAt B r d g Ls u R c vals w1) (hk : Kept own w1 w2) (ho : Off own r R Ls.length c vals) : HeldAt B r d g Ls u R c vals w2 := by
  obtain ⟨h1, h2, h3, h4, h5⟩ := h
  refine ⟨(hk.block r h1.lt ho.1).trans h1, ownR_kept h2 hk ho.2.1, h3, h4, fun i v b hv hl => ⟨ownB_kept (h5 i v b hv hl).1 hk (ho.2.2 v (List.mem_of_getElem? hv)), (h5 i v b hv hl).2⟩⟩
theorem HeldAt.below (h : HeldAt B r d g Ls u R c vals w1) (hb : Below w1.heap.size w1 w2) : HeldAt B r d g Ls u R c vals w2 :=
  h.keepO (own := fun _ => False) (Kept.of_below hb) ⟨fun h => h, fun _ _ h => h, fun _ _ _ _ h => h⟩
/-- What keep leaves of a reel's records, where the record lies behind all of them. -/
theorem HeldAt.keep {wr : World} {A : Option Addr} {q : Nat} {b : List UInt8} {e : Ending} (h : HeldAt B r d g Ls u R c vals w1) (_hrB : r < B) (hBw : B ≤ w1.heap.size) (hb : Below w1.heap.size w1 w2) (hx : OwnB w2 w1.heap.size (.slice A b.length q) b.length b)
    (hk : KeepPost w2 B d r g Ls.length u b.length R c vals (.slice A b.length q) e wr) :
    e = .returned (.tuple #[]) ∧ ∃ R' c', HeldAt B r d g (Ls ++ [b]) (u + pagesN b.length) R' c' (vals ++ [.slice A b.length q]) wr ∧ Kept (fun i => i = r ∨ (Value.slice R Ls.length c).ownBlock = some i) w2 wr ∧
      ∀ i, (Value.slice R' (Ls.length + 1) c').ownBlock = some i → (Value.slice R Ls.length c).ownBlock = some i ∨ w2.heap.size ≤ i := by
  obtain ⟨h1, h2, h3, h4, h5⟩ := h.below hb
  obtain ⟨rfl, R', c', k1, k2, k3, k4⟩ := hk
  have hrl : r < w1.heap.size := h.1.lt
  have hlo : ∀ i, (Value.slice R Ls.length c).ownBlock = some i → i < w1.heap.size := fun i hi => (World.ownsRow.lt h.2.1 i hi).2
  have hxl : ∀ i, (Value.slice A b.length q).ownBlock = some i → w1.heap.size ≤ i ∧ i < w2.heap.size := fun i hi => World.ownsRow.lt hx i hi
  have e1 : (Ls ++ [b]).length = Ls.length + 1 := by simp
  refine ⟨rfl, R', c', ?_, k3, k4⟩
  unfold HeldAt
  rw [e1]
  refine ⟨k1, k2, by simp [h3], ?_, ?_⟩
  · intro i hi
    rcases k4 i hi with ho | ho
    · exact h4 i ho
    · have := hb.size
      omega
  · intro i v y hv hy
    by_cases hil : i < Ls.length
    · rw [List.getElem?_append_left (by omega)] at hv hy
      obtain ⟨f1, f2⟩ := h5 i v y hv hy
      refine ⟨ownB_kept f1 k3 fun z hz => ?_, fun z hz => ⟨(f2 z hz).1, fun hn => ?_⟩⟩
      · rintro (e | e)
        · exact (f2 z hz).1 e
        · exact (f2 z hz).2 e
      · rcases k4 z hn with ho | ho
        · exact (f2 z hz).2 ho
        · have := (World.ownsRow.lt f1 z hz).2
          omega
    · have hi : i = Ls.length := by
        have := (List.getElem?_eq_some_iff.1 hy).1
        rw [e1] at this
        omega
      subst hi
      rw [List.getElem?_append_right (by omega)] at hv hy
      rw [h3] at hv
      simp only [Nat.sub_self, List.getElem?_cons_zero, Option.some.injEq] at hv hy
      subst hv
      subst hy
      refine ⟨(ownB_kept hx k3 fun z hz => ?_).low hBw, fun z hz => ⟨by have := hxl z hz; omega, fun hn => ?_⟩⟩
      · rintro (e | e)
        · have := hxl z hz
          omega
        · have := hxl z hz
          have := hlo z e
          omega
      · rcases k4 z hn with ho | ho
        · have := hxl z hz
          have := hlo z ho
          omega
        · have := hxl z hz
          omega
end
section
variable {w W8 W w9 w4 w5 w6 : World} {base d a tb t r g c : Nat} {o o' o4 : Nat → Prop} {fl : List (List UInt8)} {ws ws' : List (Nat × List UInt8)} {f sx b : List UInt8} {pre : List Nat} {x : Nat} {Ls : List (List UInt8)} {R : Option Addr} {vals : List Value}
theorem round_end (hd : Dr W base d o' fl (ws ++ putsW a (pre.map (secOf f))) (-1)) (ho' : ∀ i, i < W8.heap.size → o' i → o i) (hkp : Kept (fun i => o i ∨ i = tb) W8 W) (hb9 : Below W.heap.size W w9)
    (hd4 : Dr w4 base d o4 fl (ws ++ putsW a (pre.map (secOf f)) ++ [(t, sx)]) (-1)) (hk4 : Kept o' w9 w4) (ho4 : ∀ i, i < w9.heap.size → o4 i → o' i) (ht : a + pre.length = t) (hsx : secOf f x = sx) (htn : ¬ o' tb) (hkt : Blk w4 tb 3 #[.int .i64 (t : Int)]) (htl : tb < W8.heap.size) :
    KeepsFrom W8.heap.size W (w4.setCell ⟨tb, 0, none⟩ (.int .i64 ((t : Int) + 1))) ∧ KeepN W8.heap.size (fun i => o i ∨ i = tb) W (w4.setCell ⟨tb, 0, none⟩ (.int .i64 ((t : Int) + 1))) ∧
      AppI W8 base d a tb o fl ws f (pre ++ [x]) (w4.setCell ⟨tb, 0, none⟩ (.int .i64 ((t : Int) + 1))) := by
  have hsz : W8.heap.size ≤ W.heap.size := hkp.size
  have hs9 : W.heap.size ≤ w9.heap.size := hb9.size
  have hs4 : w9.heap.size ≤ w4.heap.size := hk4.size
  have hks : Kept (fun i => i = tb) w4 (w4.setCell ⟨tb, 0, none⟩ (.int .i64 ((t : Int) + 1))) := kept_set w4 tb 0 none _
  have hKP : Kept (fun i => o i ∨ i = tb) W8 (w4.setCell ⟨tb, 0, none⟩ (.int .i64 ((t : Int) + 1))) :=
    ((hkp.trans (Kept.of_below (own := o) hb9) (fun i _ h => .inl h)).trans hk4 (fun i hi h => .inl (ho' i hi h))).trans hks (fun i _ h => .inr h)
  refine ⟨(below_from hb9).trans ((hk4.from_ (hd.below hb9).cells _).trans ((KeepsOthers.setCell _ _ _).from _)), ⟨by have := hks.size; omega, fun i hi hn => ?_⟩, ⟨o4, ?_, fun i hi h => ho' i hi (ho4 i (by omega) h)⟩, ?_, hKP⟩
  · have hit : i ≠ tb := fun e => hn (.inr e)
    rw [hks.block i (by omega) hit, hk4.block i (by omega) (fun e => hn (.inl (ho' i hi e))), hb9.block i (by omega)]
  · have e : ws ++ putsW a ((pre ++ [x]).map (secOf f)) = ws ++ putsW a (pre.map (secOf f)) ++ [(t, sx)] := by
      rw [List.map_append, List.map_cons, List.map_nil, putsW_snoc, List.length_map, ht, hsx, List.append_assoc]
    rw [e]
    exact hd4.keep hks fun i hi e => htn (e ▸ ho4 i (by rw [e]; omega) hi)
  · have h := hkt.set_ 0 (.int .i64 ((t : Int) + 1))
    rw [List.length_append, List.length_singleton, ← Nat.add_assoc, ht]
    exact h
theorem kept_putObj (w : World) (D : Nat) (ob : Obj) : Kept (fun i => i = D) w (w.putObj D ob) := (kept_grown (grownBy_putObj' w D ob)).mono fun i e => by injection e with e; exact e.symm
/-- Behind the last round: the record is kept. -/
theorem app_end {A5 : Option Addr} {q5 B4 D : Nat} {e : Ending} {v : Value} {ob : Obj} (hd : Dr w base d o fl ws (-1)) (hh : HeldAt (r + 1) r d g Ls (usedN Ls) R c vals w) (hoff : Off o r R Ls.length c vals) (hw8 : Below w.heap.size w W8)
    (hd' : Dr W base d o' fl ws' (-1)) (ho' : ∀ i, i < W8.heap.size → o' i → o i) (hkp : Kept (fun i => o i ∨ i = tb) W8 W) (htb : w.heap.size ≤ tb) (hb5 : Below W.heap.size W w5) (hx : OwnB w5 W.heap.size (.slice A5 b.length q5) b.length b)
    (hk : KeepPost w5 (r + 1) d r g Ls.length (usedN Ls) b.length R c vals (.slice A5 b.length q5) e w6) (hD : W8.heap.size ≤ D) (hK : W.heap[D]? = some ob) (hob : ob.isCells = false) (h4 : w.heap.size ≤ B4) (h48 : B4 < W8.heap.size) (h4t : B4 ≠ tb) :
    e = .returned (.tuple #[]) ∧ w6.heap[D]? = some ob ∧ w6.heap[B4]? = W8.heap[B4]? ∧ ∃ own, Rl ((w6.setCell ⟨B4, 0, none⟩ v).putObj D (.deferred none)) base d r g own fl ws' (Ls ++ [b]) ∧ Kept (Mine o r R Ls.length c vals) w ((w6.setCell ⟨B4, 0, none⟩ v).putObj D (.deferred none)) ∧
      ∀ i, i < w.heap.size → own i → Mine o r R Ls.length c vals i := by
  have hol := hd.lt
  have hs8 := hw8.size
  have hsW : W8.heap.size ≤ W.heap.size := hkp.size
  have hs5 := hb5.size
  have hDW : D < W.heap.size := (Array.getElem?_eq_some_iff.1 hK).1
  have hlt := hh.lt (Nat.le_succ r)
  have hhW : HeldAt (r + 1) r d g Ls (usedN Ls) R c vals W := (hh.below hw8).keepO hkp (by
    refine ⟨?_, fun q hq => ?_, fun v hv q hq => ?_⟩
    · rintro (e | e)
      · exact hoff.1 e
      · have := hlt r (.inl rfl); omega
    · rintro (e | e)
      · exact hoff.2.1 q hq e
      · have := hlt q (.inr (.inl hq)); omega
    · rintro (e | e)
      · exact hoff.2.2 v hv q hq e
      · have := hlt q (.inr (.inr ⟨v, hv, hq⟩)); omega)
  have hrl := hlt r (.inl rfl)
  obtain ⟨rfl, R', c', hh6, hk6, hrow⟩ := hhW.keep (Nat.lt_succ_self r) (by omega) hb5 hx hk
  have hxl : ∀ i, (Value.slice A5 b.length q5).ownBlock = some i → W.heap.size ≤ i ∧ i < w5.heap.size := fun i hi => World.ownsRow.lt hx i hi
  have hs6 : w5.heap.size ≤ w6.heap.size := hk6.size
  have hnl : ∀ i, w.heap.size ≤ i → ¬ (i = r ∨ (Value.slice R Ls.length c).ownBlock = some i) := by
    rintro i hi (e | e)
    · omega
    · have := hlt i (.inr (.inl e)); omega
  have hD6 : w6.heap[D]? = some ob := (hk6.block D (by omega) (hnl D (by omega))).trans ((hb5.block D hDW).trans hK)
  have h46 : w6.heap[B4]? = W8.heap[B4]? := by
    rw [hk6.block B4 (by omega) (hnl B4 h4), hb5.block B4 (by omega)]
    exact hkp.block B4 h48 (by
      rintro (e | e)
      · have := hol _ e; omega
      · exact h4t e)
  have hoW := hd'.lt
  -- what is no block of theirs
  have key : ∀ i, (o' i ∨ i = r ∨ (Value.slice R' (Ls.length + 1) c').ownBlock = some i ∨ ∃ v, v ∈ vals ++ [.slice A5 b.length q5] ∧ v.ownBlock = some i) → i < w.heap.size ∧ Mine o r R Ls.length c vals i ∨ W8.heap.size ≤ i ∧ i ≠ D := by
    have hoD : ∀ i, o' i → i ≠ D := fun i hi e => by
      obtain ⟨b', h1, h2⟩ := hd'.cells i hi
      rw [e, hK] at h1
      injection h1 with h1
      rw [← h1, hob] at h2
      cases h2
    rintro i (h | h | h | ⟨v, hv, h⟩)
    · by_cases hi : i < W8.heap.size
      · have := ho' i hi h
        exact .inl ⟨hol i this, .inl this⟩
      · exact .inr ⟨by omega, hoD i h⟩
    · exact .inl ⟨by omega, .inr (.inl h)⟩
    · rcases hrow i h with h1 | h1
      · have := hlt i (.inr (.inl h1))
        exact .inl ⟨this.2, .inr (.inr (.inl h1))⟩
      · exact .inr ⟨by omega, by omega⟩
    · rcases List.mem_append.1 hv with h1 | h1
      · have := hlt i (.inr (.inr ⟨v, h1, h⟩))
        exact .inl ⟨this.2, .inr (.inr (.inr ⟨v, h1, h⟩))⟩
      · rw [List.mem_singleton.1 h1] at h
        have := hxl i h
        exact .inr ⟨by omega, by omega⟩
  have hks : Kept (fun i => i = B4 ∨ i = D) w6 ((w6.setCell ⟨B4, 0, none⟩ v).putObj D (.deferred none)) :=
    ((kept_set w6 B4 0 none v).mono (fun i h => Or.inl h)).trans ((kept_putObj _ D _).mono (fun i h => Or.inr h)) fun _ _ h => h
  have hno : ∀ i, (o' i ∨ i = r ∨ (Value.slice R' (Ls.length + 1) c').ownBlock = some i ∨ ∃ v, v ∈ vals ++ [.slice A5 b.length q5] ∧ v.ownBlock = some i) → ¬ (i = B4 ∨ i = D) := by
    rintro i h (e | e)
    · rcases key i h with ⟨h1, -⟩ | ⟨h1, -⟩ <;> omega
    · rcases key i h with ⟨h1, -⟩ | ⟨h1, h2⟩
      · omega
      · exact h2 e
  have ho'r : ∀ i, o' i → ¬ (i = r ∨ (Value.slice R Ls.length c).ownBlock = some i) := by
    rintro i hi (e | e)
    · exact hoff.1 (by rw [← e]; exact ho' i (by omega) hi)
    · have := hlt i (.inr (.inl e))
      exact hoff.2.1 i e (ho' i (by omega) hi)
  have hdF := (((hd'.below hb5).keep hk6 ho'r).keep hks fun i hi => hno i (.inl hi))
  have e1 : (Ls ++ [b]).length = Ls.length + 1 := by simp
  have hoffF : Off o' r R' (Ls ++ [b]).length c' (vals ++ [.slice A5 b.length q5]) := by
    rw [e1]
    refine ⟨fun h => hoff.1 (ho' r (by omega) h), fun q hq h => ?_, fun v hv q hq h => ?_⟩
    · rcases hrow q hq with h1 | h1
      · have := hlt q (.inr (.inl h1))
        exact hoff.2.1 q h1 (ho' q (by omega) h)
      · have := hoW q h; omega
    · rcases List.mem_append.1 hv with h1 | h1
      · have := hlt q (.inr (.inr ⟨v, h1, hq⟩))
        exact hoff.2.2 v h1 q hq (ho' q (by omega) h)
      · rw [List.mem_singleton.1 h1] at hq
        have := hxl q hq
        have := hoW q h; omega
  refine ⟨rfl, hD6, h46, Mine o' r R' (Ls ++ [b]).length c' (vals ++ [.slice A5 b.length q5]), ⟨o', R', c', _, hdF, ?_, hoffF, rfl⟩, ?_, ?_⟩
  · rw [usedN_snoc]
    refine hh6.keepO hks ⟨hno r (.inr (.inl rfl)), fun q hq => hno q (.inr (.inr (.inl (by rw [← e1]; exact hq)))), fun v hv q hq => hno q (.inr (.inr (.inr ⟨v, hv, hq⟩)))⟩
  · have k1 : Kept (Mine o r R Ls.length c vals) w W := (Kept.of_below hw8).trans hkp fun i hi h => by
      rcases h with h | h
      · exact .inl h
      · omega
    have k2 := (k1.trans (Kept.of_below (own := o') hb5) fun i hi h => .inl (ho' i (by omega) h)).trans hk6 fun i hi h => by
      rcases h with h | h
      · exact .inr (.inl h)
      · exact .inr (.inr (.inl h))
    exact k2.trans hks fun i hi h => by
      rcases h with h | h <;> omega
  · intro i hi h
    rw [e1] at h
    rcases key i h with ⟨-, h1⟩ | ⟨h1, -⟩
    · exact h1
    · omega
end
end Go.Proofs.Ytbaenpgjggojaaa
