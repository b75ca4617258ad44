/-
Records laid in sectors: what is found of them. No condition but lengths.
Append: what its rounds keep. No condition of its own.
-/
import Derived.Test.YtbaenpgjggojaaaRlRZ9
import Derived.Test.YtbaenpgjggojaaaRlTZ9
namespace Go.Proofs.Ytbaenpgjggojaaa
open Go.RowKit

/-- A record's sectors. -/
def secs (s : Nat) (p : List UInt8) : List (List UInt8) := (List.range (pagesN p.length)).map fun i => sector 165 (((Crc.frm s p).drop (254 * i)).take 254)
def secsL (g : Nat) : Nat → List (List UInt8) → List (List UInt8)
  | _, [] => []
  | k, p :: L => secs (seedN g k) p ++ secsL g (k + 1) L
theorem secs_len (s : Nat) (p : List UInt8) : (secs s p).length = pagesN p.length := by simp [secs]
theorem usedN_cons (p : List UInt8) (L : List (List UInt8)) : usedN (p :: L) = pagesN p.length + usedN L := by simp [usedN]
theorem secsL_len (g : Nat) (L : List (List UInt8)) : ∀ k, (secsL g k L).length = usedN L := by
  induction L with
  | nil => intro k; rfl
  | cons p L ih => intro k; rw [usedN_cons, ← ih (k + 1), ← secs_len (seedN g k) p]; exact List.length_append
theorem secsL_snoc (g : Nat) (p : List UInt8) (L : List (List UInt8)) : ∀ k, secsL g k (L ++ [p]) = secsL g k L ++ secs (seedN g (k + L.length)) p := by
  induction L with
  | nil => intro k; simp [secsL]
  | cons q L ih =>
    intro k
    show secs _ q ++ secsL g (k + 1) (L ++ [p]) = (secs _ q ++ secsL g (k + 1) L) ++ _
    rw [ih, List.append_assoc, List.length_cons, show k + 1 + L.length = k + (L.length + 1) from by omega]
theorem mid_len (l : List UInt8) : (l.take 254 ++ List.replicate (254 - l.length) (0 : UInt8)).length = 254 := by simp; omega
theorem sector_0 (m : UInt8) (l : List UInt8) : (sector m l).getD 0 0 = m := rfl
theorem sector_255 (m : UInt8) (l : List UInt8) : (sector m l).getD 255 0 = m := by
  have e : sector m l = (m :: (l.take 254 ++ List.replicate (254 - l.length) 0)) ++ [m] := rfl
  have h := mid_len l
  rw [e, List.getD_eq_getElem?_getD, List.getElem?_append_right (by rw [List.length_cons, h]; decide), List.length_cons, h]
  rfl
theorem markOf_sector (m : UInt8) (l : List UInt8) : markOf (sector m l) = m.toNat := by
  unfold markOf
  rw [sector_0, sector_255, if_pos rfl]
theorem bodyOf_sector (m : UInt8) (l : List UInt8) : bodyOf (sector m l) = l.take 254 ++ List.replicate (254 - l.length) 0 := by
  unfold bodyOf
  rw [sector_0, sector_255, if_pos rfl]
  show ((l.take 254 ++ List.replicate (254 - l.length) 0) ++ [m]).take 254 = _
  have h := mid_len l
  exact List.take_left' h
theorem markOf_zeros : markOf zeros = 0 := by decide +kernel
theorem chunk_pad (f : List UInt8) (R i : Nat) (h : f.length + R = 254 * (i + 1) ∨ 254 * (i + 1) ≤ f.length + R) :
    bodyOf (sector 165 ((f.drop (254 * i)).take 254)) = ((f ++ List.replicate R 0).drop (254 * i)).take 254 := by
  rw [bodyOf_sector, List.take_take, Nat.min_self, List.drop_append, List.take_append, List.drop_replicate, List.take_replicate]
  congr 2
  rw [List.length_take, List.length_drop]
  omega
theorem parts_flat (F : List UInt8) (k : Nat) : ((List.range k).map fun i => (F.drop (254 * i)).take 254).flatten = F.take (254 * k) := by
  induction k with
  | zero => simp
  | succ k ih =>
    rw [List.range_succ, List.map_append, List.flatten_append, ih]
    simp only [List.map_cons, List.map_nil, List.flatten_cons, List.flatten_nil, List.append_nil]
    rw [show 254 * (k + 1) = 254 * k + 254 from by omega, List.take_add]
theorem pages_bounds (n : Nat) : n + 8 ≤ 254 * pagesN n ∧ 254 * pagesN n < n + 8 + 254 ∧ 1 ≤ pagesN n := by
  unfold pagesN
  omega
theorem secs_flat (s : Nat) (p : List UInt8) : ((secs s p).map bodyOf).flatten = Crc.frm s p ++ List.replicate (254 * pagesN p.length - (p.length + 8)) 0 := by
  have hb := pages_bounds p.length
  have hl := Crc.frm_length s p
  obtain ⟨f, hf⟩ : ∃ f, Crc.frm s p = f := ⟨_, rfl⟩
  obtain ⟨K, hK⟩ : ∃ K, pagesN p.length = K := ⟨_, rfl⟩
  unfold secs
  rw [hf] at hl
  rw [hf, hK]
  rw [hK] at hb
  have e : (((List.range K).map fun i => sector 165 ((f.drop (254 * i)).take 254)).map bodyOf) = (List.range K).map fun i => ((f ++ List.replicate (254 * K - (p.length + 8)) 0).drop (254 * i)).take 254 := by
    rw [List.map_map]
    refine List.map_congr_left fun i hi => ?_
    have := List.mem_range.1 hi
    exact chunk_pad f _ i (.inr (by omega))
  rw [e, parts_flat, List.take_of_length_le (by simp; omega)]
theorem frm_blank (s : Nat) (p m : List UInt8) (h0 : p.length ≠ 0) (hl : p.length < 4294967296) : isBlank (Crc.frm s p ++ m) = false := by
  have hh := frm_head s p hl
  rcases hb : isBlank (Crc.frm s p ++ m) with _ | _
  · rfl
  · exfalso
    unfold isBlank at hb
    rw [List.all_eq_true] at hb
    have e : headOf (Crc.frm s p) = 0 := by
      unfold headOf
      have hz : ∀ k, k ≤ 4 → valK (Crc.frm s p) k = 0 := by
        intro k hk
        induction k with
        | zero => rfl
        | succ k ih =>
          have hlen : k < (Crc.frm s p).length := by rw [Crc.frm_length]; omega
          have h1 := hb ((Crc.frm s p)[k]) (List.mem_append_left _ (List.getElem_mem hlen))
          simp only [decide_eq_true_eq] at h1
          unfold valK
          rw [ih (by omega), List.getD_eq_getElem?_getD, List.getElem?_eq_getElem hlen, Option.getD_some, h1]
          simp
      exact hz 4 (Nat.le_refl _)
    omega
/-- The record that stands at the front of a run is found. -/
theorem rec_front (s : Nat) (p m : List UInt8) (hl : p.length ≤ 100000) : recOf s (Crc.frm s p ++ m) = some p := by
  have h1 := nxt_frm s s p m hl
  have h2 := (nxt_frm_body s p m hl).2
  unfold recOf
  rcases hb : isBlank (Crc.frm s p ++ m) with _ | _
  · rw [hb] at h1
    simp only [Bool.false_eq_true, if_false, ne_eq, not_true_eq_false] at h1
    rw [if_pos h1, h2]
  · have h0 : p = [] := by
      rcases Nat.eq_zero_or_pos p.length with h | h
      · exact List.eq_nil_of_length_eq_zero h
      · rw [frm_blank s p m (by omega) (by omega)] at hb
        cases hb
    subst h0
    rw [hb] at h1
    simp only [if_true] at h1
    rw [if_neg (by omega), if_pos (List.isPrefixOf_iff_prefix.2 (List.prefix_append _ _))]
theorem rec_nil (s : Nat) : recOf s [] = none := by
  unfold recOf nxtErr
  rw [if_pos (show isBlank [] = true from rfl), if_neg (by decide), if_neg]
  intro h
  have h1 := (List.isPrefixOf_iff_prefix.1 h).length_le
  rw [Crc.frm_length] at h1
  simp at h1
theorem founds_laid (g : Nat) (L : List (List UInt8)) (h : ∀ p ∈ L, p.length ≤ 100000) : ∀ k, Founds g k ((secsL g k L).map bodyOf).flatten L := by
  induction L with
  | nil => intro k; exact .stop (rec_nil _)
  | cons p L ih =>
    intro k
    have e : ((secsL g k (p :: L)).map bodyOf).flatten = (Crc.frm (seedN g k) p ++ List.replicate (254 * pagesN p.length - (p.length + 8)) 0) ++ ((secsL g (k + 1) L).map bodyOf).flatten := by
      show ((secs (seedN g k) p ++ secsL g (k + 1) L).map bodyOf).flatten = _
      rw [List.map_append, List.flatten_append, secs_flat]
    have hb := pages_bounds p.length
    refine .more (b := p) ?_ ?_
    · rw [e, List.append_assoc]
      exact rec_front _ p _ (h p (List.mem_cons_self ..))
    · rw [e, List.drop_left' (by rw [List.length_append, Crc.frm_length, List.length_replicate]; omega)]
      exact ih (fun q hq => h q (List.mem_cons_of_mem _ hq)) (k + 1)
theorem preL_eq (fl : List (List UInt8)) (ws : List (Nat × List UInt8)) (a : Nat) (S : List (List UInt8)) : (∀ i, i < S.length → now fl ws (a + i) = S.getD i zeros) → preL fl ws a S.length = (S.map bodyOf).flatten := by
  intro h
  have hk : ∀ k, k ≤ S.length → preL fl ws a k = ((S.take k).map bodyOf).flatten := by
    intro k
    induction k with
    | zero => intro _; simp [preL]
    | succ k ih =>
      intro hk
      unfold preL
      rw [ih (by omega), h k (by omega), List.take_succ_eq_append_getElem (by omega), List.map_append, List.flatten_append, List.getD_eq_getElem?_getD, List.getElem?_eq_getElem (by omega)]
      simp
  rw [hk _ (Nat.le_refl _), List.take_length]
theorem secs_mark (g : Nat) (L : List (List UInt8)) : ∀ k, ∀ s ∈ secsL g k L, markOf s = 165 := by
  induction L with
  | nil => intro k s hs; cases hs
  | cons p L ih =>
    intro k s hs
    rcases List.mem_append.1 hs with hs | hs
    · obtain ⟨i, -, rfl⟩ := List.mem_map.1 hs
      exact markOf_sector _ _
    · exact ih (k + 1) s hs
/-- Records stand in a half, noughts behind them. -/
def Stands (fl : List (List UInt8)) (ws : List (Nat × List UInt8)) (a N g : Nat) (L : List (List UInt8)) : Prop :=
  usedN L ≤ N ∧ (∀ p ∈ L, p.length ≤ 100000) ∧ ∀ i, i < N → now fl ws (a + i) = (secsL g 0 L).getD i zeros
theorem Stands.found {fl : List (List UInt8)} {ws : List (Nat × List UInt8)} {a N g j : Nat} {L M : List (List UInt8)} (h : Stands fl ws a N g L) (hj : j ≤ N) (hm : ∀ i, i < j → markOf (now fl ws (a + i)) = 165)
    (he : j = N ∨ markOf (now fl ws (a + j)) ≠ 165) (hM : Founds g 0 (preL fl ws a j) M) : j = usedN L ∧ M = L := by
  obtain ⟨h1, h2, h3⟩ := h
  have hl := secsL_len g L 0
  have hju : j = usedN L := by
    rcases Nat.lt_trichotomy j (usedN L) with h | h | h
    · rcases he with he | he
      · omega
      · exfalso
        apply he
        rw [h3 j (by omega), List.getD_eq_getElem?_getD, List.getElem?_eq_getElem (by omega)]
        exact secs_mark g L 0 _ (List.getElem_mem _)
    · exact h
    · have e := hm (usedN L) h
      rw [h3 _ (by omega), List.getD_eq_getElem?_getD, List.getElem?_eq_none (by omega)] at e
      exact absurd (markOf_zeros.symm.trans e) (by decide)
  refine ⟨hju, ?_⟩
  subst hju
  rw [← hl, preL_eq fl ws a (secsL g 0 L) (fun i hi => h3 i (by omega))] at hM
  exact hM.one (founds_laid g L h2 0)
end Go.Proofs.Ytbaenpgjggojaaa
namespace Go.Proofs.Ytbaenpgjggojaaa
open Go.ChangeShapes Go.WideShapes Go.RowKit

section
variable {w w' : World} {base d : Nat} {o : Nat → Prop} {fl : List (List UInt8)} {ws : List (Nat × List UInt8)} {left : Int}
/-- A drum's blocks are cells. -/
theorem Dr.cells (h : Dr w base d o fl ws left) : ∀ i, o i → ∃ b : Obj, w.heap[i]? = some b ∧ b.isCells = true := by
  obtain ⟨f, g, V, cv, T, ls, h, -, rfl⟩ := h
  rintro i (e | e | e | ⟨a, e, rfl⟩)
  · subst e; exact ⟨_, h.head, rfl⟩
  · subst e; exact ⟨_, h.rows, rfl⟩
  · subst e; exact ⟨_, h.last, rfl⟩
  · subst e
    rcases h.row.2 with ⟨e, -⟩ | ⟨g, cap, cur, e, -, h3, -⟩
    · cases e
    · injection e with e1
      injection e1 with e1
      subst e1
      exact ⟨_, h3, rfl⟩
theorem kept_grown {row : Option Nat} (hg : w.grownBy w' row) : Kept (fun i => row = some i) w w' := ⟨hg.os, hg.tape, hg.output, hg.size, fun i hi hn => hg.block i hi (fun e => hn e.symm)⟩
theorem Dr.grown (h : Dr w base d o fl ws left) {row : Option Nat} (hg : w.grownBy w' row) (hr : ∀ r, row = some r → ∃ b : Obj, w.heap[r]? = some b ∧ b.isCells = false) : Dr w' base d o fl ws left :=
  h.keep (kept_grown hg) fun i hi e => by
    obtain ⟨b, h1, h2⟩ := h.cells i hi
    obtain ⟨b', h3, h4⟩ := hr i e
    rw [h1] at h3
    injection h3 with h3
    rw [h3, h4] at h2
    cases h2
theorem Kept.from_ {own : Nat → Prop} (h : Kept own w w') (hc : ∀ i, own i → ∃ b : Obj, w.heap[i]? = some b ∧ b.isCells = true) (B : Nat) : KeepsFrom B w w' :=
  ⟨h.size, fun k ob _ hk hob => (h.block k (Array.getElem?_eq_some_iff.1 hk).1 fun hn => by
    obtain ⟨b, h1, h2⟩ := hc k hn
    rw [hk] at h1
    injection h1 with h1
    rw [← h1, hob] at h2
    cases h2).trans hk⟩
theorem below_from {B : Nat} (h : Below w.heap.size w w') : KeepsFrom B w w' := ⟨h.size, fun k _ _ hk _ => (h.block k (Array.getElem?_eq_some_iff.1 hk).1).trans hk⟩
end
/-- Sectors written one behind the other. -/
def putsW (a : Nat) (S : List (List UInt8)) : List (Nat × List UInt8) := S.zipIdx.map fun x => (a + x.2, x.1)
theorem putsW_len (a : Nat) (S : List (List UInt8)) : (putsW a S).length = S.length := by simp [putsW]
theorem putsW_snoc (a : Nat) (S : List (List UInt8)) (s : List UInt8) : putsW a (S ++ [s]) = putsW a S ++ [(a + S.length, s)] := by simp [putsW, List.zipIdx_append]
theorem now_puts (fl : List (List UInt8)) (ws : List (Nat × List UInt8)) (a j : Nat) (S : List (List UInt8)) : ∀ T : List (List UInt8), S = T.reverse → a + S.length ≤ fl.length →
    now fl (ws ++ putsW a S) j = if a ≤ j ∧ j < a + S.length then S.getD (j - a) [] else now fl ws j := by
  intro T
  induction T generalizing S with
  | nil =>
    rintro rfl _
    rw [if_neg (by simp), List.reverse_nil]
    simp [putsW]
  | cons s T ih =>
    rintro rfl hl
    rw [List.reverse_cons] at hl ⊢
    rw [List.length_append, List.length_singleton] at hl
    have ih := ih T.reverse rfl (by omega)
    rw [putsW_snoc, ← List.append_assoc, now_add _ _ _ _ _ (by omega), List.length_append, List.length_singleton]
    by_cases h1 : a + T.reverse.length = j
    · rw [if_pos h1, if_pos (by omega), List.getD_eq_getElem?_getD, List.getElem?_append_right (by omega), show j - a - T.reverse.length = 0 from by omega]
      rfl
    · rw [if_neg h1, ih]
      by_cases h2 : a ≤ j ∧ j < a + T.reverse.length
      · rw [if_pos h2, if_pos (by omega), List.getD_eq_getElem?_getD, List.getD_eq_getElem?_getD, List.getElem?_append_left (by omega)]
      · rw [if_neg h2, if_neg (by omega)]
theorem full_id (l : List UInt8) (h : l.length = 256) : full l = l := by unfold full; rw [h]; simp
/-- A part of a frame, in its block. -/
theorem part_rd {W : World} {b x : Nat} {f : List UInt8} (h : Blk W b 5 (f.map enc8).toArray) : Rd W W.heap.size (some ⟨b, 254 * x, none⟩) ((f.drop (254 * x)).take 254) :=
  h.rd h.lt fun j u hu => by
    rw [List.getElem?_take] at hu
    split at hu
    · rw [List.getElem?_drop] at hu
      rw [List.getElem?_toArray, List.getElem?_map, hu]
      rfl
    · cases hu
def secOf (f : List UInt8) (x : Nat) : List UInt8 := sector 165 ((f.drop (254 * x)).take 254)
/-- Between two rounds. -/
def AppI (w : World) (base d a tb : Nat) (o : Nat → Prop) (fl : List (List UInt8)) (ws : List (Nat × List UInt8)) (f : List UInt8) (pre : List Nat) (W : World) : Prop :=
  (∃ o', Dr W base d o' fl (ws ++ putsW a (pre.map (secOf f))) (-1) ∧ ∀ i, i < w.heap.size → o' i → o i) ∧ Blk W tb 3 #[.int .i64 ((a + pre.length : Nat) : Int)] ∧ Kept (fun i => o i ∨ i = tb) w W
theorem appI_own (w : World) (base d a tb : Nat) (o : Nat → Prop) (fl : List (List UInt8)) (ws : List (Nat × List UInt8)) (f : List UInt8) : OwnFrom w.heap.size (AppI w base d a tb o fl ws f) := by
  rintro pre W W' row ⟨⟨o', h1, h2⟩, h3, h4⟩ hg hr
  have hk : Kept (fun i => row = some i) W W' := kept_grown hg
  have hne : some tb ≠ row := fun e => by
    obtain ⟨-, b, h5, h6⟩ := hr tb e.symm
    rw [show W.heap[tb]? = _ from h3] at h5
    injection h5 with h5
    rw [← h5] at h6
    cases h6
  refine ⟨⟨o', h1.grown hg (fun r e => (hr r e).2), h2⟩, h3.grown hg hne, h4.trans hk fun i hi e => ?_⟩
  have := (hr i e).1
  omega
end Go.Proofs.Ytbaenpgjggojaaa
