/-
  The document's drum (a history of deeds) and the drum: they tell the same. Plain mathematics, no condition.
-/
import Derived.Test.YthljcekodlbplaaDoorDrumX
namespace Go.Proofs.YthljcekodlbplaaDoor

/-- A sector as the last deed has it. -/
def rdF (i : Nat) (s : List UInt8) (ds : List (Int × List UInt8)) : List UInt8 := ds.foldl (fun out x => if x.1 = (i : Int) then x.2 else out) s
def rdR (fs : List (List UInt8)) (ds : List (Int × List UInt8)) (i : Nat) : List UInt8 := rdF i (fs.getD i []) ds
/-- The deeds behind the last Flush. -/
def waR (ds : List (Int × List UInt8)) : List (Int × List UInt8) := ds.foldl (fun out x => if x.1 < 0 then [] else out ++ [x]) []
/-- A sector as it is flushed. -/
def sfR (fs : List (List UInt8)) (ds : List (Int × List UInt8)) (i : Nat) : List UInt8 := rdR fs (ds.take (ds.length - (waR ds).length)) i
def up (ws : List (Nat × List UInt8)) : List (Int × List UInt8) := ws.map fun x => ((x.1 : Int), x.2)
theorem up_snoc (ws : List (Nat × List UInt8)) (x : Nat × List UInt8) : up (ws ++ [x]) = up ws ++ [((x.1 : Int), x.2)] := by simp [up]
theorem up_len (ws : List (Nat × List UInt8)) : (up ws).length = ws.length := by simp [up]
theorem rdF_app (i : Nat) (s : List UInt8) (a b : List (Int × List UInt8)) : rdF i s (a ++ b) = rdF i (rdF i s a) b := by
  unfold rdF
  rw [List.foldl_append]
theorem waR_snoc (ds : List (Int × List UInt8)) (x : Int × List UInt8) : waR (ds ++ [x]) = if x.1 < 0 then [] else waR ds ++ [x] := by
  unfold waR
  rw [List.foldl_append]
  rfl
theorem snocI {α : Type} {p : List α → Prop} (h0 : p []) (h1 : ∀ l x, p l → p (l ++ [x])) : ∀ l, p l := by
  intro l
  have : ∀ r : List α, p r.reverse := by
    intro r
    induction r with
    | nil => exact h0
    | cons x r ih => rw [List.reverse_cons]; exact h1 _ _ ih
  simpa using this l.reverse
theorem waR_end : ∀ ds : List (Int × List UInt8), ∃ p, ds = p ++ waR ds := by
  intro ds
  induction ds using snocI with
  | h0 => exact ⟨[], rfl⟩
  | h1 ds x ih =>
    obtain ⟨p, hp⟩ := ih
    rw [waR_snoc]
    split
    · exact ⟨ds ++ [x], by simp⟩
    · exact ⟨p, by rw [← List.append_assoc, ← hp]⟩
theorem waR_up (ws : List (Nat × List UInt8)) : waR (up ws) = up ws := by
  induction ws using snocI with
  | h0 => rfl
  | h1 ws x ih =>
    rw [up_snoc, waR_snoc, ih, if_neg (by simp)]
/-- What is read is what is flushed, and what waits. -/
theorem rdR_split (fs : List (List UInt8)) (ds : List (Int × List UInt8)) (i : Nat) : rdR fs ds i = rdF i (sfR fs ds i) (waR ds) := by
  obtain ⟨p, hp⟩ := waR_end ds
  have e : ds.take (ds.length - (waR ds).length) = p := by
    have hl : ds.length = p.length + (waR ds).length := by rw [← List.length_append, ← hp]
    rw [show ds.length - (waR ds).length = p.length by omega]
    conv => lhs; rw [hp]
    simp
  unfold sfR rdR
  rw [e, ← rdF_app, ← hp]
/-- Sectors behind writes, one by one. -/
theorem app_at (ws : List (Nat × List UInt8)) : ∀ (fl : List (List UInt8)) (i : Nat), i < fl.length → (app fl ws).getD i [] = rdF i (fl.getD i []) (up ws) := by
  induction ws using snocI with
  | h0 => intro fl i _; rfl
  | h1 ws x ih =>
    intro fl i hi
    rw [app_add, up_snoc, rdF_app, ← ih fl i hi]
    have hl : i < (app fl ws).length := by rw [app_length]; exact hi
    by_cases h : x.1 = i
    · subst h
      rw [getD_set _ _ _ _ _ hl, if_pos rfl]
      show _ = if _ then _ else _
      rw [if_pos rfl]
    · show _ = if _ then _ else _
      rw [if_neg (show ¬ (x.1 : Int) = (i : Int) by omega)]
      rw [List.getD_eq_getElem?_getD, List.getElem?_set_ne h, ← List.getD_eq_getElem?_getD]

/-- A drum, and the document's. -/
structure RelD (fl : List (List UInt8)) (ws : List (Nat × List UInt8)) (fs : List (List UInt8)) (ds : List (Int × List UInt8)) : Prop where
  len : fl.length = fs.length
  wa : waR ds = up ws
  sf : ∀ i, i < fl.length → fl.getD i [] = sfR fs ds i
theorem RelD.now {fl : List (List UInt8)} {ws : List (Nat × List UInt8)} {fs : List (List UInt8)} {ds : List (Int × List UInt8)} (h : RelD fl ws fs ds) {i : Nat} (hi : i < fl.length) : now fl ws i = rdR fs ds i := by
  unfold Go.Proofs.YthljcekodlbplaaDoor.now
  rw [app_at ws fl i hi, rdR_split, h.wa, h.sf i hi]
theorem RelD.dirty {fl : List (List UInt8)} {ws : List (Nat × List UInt8)} {fs : List (List UInt8)} {ds : List (Int × List UInt8)} (h : RelD fl ws fs ds) : ws.length = (waR ds).length := by
  rw [h.wa, up_len]
theorem sfR_snoc {fs : List (List UInt8)} {ds : List (Int × List UInt8)} {x : Int × List UInt8} (hx : ¬ x.1 < 0) (i : Nat) : sfR fs (ds ++ [x]) i = sfR fs ds i := by
  have hle : (waR ds).length ≤ ds.length := by
    obtain ⟨p, hp⟩ := waR_end ds
    have hl : ds.length = p.length + (waR ds).length := by rw [← List.length_append, ← hp]
    omega
  unfold sfR
  rw [waR_snoc, if_neg hx, List.length_append, List.length_append, show [x].length = 1 from rfl, show ds.length + 1 - ((waR ds).length + 1) = ds.length - (waR ds).length by omega, List.take_append_of_le_length (by omega)]
/-- A write. -/
theorem RelD.write {fl : List (List UInt8)} {ws : List (Nat × List UInt8)} {fs : List (List UInt8)} {ds : List (Int × List UInt8)} (h : RelD fl ws fs ds) (i : Nat) (p : List UInt8) : RelD fl (ws ++ [(i, p)]) fs (ds ++ [((i : Int), p)]) := by
  refine ⟨h.len, ?_, fun j hj => ?_⟩
  · rw [waR_snoc, if_neg (by simp), h.wa, up_snoc]
  · rw [sfR_snoc (by simp), h.sf j hj]
/-- A flush. -/
theorem RelD.flush {fl : List (List UInt8)} {ws : List (Nat × List UInt8)} {fs : List (List UInt8)} {ds : List (Int × List UInt8)} (h : RelD fl ws fs ds) (p : List UInt8) : RelD (app fl ws) [] fs (ds ++ [(-1, p)]) := by
  refine ⟨by rw [app_length]; exact h.len, ?_, fun j hj => ?_⟩
  · rw [waR_snoc, if_pos (by simp)]
    rfl
  · rw [app_length] at hj
    rw [show (app fl ws).getD j [] = Go.Proofs.YthljcekodlbplaaDoor.now fl ws j from rfl, h.now hj]
    unfold sfR
    rw [waR_snoc, if_pos (by simp), show ([] : List (Int × List UInt8)).length = 0 from rfl, Nat.sub_zero, List.take_of_length_le (Nat.le_refl _)]
    unfold rdR
    rw [rdF_app]
    show rdF j (fs.getD j []) ds = if (-1 : Int) = (j : Int) then p else rdF j (fs.getD j []) ds
    rw [if_neg (by omega)]
/-- What was flushed is first now, and what waits is all. -/
theorem RelD.self (fl : List (List UInt8)) (ws : List (Nat × List UInt8)) : RelD fl ws fl (up ws) := by
  refine ⟨rfl, waR_up ws, fun i _ => ?_⟩
  unfold sfR
  rw [waR_up, Nat.sub_self]
  rfl
/-- The document's fall: the sectors, the last one kept, what it was. -/
def rfK (fl : List (List UInt8)) (ws : List (Nat × List UInt8)) (keep : List Bool) : Nat → List (List UInt8) × Option Nat × List UInt8
  | 0 => (fl, none, [])
  | k + 1 => if keep.getD k false then ((rfK fl ws keep k).1.set (ws.getD k (0, [])).1 (ws.getD k (0, [])).2, some (ws.getD k (0, [])).1, (rfK fl ws keep k).1.getD (ws.getD k (0, [])).1 []) else rfK fl ws keep k
def rfOf (fl : List (List UInt8)) (ws : List (Nat × List UInt8)) (keep : List Bool) (torn : Int) : List (List UInt8) :=
  match rfK fl ws keep ws.length with
  | (x, none, _) => x
  | (x, some a, was) => if 0 ≤ torn ∧ torn < 256 then x.set a ((x.getD a []).take torn.toNat ++ was.drop torn.toNat) else x
theorem rfK_len (fl : List (List UInt8)) (ws : List (Nat × List UInt8)) (keep : List Bool) : ∀ k, (rfK fl ws keep k).1.length = fl.length := by
  intro k
  induction k with
  | zero => rfl
  | succ k ih =>
    unfold rfK
    split
    · rw [List.length_set, ih]
    · exact ih
/-- Ahead of the last one kept all go over whole. -/
theorem fall_rf {fl : List (List UInt8)} {ws : List (Nat × List UInt8)} {keep : List Bool} (torn : Int) (t : Nat) (hf : ∀ s ∈ fl, s.length = 256) (hw : ∀ x ∈ ws, x.2.length = 256) (ha : ∀ x ∈ ws, x.1 < fl.length) : ∀ k, k < t → k ≤ ws.length → fallK fl ws keep torn t k = (rfK fl ws keep k).1 := by
  intro k
  induction k with
  | zero => intro _ _; rfl
  | succ k ih =>
    intro hk hkl
    have ih := ih (by omega) (by omega)
    unfold fallK rfK
    by_cases hq : keep.getD k false = true
    · rw [if_pos hq, if_pos hq]
      have hh : howM torn t k = 256 := by
        unfold howM
        rw [if_neg (by omega)]
      have e : ws.getD k (0, []) = ws[k] := by rw [List.getD_eq_getElem?_getD, List.getElem?_eq_getElem hkl]; rfl
      have hs := fallK_full keep torn t hf hw ha k (by omega)
      have h1 : ws[k].1 < (fallK fl ws keep torn t k).length := by rw [fallK_length]; exact ha _ (List.getElem_mem _)
      rw [hh, e, tear_all _ _ (hw _ (List.getElem_mem _)) (by rw [List.getD_eq_getElem?_getD, List.getElem?_eq_getElem h1]; exact hs _ (List.getElem_mem _)), ih]
    · rw [if_neg hq, if_neg hq, ih]
/-- Behind the last one kept nothing goes over. -/
theorem rf_rest {fl : List (List UInt8)} {ws : List (Nat × List UInt8)} {keep : List Bool} : ∀ m t, lastOf keep m = t → rfK fl ws keep m = rfK fl ws keep t := by
  intro m
  induction m with
  | zero => intro t h; rw [← h]; rfl
  | succ m ih =>
    intro t h
    unfold lastOf at h
    by_cases hq : keep.getD m false = true
    · rw [if_pos hq] at h
      rw [← h]
    · rw [if_neg hq] at h
      rw [← ih t h]
      conv => lhs; unfold rfK
      rw [if_neg hq]
theorem last_keep {keep : List Bool} : ∀ m t, lastOf keep m = t + 1 → keep.getD t false = true := by
  intro m
  induction m with
  | zero => intro t h; cases h
  | succ m ih =>
    intro t h
    unfold lastOf at h
    by_cases hq : keep.getD m false = true
    · rw [if_pos hq] at h
      obtain rfl : m = t := by omega
      exact hq
    · rw [if_neg hq] at h
      exact ih t h
theorem last_min (keep : List Bool) : ∀ m, lastOf keep m = lastOf keep (min m keep.length) := by
  intro m
  induction m with
  | zero => simp
  | succ m ih =>
    by_cases h : m < keep.length
    · rw [Nat.min_eq_left (by omega)]
    · rw [Nat.min_eq_right (by omega)]
      rw [Nat.min_eq_right (by omega)] at ih
      show (if keep.getD m false then m + 1 else lastOf keep m) = _
      rw [if_neg (by rw [List.getD_eq_getElem?_getD, List.getElem?_eq_none (by omega)]; simp)]
      exact ih
/-- THE FALL: the drum's is the document's. -/
theorem fallOf_rf {fl : List (List UInt8)} {ws : List (Nat × List UInt8)} {keep : List Bool} (torn : Int) (hf : ∀ s ∈ fl, s.length = 256) (hw : ∀ x ∈ ws, x.2.length = 256) (ha : ∀ x ∈ ws, x.1 < fl.length) : fallOf fl ws keep torn = rfOf fl ws keep torn := by
  unfold fallOf rfOf
  rw [← last_min keep ws.length]
  cases hT : lastOf keep ws.length with
  | zero =>
    rw [rf_rest ws.length 0 hT]
    rfl
  | succ t =>
    have hle : t + 1 ≤ ws.length := by rw [← hT]; exact lastOf_le _ _
    have hq := last_keep ws.length t hT
    rw [rf_rest ws.length (t + 1) hT]
    have e0 := fall_rf (keep := keep) torn (t + 1) hf hw ha t (by omega) (by omega)
    have e : ws.getD t (0, []) = ws[t] := by rw [List.getD_eq_getElem?_getD, List.getElem?_eq_getElem hle]; rfl
    unfold fallK rfK
    rw [if_pos hq, if_pos hq, e0, e]
    have h1 : ws[t].1 < (rfK fl ws keep t).1.length := by rw [rfK_len]; exact ha _ (List.getElem_mem _)
    have hp := hw _ (List.getElem_mem (h := hle) )
    have hs := fallK_full keep torn (t + 1) hf hw ha t (by omega)
    rw [e0] at hs
    have hq2 : ((rfK fl ws keep t).1.getD ws[t].1 []).length = 256 := by
      rw [List.getD_eq_getElem?_getD, List.getElem?_eq_getElem h1]
      exact hs _ (List.getElem_mem _)
    dsimp only
    by_cases ht : 0 ≤ torn ∧ torn < 256
    · rw [if_pos ht]
      have hh : howM torn (t + 1) t = torn.toNat := by unfold howM; rw [if_pos ⟨rfl, ht⟩]
      rw [hh, List.set_set, getD_set _ _ _ _ _ h1, if_pos rfl]
      rfl
    · rw [if_neg ht]
      have hh : howM torn (t + 1) t = 256 := by unfold howM; rw [if_neg (fun h => ht h.2)]
      rw [hh, tear_all _ _ hp hq2]
end Go.Proofs.YthljcekodlbplaaDoor
