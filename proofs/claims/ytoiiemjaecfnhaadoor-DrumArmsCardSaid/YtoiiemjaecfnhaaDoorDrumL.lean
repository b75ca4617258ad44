/-
  A drum's sectors as cells: a cell of one, some of them laid anew; a drum whose sectors have turned. No condition.
-/
import Derived.Test.YtoiiemjaecfnhaaDoorDrumK
namespace Go.Proofs.YtoiiemjaecfnhaaDoor
open Go.RowKit

theorem flatS_get (fl : List (List UInt8)) (h : ∀ s ∈ fl, s.length = 256) (tf : Array Value) (n : Nat) :
    (flatS fl ++ tf)[n]? = if n < fl.length * 256 then some (enc8 ((fl.getD (n / 256) []).getD (n % 256) 0)) else tf[n - fl.length * 256]? := by
  by_cases hn : n < fl.length * 256
  · rw [if_pos hn, Array.getElem?_append_left (by rw [flatS_size _ h]; exact hn)]
    have hi : n / 256 < fl.length := by omega
    have hj : n % 256 < 256 := Nat.mod_lt _ (by decide)
    have hl : fl[n / 256].length = 256 := h _ (List.getElem_mem hi)
    have hx := flatten_at 256 (fl.map (List.map enc8)) (fun s hs => by
      obtain ⟨x, hx, rfl⟩ := List.mem_map.1 hs
      rw [List.length_map]; exact h x hx) (n / 256) (fl[n / 256].map enc8) (by rw [List.getElem?_map, List.getElem?_eq_getElem hi]; rfl) (n % 256) hj
    unfold flatS
    rw [List.getElem?_toArray]
    rw [show n / 256 * 256 + n % 256 = n by omega] at hx
    rw [hx, List.getElem?_map, List.getD_eq_getElem?_getD, List.getD_eq_getElem?_getD, List.getElem?_eq_getElem hi, Option.getD_some, List.getElem?_eq_getElem (by omega)]
    rfl
  · rw [if_neg hn, Array.getElem?_append_right (by rw [flatS_size _ h]; omega), flatS_size _ h]
theorem set_full {fl : List (List UInt8)} (h : ∀ s ∈ fl, s.length = 256) (i : Nat) {x : List UInt8} (hx : x.length = 256) : ∀ s ∈ fl.set i x, s.length = 256 := fun s hs => by
  rcases List.mem_or_eq_of_mem_set hs with h' | rfl
  · exact h s h'
  · exact hx
theorem getD_full {fl : List (List UInt8)} (h : ∀ s ∈ fl, s.length = 256) {i : Nat} (hi : i < fl.length) : (fl.getD i []).length = 256 := by
  rw [List.getD_eq_getElem?_getD, List.getElem?_eq_getElem hi]; exact h _ (List.getElem_mem hi)
set_option maxRecDepth 20000 in
theorem flatS_set1 (fl : List (List UInt8)) (h : ∀ s ∈ fl, s.length = 256) (tf : Array Value) (i j : Nat) (x : UInt8) (hi : i < fl.length) (hj : j < 256) :
    (flatS fl ++ tf).setIfInBounds (i * 256 + j) (.int .u8 (x.toNat : Int)) = flatS (fl.set i ((fl.getD i []).set j x)) ++ tf := by
  have hl := getD_full h hi
  have h' := set_full h i (x := (fl.getD i []).set j x) (by rw [List.length_set]; exact hl)
  have hle : i * 256 + 256 ≤ fl.length * 256 := by have := Nat.mul_le_mul_right 256 hi; rw [Nat.succ_mul] at this; omega
  apply Array.ext_getElem?
  intro n
  rw [Array.getElem?_setIfInBounds, flatS_get _ h', flatS_get _ h, List.length_set, Array.size_append, flatS_size _ h]
  by_cases e : i * 256 + j = n
  · subst e
    rw [if_pos rfl, if_pos (by omega), if_pos (by omega), show (i * 256 + j) / 256 = i by omega, show (i * 256 + j) % 256 = j by omega, getD_set _ _ _ _ _ hi, if_pos rfl, getD_set _ _ _ _ _ (by omega), if_pos rfl]
    rfl
  · rw [if_neg e]
    by_cases hn : n < fl.length * 256
    · rw [if_pos hn, if_pos hn, getD_set _ _ _ _ _ hi]
      by_cases e2 : n / 256 = i
      · rw [if_pos e2, getD_set _ _ _ _ _ (by omega), if_neg (by omega), e2]
      · rw [if_neg e2]
    · rw [if_neg hn, if_neg hn]
theorem tear_get (m : Nat) (p s : List UInt8) (hp : p.length = 256) (hs : s.length = 256) (hm : m ≤ 256) (j : Nat) : (tear m p s).getD j 0 = if j < m then p.getD j 0 else s.getD j 0 := by
  unfold tear
  rw [List.getD_eq_getElem?_getD, List.getD_eq_getElem?_getD, List.getD_eq_getElem?_getD]
  by_cases h : j < m
  · rw [if_pos h, List.getElem?_append_left (by rw [List.length_take]; omega), List.getElem?_take, if_pos h]
  · rw [if_neg h, List.getElem?_append_right (by rw [List.length_take]; omega), List.length_take, List.getElem?_drop, show m + (j - min m p.length) = j by omega]
set_option maxRecDepth 20000 in
theorem flatS_splice (fl : List (List UInt8)) (h : ∀ s ∈ fl, s.length = 256) (tf : Array Value) (i m : Nat) (p : List UInt8) (hi : i < fl.length) (hp : p.length = 256) (hm : m ≤ 256) :
    (splice (flatS fl ++ tf).toList (i * 256) ((p.take m).map enc8)).toArray = flatS (fl.set i (tear m p (fl.getD i []))) ++ tf := by
  have hl := getD_full h hi
  have h' := set_full h i (x := tear m p (fl.getD i [])) (tear_length m p _ hp hl)
  have hle : i * 256 + 256 ≤ fl.length * 256 := by have := Nat.mul_le_mul_right 256 hi; rw [Nat.succ_mul] at this; omega
  have hX : ((p.take m).map enc8).length = m := by rw [List.length_map, List.length_take]; omega
  have hC : (flatS fl ++ tf).toList.length = fl.length * 256 + tf.size := by rw [Array.length_toList, Array.size_append, flatS_size _ h]
  apply Array.ext_getElem?
  intro n
  rw [List.getElem?_toArray, splice_at _ _ _ _ (by rw [hX, hC]; omega), hX, flatS_get _ h', List.length_set]
  have q : ∀ n, (flatS fl ++ tf).toList[n]? = (flatS fl ++ tf)[n]? := fun n => Array.getElem?_toList
  rw [q, flatS_get _ h]
  by_cases hn : n < fl.length * 256
  · rw [if_pos hn, if_pos hn, getD_set _ _ _ _ _ hi]
    by_cases e2 : n / 256 = i
    · rw [if_pos e2, tear_get _ _ _ hp hl hm, if_neg (show ¬ n < i * 256 by omega)]
      by_cases hj : n % 256 < m
      · have e3 : n - i * 256 = n % 256 := by omega
        have e4 : p[n % 256]? = some (p.getD (n % 256) 0) := by rw [List.getD_eq_getElem?_getD, List.getElem?_eq_getElem (by omega)]; rfl
        rw [if_pos hj, if_pos (by omega), List.getElem?_map, List.getElem?_take, if_pos (by omega), e3, e4]
        rfl
      · rw [if_neg hj, if_neg (by omega), e2]
    · rw [if_neg e2]
      by_cases h1 : n < i * 256
      · rw [if_pos h1]
      · rw [if_neg h1, if_neg (by omega)]
  · rw [if_neg hn, if_neg hn, if_neg (by omega), if_neg (by omega)]

section
variable {w w' : World} {base d f g : Nat} {V : Option Addr} {cv : Nat} {T : Tails} {fl : List (List UInt8)} {ws : List (Nat × List UInt8)} {ls : List Nat} {left : Int}
/-- A drum whose sectors have turned, and nothing else. -/
theorem Dru.sectors (h : Dru w base d f g V cv T fl ws ls left) {fl' : List (List UInt8)} (hl : fl'.length = fl.length) (hf : ∀ s ∈ fl', s.length = 256) (hg : w.grownBy w' (some f)) (hb : Blk w' f 75 (flatS fl' ++ T.tf)) : Dru w' base d f g V cv T fl' ws ls left where
  head := by rw [hl]; exact h.head.grown hg (fun e => h.far.2.2.2.1 (by injection e))
  rows := hb
  last := h.last.grown hg (fun e => h.far.2.2.2.2.2.1 (by injection e with e; exact e.symm))
  row := h.row.kept hg (by
    cases V with
    | none => exact .inl rfl
    | some a => exact .inr (fun e => (h.far.2.2.2.2.2.2 a rfl).2.1 (by simpa [Value.ownBlock] using e)))
  far := h.far
  len := by rw [hl]; exact h.len
  full := hf
  fullW := h.fullW
  le := h.le
  few := by rw [hl]; exact h.few
  fewW := h.fewW
end
end Go.Proofs.YtoiiemjaecfnhaaDoor
