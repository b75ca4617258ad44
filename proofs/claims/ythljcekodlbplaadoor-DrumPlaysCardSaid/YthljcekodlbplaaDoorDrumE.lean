/-
  A drum whole in memory: its sectors, its writes that wait, the places of the last ones; what seen tells of it.
-/
import Derived.Test.YthljcekodlbplaaDoorDrumD
import Derived.Test.YthljcekodlbplaaDoorDrM
namespace Go.Proofs.YthljcekodlbplaaDoor
open Go.RowKit

theorem flatten_at {α : Type} (k : Nat) : ∀ (L : List (List α)) (_ : ∀ s ∈ L, s.length = k) (i : Nat) (s : List α) (_ : L[i]? = some s) (j : Nat) (_ : j < k), L.flatten[i * k + j]? = s[j]?
  | [], _, i, s, hs, _, _ => by simp at hs
  | x :: L, h, 0, s, hs, j, hj => by
    have hx : x.length = k := h x (List.mem_cons_self ..)
    simp only [List.getElem?_cons_zero, Option.some.injEq] at hs
    subst hs
    rw [Nat.zero_mul, Nat.zero_add, List.flatten_cons, List.getElem?_append_left (by omega)]
  | x :: L, h, i + 1, s, hs, j, hj => by
    have hx : x.length = k := h x (List.mem_cons_self ..)
    rw [List.getElem?_cons_succ] at hs
    have e : (i + 1) * k + j = k + (i * k + j) := by rw [Nat.succ_mul]; omega
    rw [e, List.flatten_cons, List.getElem?_append_right (by omega), hx, Nat.add_sub_cancel_left]
    exact flatten_at k L (fun s hs => h s (List.mem_cons_of_mem _ hs)) i s hs j hj

/-- A write as cells: its sector's number, its bytes. -/
def encW (x : Nat × List UInt8) : List Value := .int .i64 (x.1 : Int) :: x.2.map enc8
def flatW (ws : List (Nat × List UInt8)) : List Value := (ws.map encW).flatten
def flatS (fl : List (List UInt8)) : Array Value := (fl.map (List.map enc8)).flatten.toArray
def encI (ls : List Nat) : Array Value := (ls.map fun k : Nat => Value.int .i64 (k : Int)).toArray

/-- What lies behind a drum's sectors, and behind the places of the last writes. -/
structure Tails where
  cf : Nat
  cl : Nat
  tf : Array Value
  tg : Array Value

theorem flatS_size (fl : List (List UInt8)) (h : ∀ s ∈ fl, s.length = 256) : (flatS fl).size = fl.length * 256 := by
  unfold flatS
  rw [List.size_toArray, List.length_flatten, List.map_map]
  induction fl with
  | nil => rfl
  | cons s fl ih =>
    rw [List.map_cons, List.sum_cons, ih (fun s hs => h s (List.mem_cons_of_mem _ hs)), Function.comp_apply, List.length_map, h s (List.mem_cons_self ..), List.length_cons]
    omega
theorem encI_size (ls : List Nat) : (encI ls).size = ls.length := by unfold encI; rw [List.size_toArray, List.length_map]

structure Dru (w : World) (base d f g : Nat) (V : Option Addr) (cv : Nat) (T : Tails) (fl : List (List UInt8)) (ws : List (Nat × List UInt8)) (ls : List Nat) (left : Int) : Prop where
  head : Blk w d 77 (dhead (some ⟨f, 0, none⟩) fl.length T.cf V ws.length cv (some ⟨g, 0, none⟩) fl.length T.cl left)
  rows : Blk w f 73 (flatS fl ++ T.tf)
  last : Blk w g 3 (encI ls ++ T.tg)
  row : w.ownsRow base 80 257 (.slice V ws.length cv) ws.length (flatW ws)
  far : base ≤ d ∧ base ≤ f ∧ base ≤ g ∧ d ≠ f ∧ d ≠ g ∧ f ≠ g ∧ ∀ a, V = some a → a.block ≠ d ∧ a.block ≠ f ∧ a.block ≠ g
  len : ls.length = fl.length
  full : ∀ s ∈ fl, s.length = 256
  fullW : ∀ x ∈ ws, x.2.length = 256
  le : ∀ k ∈ ls, k ≤ ws.length
  few : fl.length ≤ 8192
  fewW : ws.length ≤ 1000000

section
variable {w : World} {base d f g : Nat} {V : Option Addr} {cv : Nat} {T : Tails} {fl : List (List UInt8)} {ws : List (Nat × List UInt8)} {ls : List Nat} {left : Int}

theorem Dru.rdS (h : Dru w base d f g V cv T fl ws ls left) (i : Nat) (hi : i < fl.length) : Rd w w.heap.size (some ⟨f, i * 256, none⟩) (fl.getD i []) := by
  refine h.rows.rd h.rows.lt fun j u hu => ?_
  have e : fl.getD i [] = fl[i] := by rw [List.getD_eq_getElem?_getD, List.getElem?_eq_getElem hi]; rfl
  rw [e] at hu
  have hl : fl[i].length = 256 := h.full _ (List.getElem_mem hi)
  have hj : j < 256 := by
    rcases Nat.lt_or_ge j 256 with h' | h'
    · exact h'
    · rw [List.getElem?_eq_none (by omega)] at hu; cases hu
  have hx := flatten_at 256 (fl.map (List.map enc8)) (fun s hs => by
    obtain ⟨x, hx, rfl⟩ := List.mem_map.1 hs
    rw [List.length_map]; exact h.full x hx) i (fl[i].map enc8) (by rw [List.getElem?_map, List.getElem?_eq_getElem hi]; rfl) j hj
  rw [Array.getElem?_append_left (by rw [flatS_size _ h.full]; have := Nat.mul_le_mul_right 256 hi; rw [Nat.succ_mul] at this; omega)]
  unfold flatS
  rw [List.getElem?_toArray, hx, List.getElem?_map, hu]
  rfl
theorem Dru.rdW (h : Dru w base d f g V cv T fl ws ls left) (k : Nat) (hk : k < ws.length) : ∃ v, V = some ⟨v, 0, none⟩ ∧ Rd w w.heap.size (some ⟨v, k * 257 + 1, none⟩) (ws.getD k (0, [])).2 := by
  have hr := h.row
  obtain ⟨v, cap, hv, _, hlt⟩ := hr.form (by omega)
  injection hv with hV _ hc
  subst hV hc
  refine ⟨v, rfl, fun _ => ⟨v, k * 257 + 1, rfl, hlt, fun j u hu => ?_⟩⟩
  have e : ws.getD k (0, []) = ws[k] := by rw [List.getD_eq_getElem?_getD, List.getElem?_eq_getElem hk]; rfl
  rw [e] at hu
  have hl : ws[k].2.length = 256 := h.fullW _ (List.getElem_mem hk)
  have hj : j < 256 := by
    rcases Nat.lt_or_ge j 256 with h' | h'
    · exact h'
    · rw [List.getElem?_eq_none (by omega)] at hu; cases hu
  have hx := flatten_at 257 (ws.map encW) (fun s hs => by
    obtain ⟨x, hx, rfl⟩ := List.mem_map.1 hs
    have := h.fullW x hx
    simp [encW, this]) k (encW ws[k]) (by rw [List.getElem?_map, List.getElem?_eq_getElem hk]; rfl) (j + 1) (by omega)
  have hc := hr.cellAt (k * 257 + 1 + j) (by have := Nat.mul_le_mul_right 257 hk; rw [Nat.succ_mul] at this; omega)
  rw [hc]
  unfold flatW
  rw [show k * 257 + 1 + j = k * 257 + (j + 1) by omega, hx, encW, List.getElem?_cons_succ, List.getElem?_map, hu]
  rfl

/-- seen: where the sector lies as the last write has it. -/
theorem seen_any (i : Nat) (h : Dru w base d f g V cv T fl ws ls left) (hi : i < fl.length) :
    Calls Tryd.prog 38 #[.pointer (some ⟨d, 0, none⟩), .int .i64 (i : Int)] w fun e w' => (∃ b o, e = .returned (.pointer (some ⟨b, o, none⟩)) ∧ Rd w w.heap.size (some ⟨b, o, none⟩) (nowOf fl ws ls i)) ∧ w' = w := by
  have hil : i < ls.length := by rw [h.len]; exact hi
  have hc : w.cell? ⟨g, i, none⟩ = some (.int .i64 ((ls[i] : Nat) : Int)) := by
    rw [h.last.cell, Array.getElem?_append_left (by rw [encI_size]; exact hil)]
    unfold encI
    rw [List.getElem?_toArray, List.getElem?_map, List.getElem?_eq_getElem hil]
    rfl
  have e : ls.getD i 0 = ls[i] := by rw [List.getD_eq_getElem?_getD, List.getElem?_eq_getElem hil]; rfl
  have hle := h.le _ (List.getElem_mem hil)
  unfold nowOf
  rw [e]
  generalize ls[i] = q at hc hle
  rcases q with _ | k
  · refine (seen_still i h.head hi h.few hc).mono ?_
    rintro e w' ⟨rfl, rfl⟩
    exact ⟨⟨_, _, rfl, h.rdS i hi⟩, rfl⟩
  · obtain ⟨v, rfl, hr⟩ := h.rdW k hle
    refine (seen_wait i k h.head hi h.few hle (by have := h.fewW; unfold maxLen; omega) hc).mono ?_
    rintro e w' ⟨rfl, rfl⟩
    exact ⟨⟨_, _, rfl, hr⟩, rfl⟩
end
end Go.Proofs.YthljcekodlbplaaDoor
