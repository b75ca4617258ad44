/-
Values as bytes: what is written, what is read off the front. Plain mathematics, no condition.
A Quill in memory: one cell that holds a row of bytes of the call's own; appends onto it that say where the new row lies. No condition.
A Quill's numbers. Conditions: the Quill is known, what it has written is not too much.
What a Quill writes: Uint, Int, Flag, Text; Done. Conditions: the Quill is known, what it has written is not too much.
Copies: slices.Clone of bytes, a Quill's Done, Look. Conditions: the bytes are there, and not too many.
A Lens: take, spoil, number. Conditions: the Lens is known.
-/
import Derived.Lib.BitFns
import Derived.Lib.ItoaNum
import Derived.Test.YtjlajnackecfgaaGreatDoorAppW9
import Derived.Maps.AppendAt
import Derived.Lib.AppendStr
import Derived.Test.YtjlajnackecfgaaGreatDoorLenW9
import Derived.StillTailTactics
import Derived.IntWalk
import Derived.Deep.RegionHeld3
import Derived.Deep.RegionLaw
namespace Go.Proofs.YtjlajnackecfgaaGreatDoor

/-- The k lowest bytes of n, the highest first. -/
def beK : Nat → Nat → List UInt8
  | 0, _ => []
  | k + 1, n => UInt8.ofNat (n / 256 ^ k % 256) :: beK k n
theorem beK_len (k n : Nat) : (beK k n).length = k := by
  induction k with
  | zero => rfl
  | succ k ih => simp [beK, ih]
theorem beK_snoc (k n : Nat) : beK (k + 1) n = beK k (n / 256) ++ [UInt8.ofNat (n % 256)] := by
  induction k with
  | zero => simp [beK]
  | succ k ih =>
    rw [beK, ih, beK, List.cons_append, Nat.div_div_eq_div_mul, Nat.pow_succ, Nat.mul_comm 256]

@[elab_as_elim]
theorem snoc_ind {α : Type} {p : List α → Prop} (h0 : p []) (h1 : ∀ l a, p l → p (l ++ [a])) (l : List α) : p l := by
  have : ∀ r : List α, p r.reverse := by
    intro r
    induction r with
    | nil => exact h0
    | cons a r ih => rw [List.reverse_cons]; exact h1 _ _ ih
  simpa using this l.reverse

/-- How many bytes a number has. -/
def nb (n : Nat) : Nat := (Lib.bitLen n + 7) / 8
theorem nb_zero : nb 0 = 0 := by decide
theorem nb_small (n : Nat) (h0 : 0 < n) (h1 : n < 256) : nb n = 1 := by
  have h2 := Lib.bitLen_le8 ⟨n, h1⟩
  have h3 := (Lib.bitLenAux_bounds 64 n (by omega) (by omega)).1
  have h4 : 1 ≤ Lib.bitLen n := h3
  simp only at h2
  unfold nb
  omega
theorem nb_step (n : Nat) (h0 : 0 < n) (h1 : n < 18446744073709551616) : nb n = nb (n / 256) + 1 := by
  rcases Nat.lt_or_ge n 256 with h | h
  · rw [nb_small n h0 h, Nat.div_eq_of_lt h, nb_zero]
  · unfold nb
    rw [Lib.bitLen_shift8 n h h1]
    omega
theorem nb_le (n : Nat) (h1 : n < 18446744073709551616) : nb n ≤ 8 := by
  have := Lib.bitLen_le n 64 (by omega) (by simpa using h1)
  unfold nb
  omega
theorem bit_leQ (n : Nat) (h1 : n < 18446744073709551616) : Lib.bitLen n ≤ 64 := Lib.bitLen_le n 64 (by omega) (by simpa using h1)

/-- A number's bytes, the highest first. -/
def digs (n : Nat) : List UInt8 := beK (nb n) n
theorem digs_len (n : Nat) : (digs n).length = nb n := beK_len _ _
theorem digs_zero : digs 0 = [] := by unfold digs; rw [nb_zero]; rfl
theorem digs_step (n : Nat) (h0 : 0 < n) (h1 : n < 18446744073709551616) : digs n = digs (n / 256) ++ [UInt8.ofNat (n % 256)] := by
  unfold digs
  rw [nb_step n h0 h1, beK_snoc]

/-- The number that bytes are. -/
def val (l : List UInt8) : Nat := l.foldl (fun a b => 256 * a + b.toNat) 0
theorem val_snoc (l : List UInt8) (b : UInt8) : val (l ++ [b]) = 256 * val l + b.toNat := by simp [val]
theorem val_lt (l : List UInt8) : val l < 256 ^ l.length := by
  induction l using snoc_ind with
  | h0 => decide
  | h1 l b ih =>
    have hb : b.toNat < 256 := b.toNat_lt
    rw [val_snoc, List.length_append, List.length_singleton, Nat.pow_succ]
    omega
theorem val_lt8 (l : List UInt8) (h : l.length ≤ 8) : val l < 18446744073709551616 :=
  Nat.lt_of_lt_of_le (val_lt l) (Nat.le_trans (Nat.pow_le_pow_right (by decide) h) (by decide))
theorem ofNat_nat (n : Nat) (h : n < 256) : (UInt8.ofNat n).toNat = n := by simp [Nat.mod_eq_of_lt h]
theorem ofNat_toNat (b : UInt8) : UInt8.ofNat b.toNat = b := by simp
theorem val_digs (n : Nat) (h : n < 18446744073709551616) : val (digs n) = n := by
  induction n using Nat.strongRecOn with
  | ind n ih =>
    rcases Nat.eq_zero_or_pos n with h0 | h0
    · subst h0; rw [digs_zero]; rfl
    · rw [digs_step n h0 h, val_snoc, ih (n / 256) (by omega) (by omega), ofNat_nat _ (by omega)]
      omega
theorem digs_head (n : Nat) (h : n < 18446744073709551616) : ∀ b r, digs n = b :: r → b.toNat ≠ 0 := by
  induction n using Nat.strongRecOn with
  | ind n ih =>
    intro b r hb
    rcases Nat.eq_zero_or_pos n with h0 | h0
    · subst h0; rw [digs_zero] at hb; cases hb
    · rw [digs_step n h0 h] at hb
      rcases Nat.eq_zero_or_pos (n / 256) with h2 | h2
      · rw [h2, digs_zero, List.nil_append] at hb
        injection hb with hb _
        rw [← hb, ofNat_nat _ (by omega)]
        omega
      · cases hd : digs (n / 256) with
        | nil =>
          have := digs_len (n / 256)
          rw [hd, nb_step _ h2 (by omega)] at this
          simp at this
        | cons c s =>
          rw [hd, List.cons_append] at hb
          injection hb with hb _
          rw [← hb]
          exact ih (n / 256) (by omega) (by omega) c s hd
theorem val_pos (l : List UInt8) (b : UInt8) (hb : b.toNat ≠ 0) : 0 < val (b :: l) := by
  induction l using snoc_ind with
  | h0 => simp [val]; omega
  | h1 l c ih => rw [← List.cons_append, val_snoc]; omega
theorem digs_val (l : List UInt8) (h8 : l.length ≤ 8) (h0 : ∀ b r, l = b :: r → b.toNat ≠ 0) : digs (val l) = l := by
  induction l using snoc_ind with
  | h0 => exact digs_zero
  | h1 l b ih =>
    have hb : b.toNat < 256 := b.toNat_lt
    have hlt := val_lt8 _ h8
    rw [List.length_append, List.length_singleton] at h8
    have hp : 0 < val (l ++ [b]) := by
      cases l with
      | nil => exact val_pos [] b (h0 b [] rfl)
      | cons c s => exact val_pos (s ++ [b]) c (h0 c (s ++ [b]) rfl)
    rw [digs_step _ hp hlt, val_snoc, show (256 * val l + b.toNat) / 256 = val l by omega, show (256 * val l + b.toNat) % 256 = b.toNat by omega, ofNat_toNat, ih (by omega) (fun c s e => h0 c (s ++ [b]) (by rw [e]; rfl))]

/-- What is written. -/
def layN (m n : Nat) : List UInt8 := UInt8.ofNat (m + nb n) :: digs n
def layI (i : Int) : List UInt8 := if 0 ≤ i then layN 0 i.toNat else layN 128 (-1 - i).toNat
def layF (b : Bool) : List UInt8 := layN 0 (if b then 1 else 0)
def layT (s : List UInt8) : List UInt8 := layN 0 s.length ++ s

/-- A number off the front: is it marked, it, what is left. -/
def numT : List UInt8 → Option (Bool × Nat × List UInt8)
  | [] => none
  | f :: r => if 8 < f.toNat % 128 ∨ r.length < f.toNat % 128 ∨ (0 < f.toNat % 128 ∧ (r.getD 0 0).toNat = 0) then none
    else some (decide (128 ≤ f.toNat), val (r.take (f.toNat % 128)), r.drop (f.toNat % 128))
def takeU (most : Nat) (l : List UInt8) : Option (Nat × List UInt8) :=
  match numT l with
  | some (false, n, r) => if n ≤ most then some (n, r) else none
  | _ => none
def takeI (l : List UInt8) : Option (Int × List UInt8) :=
  match numT l with
  | some (m, n, r) => if n < 9223372036854775808 then some (if m then -1 - (n : Int) else n, r) else none
  | none => none
def takeS (most : Nat) (l : List UInt8) : Option (List UInt8 × List UInt8) :=
  match takeU most l with
  | some (n, r) => if n ≤ r.length then some (r.take n, r.drop n) else none
  | none => none

theorem numT_lt {l : List UInt8} {m : Bool} {n : Nat} {r : List UInt8} (h : numT l = some (m, n, r)) : n < 18446744073709551616 ∧ r.length < l.length := by
  cases l with
  | nil => cases h
  | cons f s =>
    simp only [numT] at h
    split at h
    · cases h
    · rename_i hc
      simp only [Option.some.injEq, Prod.mk.injEq] at h
      obtain ⟨-, h2, h3⟩ := h
      subst h2 h3
      refine ⟨val_lt8 _ (by rw [List.length_take]; omega), ?_⟩
      simp only [List.length_drop, List.length_cons]
      omega
/-- What was written is read again. -/
theorem numT_lay (m n : Nat) (r : List UInt8) (hm : m = 0 ∨ m = 128) (h : n < 18446744073709551616) : numT (layN m n ++ r) = some (decide (m = 128), n, r) := by
  have h8 := nb_le n h
  have hf : (UInt8.ofNat (m + nb n)).toNat = m + nb n := ofNat_nat _ (by omega)
  have e : (m + nb n) % 128 = nb n := by omega
  have hl := digs_len n
  unfold layN
  rw [List.cons_append, numT, hf, e, if_neg ?_]
  · rw [List.take_append_of_le_length (by omega), List.take_of_length_le (by omega), List.drop_append_of_le_length (by omega), List.drop_of_length_le (by omega), val_digs n h, List.nil_append]
    congr 2
    rw [decide_eq_decide]
    omega
  · rw [List.length_append, hl]
    rintro (h | h | ⟨h1, h2⟩)
    · omega
    · omega
    · cases hd : digs n with
      | nil => rw [hd] at hl; simp at hl; omega
      | cons b s =>
        rw [hd] at h2
        exact digs_head n h b s hd (by simpa using h2)
/-- There is one way. -/
theorem numT_one {l : List UInt8} {m : Bool} {n : Nat} {r : List UInt8} (h : numT l = some (m, n, r)) : l = layN (if m then 128 else 0) n ++ r := by
  cases l with
  | nil => cases h
  | cons f s =>
    simp only [numT] at h
    split at h
    · cases h
    · rename_i hc
      simp only [Option.some.injEq, Prod.mk.injEq] at h
      obtain ⟨h1, h2, h3⟩ := h
      have hf : f.toNat < 256 := f.toNat_lt
      have hlen : (s.take (f.toNat % 128)).length = f.toNat % 128 := by rw [List.length_take]; omega
      have hd : digs n = s.take (f.toNat % 128) := by
        rw [← h2]
        refine digs_val _ (by omega) (fun b t e hb => hc (.inr (.inr ⟨?_, ?_⟩)))
        · rw [e] at hlen; simp at hlen; omega
        · cases s with
          | nil => simp at e
          | cons c u =>
            cases hk : f.toNat % 128 with
            | zero => rw [hk] at e; cases e
            | succ k =>
              rw [hk, List.take_succ_cons] at e
              injection e with e _
              simpa [e] using hb
      have hn : nb n = f.toNat % 128 := by rw [← digs_len, hd, hlen]
      unfold layN
      rw [hd, hn, ← h3, List.cons_append, List.take_append_drop]
      congr 1
      apply UInt8.toNat_inj.1
      rw [← h1]
      by_cases h9 : 128 ≤ f.toNat
      · rw [decide_eq_true h9, if_pos rfl, ofNat_nat _ (by omega)]
        omega
      · rw [decide_eq_false h9, if_neg (by simp), ofNat_nat _ (by omega)]
        omega
end Go.Proofs.YtjlajnackecfgaaGreatDoor
namespace Go.Proofs.YtjlajnackecfgaaGreatDoor
open Go.RowKit

/-- What a change of a Quill in block q with its bytes in block r leaves as it was. -/
def Far (w w' : World) (q : Nat) (r : Option Nat) : Prop := w'.os = w.os ∧ w'.tape = w.tape ∧ w'.output = w.output ∧ w.heap.size ≤ w'.heap.size ∧ ∀ i, i < w.heap.size → i ≠ q → r ≠ some i → w'.heap[i]? = w.heap[i]?
/-- Where the bytes lie now: where they lay, or in a new block. -/
def Stays (w : World) (r r' : Option Nat) : Prop := r' = r ∨ ∃ g, r' = some g ∧ w.heap.size ≤ g
theorem Far.refl (w : World) (q : Nat) (r : Option Nat) : Far w w q r := ⟨rfl, rfl, rfl, Nat.le_refl _, fun _ _ _ _ => rfl⟩
theorem Stays.refl (w : World) (r : Option Nat) : Stays w r r := .inl rfl
theorem Far.trans {a b c : World} {q : Nat} {r r' : Option Nat} (h : Far a b q r) (k : Far b c q r') (hs : Stays a r r') : Far a c q r :=
  ⟨k.1.trans h.1, k.2.1.trans h.2.1, k.2.2.1.trans h.2.2.1, Nat.le_trans h.2.2.2.1 k.2.2.2.1, fun i hi h1 h2 => (k.2.2.2.2 i (Nat.lt_of_lt_of_le hi h.2.2.2.1) h1 (by
    rcases hs with rfl | ⟨g, rfl, hg⟩
    · exact h2
    · intro e; injection e with e; omega)).trans (h.2.2.2.2 i hi h1 h2)⟩
theorem Stays.trans {a b : World} {r r' r'' : Option Nat} (h : Stays a r r') (k : Stays b r' r'') (hs : a.heap.size ≤ b.heap.size) : Stays a r r'' := by
  rcases k with rfl | ⟨g, rfl, hg⟩
  · exact h
  · exact .inr ⟨g, rfl, by omega⟩
theorem Far.alloc {a w : World} {q : Nat} {r : Option Nat} (h : Far a w q r) (o : Obj) : Far a (w.alloc o) q r :=
  ⟨h.1, h.2.1, h.2.2.1, Nat.le_trans h.2.2.2.1 (by simp), fun i hi h1 h2 => (Below.heap_alloc w o i (Nat.lt_of_lt_of_le hi h.2.2.2.1)).trans (h.2.2.2.2 i hi h1 h2)⟩
theorem Far.drew {a w : World} {q : Nat} {r : Option Nat} (h : Far a w q r) : Far a w.drew q r := h
theorem Far.grown {a w w' : World} {q : Nat} {r : Option Nat} (h : Far a w q r) (hg : w.grownBy w' r) : Far a w' q r :=
  ⟨hg.os.trans h.1, hg.tape.trans h.2.1, hg.output.trans h.2.2.1, Nat.le_trans h.2.2.2.1 hg.size, fun i hi h1 h2 => (hg.block i (Nat.lt_of_lt_of_le hi h.2.2.2.1) (fun e => h2 e.symm)).trans (h.2.2.2.2 i hi h1 h2)⟩
theorem Far.set {a w : World} {q : Nat} {r : Option Nat} (h : Far a w q r) (i : Nat) (u : Value) : Far a (w.setCell ⟨q, i, none⟩ u) q r :=
  ⟨h.1, h.2.1, h.2.2.1, by simpa [World.setCell] using h.2.2.2.1, fun j hj h1 h2 => (Below.heap_setCell w ⟨q, i, none⟩ u j h1).trans (h.2.2.2.2 j hj h1 h2)⟩
theorem Far.below {a w w' : World} {q : Nat} {r : Option Nat} (h : Far a w q r) (hb : Below w.heap.size w w') : Far a w' q r :=
  ⟨hb.os.trans h.1, hb.tape.trans h.2.1, hb.output.trans h.2.2.1, Nat.le_trans h.2.2.2.1 hb.size, fun i hi h1 h2 => (hb.block i (Nat.lt_of_lt_of_le hi h.2.2.2.1)).trans (h.2.2.2.2 i hi h1 h2)⟩
theorem Far.to_below {B : Nat} {a w w' : World} {q : Nat} {r : Option Nat} (h : Far w w' q r) (ha : Below B a w) (hB : B ≤ w.heap.size) (hq : B ≤ q) (hr : ∀ g, r = some g → B ≤ g) : Below B a w' :=
  ⟨h.1.trans ha.os, h.2.1.trans ha.tape, h.2.2.1.trans ha.output, Nat.le_trans ha.size h.2.2.2.1, fun i hi => (h.2.2.2.2 i (Nat.lt_of_lt_of_le hi hB) (by omega) (fun e => by have := hr i e; omega)).trans (ha.block i hi)⟩
theorem Blk.past {w w' : World} {g q : Nat} {r : Option Nat} {t : TypeId} {cs : Array Value} (h : Blk w g t cs) (hf : Far w w' q r) (h1 : g ≠ q) (h2 : r ≠ some g) : Blk w' g t cs := (hf.2.2.2.2 g h.lt h1 h2).trans h

/-- A Quill in block q has written l; its bytes lie in block r. -/
def Qu (w : World) (B q : Nat) (r : Option Nat) (l : List UInt8) : Prop := B ≤ q ∧ ∃ v, Blk w q 66 #[v] ∧ OwnB w B v l.length l ∧ v.ownBlock = r
theorem Qu.row {w : World} {B q : Nat} {r : Option Nat} {l : List UInt8} (h : Qu w B q r l) : ∀ g, r = some g → B ≤ g ∧ g < w.heap.size := by
  obtain ⟨_, v, _, ho, rfl⟩ := h
  exact fun g hg => World.ownsRow.lt ho g hg
theorem Qu.lt {w : World} {B q : Nat} {r : Option Nat} {l : List UInt8} (h : Qu w B q r l) : q < w.heap.size := by
  obtain ⟨_, v, hb, _, _⟩ := h
  exact hb.lt
theorem own_apart {w : World} {B n q : Nat} {v : Value} {l : List UInt8} {t : TypeId} {cs : Array Value} (ho : OwnB w B v n l) (hb : Blk w q t cs) (ht : t ≠ 5) : v.ownBlock ≠ some q := by
  intro e
  unfold OwnB at ho
  rcases ho.2 with ⟨rfl, _⟩ | ⟨g, cap, cur, rfl, _, e1, _⟩
  · simp [Value.ownBlock] at e
  · simp only [Value.ownBlock, Option.some.injEq] at e
    subst e
    unfold Blk at hb
    rw [e1] at hb
    simp at hb
    exact ht hb.2.symm
theorem Qu.apart {w : World} {B q : Nat} {r : Option Nat} {l : List UInt8} (h : Qu w B q r l) : r ≠ some q := by
  obtain ⟨_, v, hb, ho, rfl⟩ := h
  exact own_apart ho hb (by decide)
theorem Qu.past {w w' : World} {B q q2 : Nat} {r r2 : Option Nat} {l : List UInt8} (h : Qu w B q r l) (hf : Far w w' q2 r2) (h1 : q ≠ q2) (h2 : r2 ≠ some q) (h3 : r ≠ some q2) (h4 : r = none ∨ r ≠ r2) : Qu w' B q r l := by
  obtain ⟨hB, v, hb, ho, rfl⟩ := h
  refine ⟨hB, v, hb.past hf h1 h2, ?_, rfl⟩
  unfold OwnB at ho ⊢
  refine ⟨ho.1, ?_⟩
  rcases ho.2 with hn | ⟨g, cap, cur, rfl, hbg, hgg, rest⟩
  · exact .inl hn
  · refine .inr ⟨g, cap, cur, rfl, hbg, ?_, rest⟩
    have hlt := (Array.getElem?_eq_some_iff.1 hgg).1
    rw [hf.2.2.2.2 g hlt (fun e => h3 (by rw [← e]; rfl)) (fun e => by
      rcases h4 with h4 | h4
      · simp [Value.ownBlock] at h4
      · exact h4 (by rw [e]; rfl))]
    exact hgg
theorem Qu.below {w w' : World} {B q : Nat} {r : Option Nat} {l : List UInt8} (h : Qu w B q r l) (hb : Below w.heap.size w w') : Qu w' B q r l := by
  obtain ⟨hB, v, hk, ho, rfl⟩ := h
  exact ⟨hB, v, hk.below hb hk.lt, ho.below hb, rfl⟩
theorem Qu.drew {w : World} {B q : Nat} {r : Option Nat} {l : List UInt8} (h : Qu w B q r l) : Qu w.drew B q r l := h
theorem Qu.new {w : World} {B : Nat} (hB : B ≤ w.heap.size) : Qu (w.alloc (.cells #[.slice none 0 0] 66)) B w.heap.size none [] :=
  ⟨hB, _, Blk.new w _ _, OwnB.nil_ _ _, rfl⟩

theorem wpl_append_at {w : World} {ops : Array Oper} {rest : List Oper} {o : Oper} {a : Act} {Q : Exit → Act → World → Prop} (hgd : o.guard = Option.none) (s x : Operand)
    (ho : o.op = .call { callee := .builtin .append, args := #[s, x], argTypes := #[33, 33] })
    (base : Nat) (v : Value) (n : Nat) (l : List UInt8) (hs : a.eval s = v) (hown : OwnB w base v n l)
    (b off m c : Nat) (news : List UInt8) (hx : a.eval x = .slice (some ⟨b, off, none⟩) m c) (hR : ∀ (j : Nat) u, news[j]? = some u → w.cell? ⟨b, off + j, none⟩ = some (.int .u8 (u.toNat : Int))) (hm : news.length = m) (hsz : n + m ≤ 140737488355328) (hbase : base ≤ w.heap.size)
    (h : ∀ v' w', OwnB w' base v' (n + m) (l ++ news) → w.grownBy w' v.ownBlock → (v'.ownBlock = v.ownBlock ∨ v'.ownBlock = some w.heap.size) → wpList Tryz.prog ops Q rest (a.put o.dst v') w') : wpList Tryz.prog ops Q (o :: rest) a w := by
  refine wpList_plain hgd fun _ hK => ?_
  obtain ⟨i0, hi, hz0, hz1, hz2⟩ := info_parts infoB
  obtain ⟨v', w', hr, h2, h3, _, h5⟩ := run_append_own_at (P := Tryz.prog) w base 33 o.type 5 i0 (.int .u8 0) 1 1 Tryz.underlying33 hi hz0 hz1 hz2 rfl (by decide) v n (l.map enc8) hown
      ⟨b, off, none⟩ m c (news.map enc8) (by simpa using hm) (fun j u hu => by
        rw [List.getElem?_map] at hu
        obtain ⟨x, hx, rfl⟩ := Option.map_eq_some_iff.1 hu
        simpa [go_sem, enc8] using hR j x hx) (enc8_one news) (by unfold maxLen; omega) (by omega) hbase
  unfold Oper.wp execOp
  simp only [ho, resolve, invoke, builtin, Sem.run_bind, Sem.run_pure, Result.andThen_ok, List.map_toArray, List.map_cons, List.map_nil, hs, hx, hr]
  exact hK _ _ (h v' w' (by unfold OwnB; rw [List.map_append]; exact h2) h3 h5)
theorem OwnB.drew {w : World} {base n : Nat} {v : Value} {l : List UInt8} (h : OwnB w base v n l) : OwnB w.drew base v n l := h
theorem step_append_b {w : World} {ops : Array Oper} {o : Oper} {a : Act} {K : Act → World → Prop} {Q : Exit → Act → World → Prop} {E : Prop} (hgd : o.guard = Option.none) (s x : Operand)
    (ho : o.op = .call { callee := .builtin .append, args := #[s, x], argTypes := #[33, 33] })
    (base : Nat) (v : Value) (n : Nat) (l : List UInt8) (hs : a.eval s = v) (hown : OwnB w base v n l)
    (b off m c : Nat) (news : List UInt8) (hx : a.eval x = .slice (some ⟨b, off, none⟩) m c) (hR : ∀ (j : Nat) u, news[j]? = some u → w.cell? ⟨b, off + j, none⟩ = some (.int .u8 (u.toNat : Int))) (hm : news.length = m) (hsz : n + m ≤ 140737488355328) (hbase : base ≤ w.heap.size)
    (h : ∀ v' w', OwnB w' base v' (n + m) (l ++ news) → w.grownBy w' v.ownBlock → (v'.ownBlock = v.ownBlock ∨ v'.ownBlock = some w.heap.size) → K (a.put o.dst v') w') : if Region.wanted o (yielded ops a.tmps) = true then Oper.wp Tryz.prog o a w K Q else E := by
  have hw : Region.wanted o (yielded ops a.tmps) = true := by simp [Region.wanted, hgd]
  rw [if_pos hw]
  obtain ⟨i0, hi, hz0, hz1, hz2⟩ := info_parts infoB
  obtain ⟨v', w', hr, h2, h3, _, h5⟩ := run_append_own_at (P := Tryz.prog) w base 33 o.type 5 i0 (.int .u8 0) 1 1 Tryz.underlying33 hi hz0 hz1 hz2 rfl (by decide) v n (l.map enc8) hown
      ⟨b, off, none⟩ m c (news.map enc8) (by simpa using hm) (fun j u hu => by
        rw [List.getElem?_map] at hu
        obtain ⟨x, hx, rfl⟩ := Option.map_eq_some_iff.1 hu
        simpa [go_sem, enc8] using hR j x hx) (enc8_one news) (by unfold maxLen; omega) (by omega) hbase
  unfold Oper.wp execOp
  simp only [ho, resolve, invoke, builtin, Sem.run_bind, Sem.run_pure, Result.andThen_ok, List.map_toArray, List.map_cons, List.map_nil, hs, hx, hr]
  exact h v' w' (by unfold OwnB; rw [List.map_append]; exact h2) h3 h5
end Go.Proofs.YtjlajnackecfgaaGreatDoor
namespace Go.Proofs.YtjlajnackecfgaaGreatDoor
open Go.RowKit

def QPost (w : World) (B q : Nat) (r : Option Nat) (l : List UInt8) (e : Ending) (w' : World) : Prop :=
  e = .returned (.pointer (some ⟨q, 0, none⟩)) ∧ (∃ r', Qu w' B q r' l ∧ Stays w r r') ∧ Far w w' q r

theorem one_byte {w : World} {x : Int} {u : UInt8} (h : x = (u.toNat : Int)) : ∀ (j : Nat) v, [u][j]? = some v → (w.alloc (.cells #[.int .u8 x] 5)).cell? ⟨w.heap.size, 0 + j, none⟩ = some (.int .u8 (v.toNat : Int)) := by
  intro j v hv
  rcases j with _ | j
  · simp only [List.getElem?_cons_zero, Option.some.injEq] at hv
    subst hv
    subst h
    simp [go_sem]
  · simp at hv
theorem wrap8 (x : Int) : IntKind.u8.wrap x = x % 256 := by
  simp [IntKind.wrap, IntKind.signed, IntKind.bits]
theorem Qu.set {w : World} {B q : Nat} {v v' : Value} {l : List UInt8} (hB : B ≤ q) (hb : Blk w q 66 #[v]) (ho : OwnB w B v' l.length l) : Qu (w.setCell ⟨q, 0, none⟩ v') B q v'.ownBlock l := by
  refine ⟨hB, v', by simpa using hb.set_ 0 v', ?_, rfl⟩
  have hne := own_apart ho hb (by decide)
  unfold OwnB at ho ⊢
  refine ⟨ho.1, ?_⟩
  rcases ho.2 with hn | ⟨g, cap, cur, rfl, hbg, hgg, rest⟩
  · exact .inl hn
  · refine .inr ⟨g, cap, cur, rfl, hbg, ?_, rest⟩
    rw [Below.heap_setCell w ⟨q, 0, none⟩ _ g (fun e => hne (by rw [e]; rfl))]
    exact hgg

set_option maxRecDepth 20000 in
set_option maxHeartbeats 2000000 in
theorem QNumber_any (B q : Nat) (r : Option Nat) (l : List UInt8) (m n : Nat) (hm : m = 0 ∨ m = 128) (hn : n < 18446744073709551616) (hl : l.length ≤ 1000000) (w : World) (h : Qu w B q r l) :
    Calls Tryz.prog 53 #[.pointer (some ⟨q, 0, none⟩), .int .u8 (m : Int), .int .u64 (n : Int)] w (QPost w B q r (l ++ layN m n)) := by
  have h8 := nb_le n hn
  have hbl := bit_leQ n hn
  have hlen : ∀ W, Calls Tryz.prog 84 #[.int .u64 (n : Int)] W fun e w' => e = .returned (.int .i64 (Lib.bitLen n)) ∧ W = w' := fun W => by
    have := bits_Len64 (n : Int) W (by omega) (by omega)
    rw [Int.toNat_natCast] at this
    exact this.mono fun _ _ ⟨a, b⟩ => ⟨a, b.symm⟩
  obtain ⟨N, hN⟩ : ∃ N, nb n = N := ⟨_, rfl⟩
  have hN2 : ((Lib.bitLen n : Int) + 7) / 8 = (N : Int) := by unfold nb at hN; omega
  obtain ⟨F, hF⟩ : ∃ F : UInt8, F = UInt8.ofNat (m + N) := ⟨_, rfl⟩
  have hF2 : (F.toNat : Int) = (m : Int) + (N : Int) := by rw [hF, ofNat_nat _ (by omega)]; omega
  have hlay : layN m n = F :: beK N n := by unfold layN digs; rw [hN, hF]
  rw [hlay]
  rw [hN] at h8
  obtain ⟨hB, v, hk, ho, hr⟩ := h
  have hap := own_apart ho hk (by decide)
  have hal := ho.alloc (.cells #[.int .u8 ((m : Int) + (N : Int))] 5)
  have hka := hk.alloc (.cells #[.int .u8 ((m : Int) + (N : Int))] 5)
  have hq := hk.lt
  have HK := Lib.hid hk
  have HO := Lib.hid ho
  have HR := Lib.hid hr
  have HLEN := Lib.hid hlen
  have HFF := Lib.hid hF2
  have c0 := hk.cell 0
  have f0 := hk.frozen 0
  simp at c0
  clear hlay hF hk ho hr hF2 hN hlen
  go_enter Tryz.func53, Tryz.ntmps53
  go_wp2_with fail
  refine (HLEN.out _).mono ?_
  rintro e w1 ⟨rfl, rfl⟩
  have HAL := Lib.hid hal
  have HKA := Lib.hid hka
  have HB1 := Lib.hid (one_byte (w := w) HFF.out.symm)
  have HAP := Lib.hid hap
  clear hal hka hap
  go_wp2_with (with_reducible refine wpl_append_at (o := ⟨some 25, _, _, _, _, _⟩) rfl (.tmp 19) (.tmp 24) rfl B _ l.length l ?h1 HAL.out w.heap.size 0 1 1 [F] ?h2 HB1.out rfl ?h3 ?h4 ?_)
  try (case h1 => rfl)
  try (case h2 => rfl)
  case h3 => omega
  case h4 => simp; omega
  intro v1 w1 hown hg hat
  have hk1 := HKA.out.grown hg (fun e => HAP.out e.symm)
  have d0 := hk1.cell 0
  have e0 := hk1.frozen 0
  simp at d0
  obtain ⟨_, A1, c1, rfl, _, _, _⟩ := own_form hown
  have hQ := Qu.set hB hk1 (by rw [List.length_append]; exact hown : OwnB w1 B (.slice A1 (l.length + 1) c1) (l ++ [F]).length (l ++ [F]))
  have hF : Far w (w1.setCell ⟨q, 0, none⟩ (.slice A1 (l.length + 1) c1)) q r := by
    rw [HR.out] at hg
    exact (((Far.refl w q r).alloc (.cells #[.int .u8 ((m : Int) + (N : Int))] 5)).grown hg).set 0 _
  have hS : Stays w r (Value.slice A1 (l.length + 1) c1).ownBlock := by
    rcases hat with h | h
    · exact .inl (h.trans HR.out)
    · exact .inr ⟨_, h, by simp⟩
  have HQ := Lib.hid (show ∃ r', Qu (w1.setCell ⟨q, 0, none⟩ (.slice A1 (l.length + 1) c1)) B q r' (l ++ [F]) ∧ Stays w r r' from ⟨_, hQ, hS⟩)
  have HF := Lib.hid hF
  clear hown hg hat hk1 hQ hF hS HKA HAL HB1 HAP HR HO HK c0 f0
  go_wp2_with fail
  clear d0 e0
  go_loopw [8] (fun i wr => ∃ (k : Nat) (r' : Option Nat) (ws : List UInt8), k ≤ N ∧ i = .int .i64 ((k : Int) - 1) ∧ Hid (ws.length + k = l.length + 1 + N ∧ ws ++ beK k n = l ++ F :: beK N n) ∧ Hid (Qu wr B q r' ws) ∧ Hid (Stays w r r') ∧ Hid (Far w wr q r)) (fun i _ => (intOf i + 1).toNat)
  case atStart =>
    obtain ⟨r', h1, h2⟩ := HQ.out
    exact ⟨N, r', l ++ [F], Nat.le_refl _, rfl, Lib.hid ⟨by simp, by simp⟩, Lib.hid h1, Lib.hid h2, HF⟩
  case round =>
    obtain ⟨k, r', ws, hk, rfl, HWS, HQ1, HS1, HF1⟩ := hrel
    clear HQ HF
    rcases k with _ | j
    · go_wp2_with fail
      go_ret
      refine ⟨rfl, ⟨r', ?_, HS1.out⟩, HF1.out⟩
      have e := HWS.out.2
      rw [beK, List.append_nil] at e
      rw [← e]
      exact HQ1.out
    · obtain ⟨hB2, v, hk2, ho2, hr2⟩ := HQ1.out
      have hwl : ws.length ≤ 1000010 := by have := HWS.out.1; omega
      obtain ⟨u, hu⟩ : ∃ u : UInt8, u = UInt8.ofNat (n / 256 ^ j % 256) := ⟨_, rfl⟩
      have hu2 : (u.toNat : Int) = (n : Int) / 2 ^ (8 * j) % 256 := by
        rw [hu, ofNat_nat _ (by omega), show (256 : Nat) ^ j = 2 ^ (8 * j) by rw [Nat.pow_mul]]
        simp
      have c0 := hk2.cell 0
      have f0 := hk2.frozen 0
      simp at c0
      rw [show ((j + 1 : Nat) : Int) - 1 = (j : Int) by omega]
      go_wp2_with fail
      have hwu : IntKind.u8.wrap ((n : Int) / 2 ^ (8 * j)) = (u.toNat : Int) := by rw [hu2]; exact wrap8 _
      have hal := ho2.alloc (.cells #[.int .u8 (IntKind.u8.wrap ((n : Int) / 2 ^ (8 * j)))] 5)
      have hka := hk2.alloc (.cells #[.int .u8 (IntKind.u8.wrap ((n : Int) / 2 ^ (8 * j)))] 5)
      have HAP := Lib.hid (own_apart ho2 hk2 (by decide))
      have HAL := Lib.hid hal
      have HKA := Lib.hid hka
      have HB1 := Lib.hid (one_byte (w := wr) hwu)
      have HU := Lib.hid hu
      have HR2 := Lib.hid hr2
      have HHQ : Hid (q < wr.heap.size) := Lib.hid hk2.lt
      have HHB : Hid (B ≤ wr.heap.size) := Lib.hid (by have := hk2.lt; omega)
      have hw8 : IntKind.i64.wrap (8 * (j : Int)) = 8 * (j : Int) := IntWalk.i64_in _ (by omega)
      have hw9 : (0 : Int) ≤ 8 * (j : Int) := by omega
      have hw10 : (8 * (j : Int)).toNat = 8 * j := by omega
      have hw11 : (8 * (j : Int)) < 64 := by omega
      have hne := World.new_ne wr _ c0
      have c9 := hka.cell 0
      simp only [List.getElem?_toArray, List.getElem?_cons_zero] at c9
      clear hk2 ho2 hal hka hu hu2 hr2 hwu
      go_region_law ((refine step_append_b rfl (.tmp 38) (.tmp 44) rfl B v ws.length ws (by rfl) (HAL.out.drew) wr.heap.size 0 1 1 [u] (by rfl) HB1.out rfl (by omega) (by have := HHB.out; simp; omega) ?_; intro v2 w2 hown hg hat; have hk1 := HKA.out.drew.grown hg (fun e => HAP.out e.symm); have d1 := hk1.cell 0; have e1 := hk1.frozen 0; simp at d1; obtain ⟨_, A2, c2, rfl, _, _, _⟩ := own_form hown; have HO9 := Lib.hid hown; have HG9 := Lib.hid hg; have HT9 := Lib.hid hat; have HK9 := Lib.hid hk1; clear hown hg hat hk1))
      all_goals
        have hQ := Qu.set hB2 HK9.out (by rw [List.length_append]; exact HO9.out : OwnB w2 B (.slice A2 (ws.length + 1) c2) (ws ++ [u]).length (ws ++ [u]))
        have hF : Far wr (w2.setCell ⟨q, 0, none⟩ (.slice A2 (ws.length + 1) c2)) q r' := by
          have hg := HG9.out
          rw [HR2.out] at hg
          exact ((((Far.refl wr q r').alloc (.cells #[.int .u8 (IntKind.u8.wrap ((n : Int) / 2 ^ (8 * j)))] 5)).drew).grown hg).set 0 _
        have hS : Stays wr r' (Value.slice A2 (ws.length + 1) c2).ownBlock := by
          rcases HT9.out with h | h
          · exact .inl (h.trans HR2.out)
          · exact .inr ⟨_, h, by simp⟩
        have HQ := Lib.hid hQ
        have HFF2 := Lib.hid (HF1.out.trans hF HS1.out)
        have HSS := Lib.hid (HS1.out.trans hS HF1.out.2.2.2.1)
        clear hQ hF hS d1 e1
        go_wp2_with fail
        go_roundw
        case rel =>
          refine ⟨j, _, ws ++ [u], by omega, rfl, Lib.hid ⟨?_, ?_⟩, HQ, HSS, HFF2⟩
          · have := HWS.out.1
            rw [List.length_append, List.length_singleton]
            omega
          · have := HWS.out.2
            rw [beK] at this
            rw [List.append_assoc, HU.out]
            exact this
        case measure => simp [intOf]
end Go.Proofs.YtjlajnackecfgaaGreatDoor
namespace Go.Proofs.YtjlajnackecfgaaGreatDoor
open Go.RowKit

theorem str_at {w : World} (base : Nat) (ty : TypeId) (v : Value) (n : Nat) (l : List UInt8) (hown : OwnB w base v n l) (s : ByteArray) (hsz : n + s.size ≤ 70368744177664) (hbase : base ≤ w.heap.size) :
    ∃ v' w', (Builtin.append_ #[33, 9] ty #[v, .string s]).run Tryz.prog w = .ok v' w' ∧ OwnB w' base v' (n + s.size) (l ++ s.data.toList) ∧ w.grownBy w' v.ownBlock ∧ (v'.ownBlock = v.ownBlock ∨ v'.ownBlock = some w.heap.size) := by
  obtain ⟨i0, hi, hz0, hz1, hz2⟩ := info_parts infoB
  obtain ⟨v', w', hr, h2, h3, h4⟩ := Lib.run_append_own_string (P := Tryz.prog) w base 33 9 ty 5 i0 Tryz.underlying33 Tryz.underlying9 hi hz0 hz1 hz2 v n (l.map enc8) hown s (by unfold maxLen; omega) (by omega) hbase
  refine ⟨v', w', hr, by unfold OwnB; rw [List.map_append]; exact h2, h3, ?_⟩
  unfold OwnB at hown
  rcases hown.2 with ⟨rfl, _⟩ | ⟨g, cap, cur, rfl, _, hg, hnc, hcm, hcs, _⟩
  · by_cases hs : s.size = 0
    · rw [h4.2 ⟨rfl, hs⟩]
      exact .inl rfl
    · have hr2 := run_append_nil_string (P := Tryz.prog) w 33 9 ty 5 i0 (.int .u8 0) Tryz.underlying33 Tryz.underlying9 hi hz0 s (by omega) (by omega) (by rw [hz2]; omega)
      rw [hr] at hr2
      injection hr2 with e1 e2
      rw [e1]
      exact .inr rfl
  · by_cases hroom : n + s.size ≤ cap
    · have hcs' : cur.size = cap := by simpa using hcs
      have hr2 := Lib.run_append_room_string (P := Tryz.prog) w 33 9 ty 5 i0 Tryz.underlying33 Tryz.underlying9 hi hz1 g n cap cur hg s hroom (by omega)
      rw [hr] at hr2
      injection hr2 with e1 e2
      rw [e1]
      exact .inl rfl
    · have holds : ∀ j u, (l.map enc8)[j]? = some u → w.cell? ((⟨g, 0, none⟩ : Addr).add j) = some u := World.ownsRow.cells hown (g := g) rfl
      have hl : (l.map enc8).length = n := by simpa using hown.1
      have hr2 := Lib.run_append_grow_string (P := Tryz.prog) w 33 9 ty 5 i0 (.int .u8 0) Tryz.underlying33 Tryz.underlying9 hi hz0 ⟨g, 0, none⟩ n cap (l.map enc8) (by rw [hz1]; simpa using hl) holds s (by omega) (by omega)
        (by rw [hz2]; exact growslice_fits (by omega) (by omega))
      rw [hr] at hr2
      injection hr2 with e1 e2
      rw [e1]
      exact .inr rfl
theorem wpl_str_at {w : World} {ops : Array Oper} {rest : List Oper} {o : Oper} {a : Act} {Q : Exit → Act → World → Prop} (hgd : o.guard = Option.none) (s x : Operand)
    (ho : o.op = .call { callee := .builtin .append, args := #[s, x], argTypes := #[33, 9] })
    (base : Nat) (v : Value) (n : Nat) (l : List UInt8) (hs : a.eval s = v) (hown : OwnB w base v n l) (t : ByteArray) (hx : a.eval x = .string t) (hsz : n + t.size ≤ 70368744177664) (hbase : base ≤ w.heap.size)
    (h : ∀ v' w', OwnB w' base v' (n + t.size) (l ++ t.data.toList) → w.grownBy w' v.ownBlock → (v'.ownBlock = v.ownBlock ∨ v'.ownBlock = some w.heap.size) → wpList Tryz.prog ops Q rest (a.put o.dst v') w') : wpList Tryz.prog ops Q (o :: rest) a w := by
  refine wpList_plain hgd fun _ hK => ?_
  obtain ⟨v', w', hr, h2, h3, h5⟩ := str_at base o.type v n l hown t hsz hbase
  unfold Oper.wp execOp
  simp only [ho, resolve, invoke, builtin, Sem.run_bind, Sem.run_pure, Result.andThen_ok, List.map_toArray, List.map_cons, List.map_nil, hs, hx, hr]
  exact hK _ _ (h v' w' h2 h3 h5)

section
variable (B q : Nat) (r : Option Nat) (l : List UInt8)
set_option maxRecDepth 20000 in
set_option maxHeartbeats 1000000 in
theorem QUint_any (n : Nat) (hn : n < 18446744073709551616) (hl : l.length ≤ 1000000) (w : World) (h : Qu w B q r l) :
    Calls Tryz.prog 22 #[.pointer (some ⟨q, 0, none⟩), .int .u64 (n : Int)] w (QPost w B q r (l ++ layN 0 n)) := by
  have hN := QNumber_any B q r l 0 n (.inl rfl) hn hl w h
  have HN := Lib.hid hN
  clear hN h
  go_enter Tryz.func22, Tryz.ntmps22
  go_wp2_with fail
  refine HN.out.mono ?_
  rintro e w' ⟨rfl, h1, h2⟩
  have H1 := Lib.hid h1
  have H2 := Lib.hid h2
  clear h1 h2
  go_wp2_with fail
  go_ret
  exact ⟨rfl, H1.out, H2.out⟩
set_option maxRecDepth 20000 in
set_option maxHeartbeats 1000000 in
theorem QText_any (s : ByteArray) (hs : s.size ≤ 1000) (hl : l.length ≤ 1000000) (w : World) (h : Qu w B q r l) :
    Calls Tryz.prog 23 #[.pointer (some ⟨q, 0, none⟩), .string s] w (QPost w B q r (l ++ layT s.data.toList)) := by
  have hN := QUint_any B q r l s.size (by omega) hl w h
  have e : layT s.data.toList = layN 0 s.size ++ s.data.toList := by unfold layT; rw [show s.data.toList.length = s.size by simp]
  rw [e]
  have HN := Lib.hid hN
  have hlay : (layN 0 s.size).length ≤ 9 := by unfold layN; rw [List.length_cons, digs_len]; have := nb_le s.size (by omega); omega
  generalize layN 0 s.size = L at *
  clear hN h e
  go_enter Tryz.func23, Tryz.ntmps23
  go_wp2_with fail
  refine HN.out.mono ?_
  rintro e w1 ⟨rfl, ⟨r', h1, hS⟩, hF⟩
  obtain ⟨hB, v, hk, ho, hr⟩ := h1
  have hll : (l ++ L).length ≤ 1000009 := by rw [List.length_append]; omega
  have c0 := hk.cell 0
  have f0 := hk.frozen 0
  simp at c0
  have hq := hk.lt
  have HAP := Lib.hid (own_apart ho hk (by decide))
  have HK := Lib.hid hk
  have HO := Lib.hid ho
  have HR := Lib.hid hr
  have HS := Lib.hid hS
  have HF := Lib.hid hF
  obtain ⟨M, hM⟩ : ∃ M, l ++ L = M := ⟨_, rfl⟩
  have HM : Hid (l ++ (L ++ s.data.toList) = M ++ s.data.toList) := Lib.hid (by rw [← hM, List.append_assoc])
  rw [hM] at HO hll
  clear hk ho hr hS hF hM HN
  go_wp2_with (with_reducible refine wpl_str_at (o := ⟨some 18, _, _, _, _, _⟩) rfl (.tmp 16) (.tmp 17) rfl B _ M.length M ?h1 HO.out s ?h2 ?h3 ?h4 ?_)
  try (case h1 => rfl)
  try (case h2 => rfl)
  case h3 => omega
  case h4 => omega
  intro v1 w2 hown hg hat
  have hk1 := HK.out.grown hg (fun e => HAP.out e.symm)
  have d0 := hk1.cell 0
  have e0 := hk1.frozen 0
  simp at d0
  obtain ⟨_, A1, c1, rfl, _, _, _⟩ := own_form hown
  have hQ := Qu.set hB hk1 (by rw [List.length_append]; exact hown : OwnB w2 B (.slice A1 (M.length + s.size) c1) (M ++ s.data.toList).length (M ++ s.data.toList))
  have hF2 : Far w1 (w2.setCell ⟨q, 0, none⟩ (.slice A1 (M.length + s.size) c1)) q r' := by
    rw [HR.out] at hg
    exact ((Far.refl w1 q r').grown hg).set 0 _
  have hS2 : Stays w1 r' (Value.slice A1 (M.length + s.size) c1).ownBlock := by
    rcases hat with h | h
    · exact .inl (h.trans HR.out)
    · exact .inr ⟨_, h, by omega⟩
  have HQ := Lib.hid hQ
  have HF2 := Lib.hid (HF.out.trans hF2 HS.out)
  have HS2 := Lib.hid (HS.out.trans hS2 HF.out.2.2.2.1)
  clear hown hg hat hk1 hQ hF2 hS2
  go_wp2_with fail
  go_ret
  exact ⟨rfl, ⟨_, by rw [HM.out]; exact HQ.out, HS2.out⟩, HF2.out⟩
end

end Go.Proofs.YtjlajnackecfgaaGreatDoor
namespace Go.Proofs.YtjlajnackecfgaaGreatDoor
open Go.RowKit

/-- A slice's bytes lie in block g. -/
def Rg (w : World) (g : Nat) (A : Option Addr) (l : List UInt8) : Prop :=
  0 < l.length → ∃ o, A = some ⟨g, o, none⟩ ∧ g < w.heap.size ∧ ∀ (j : Nat) u, l[j]? = some u → w.cell? ⟨g, o + j, none⟩ = some (.int .u8 (u.toNat : Int))
theorem Rg.nil_ {w : World} {g : Nat} {A : Option Addr} : Rg w g A [] := fun h => absurd h (by simp)
theorem Rg.rd {w : World} {g : Nat} {A : Option Addr} {l : List UInt8} (h : Rg w g A l) : Rd w w.heap.size A l := fun hn => by
  obtain ⟨o, e, hg, hc⟩ := h hn
  exact ⟨g, o, e, hg, hc⟩
theorem cell_block {w w' : World} {p : Addr} (h : w'.heap[p.block]? = w.heap[p.block]?) : w'.cell? p = w.cell? p := World.cell?_of_block h
theorem Rg.past {w w' : World} {g q : Nat} {r : Option Nat} {A : Option Addr} {l : List UInt8} (h : Rg w g A l) (hf : Far w w' q r) (h1 : g ≠ q) (h2 : r ≠ some g) : Rg w' g A l := fun hn => by
  obtain ⟨o, e, hg, hc⟩ := h hn
  exact ⟨o, e, Nat.lt_of_lt_of_le hg hf.2.2.2.1, fun j u hu => (World.cell?_of_block (hf.2.2.2.2 g hg h1 h2)).trans (hc j u hu)⟩
theorem Rg.past' {w w' : World} {g q : Nat} {r : Option Nat} {A : Option Addr} {l : List UInt8} (h : Rg w g A l) (hf : Far w w' q r) (h1 : g = q → l = []) (h2 : r ≠ some g) : Rg w' g A l := by
  by_cases e : g = q
  · rw [h1 e]
    exact Rg.nil_
  · exact h.past hf e h2
theorem Rg.below {w w' : World} {g : Nat} {A : Option Addr} {l : List UInt8} (h : Rg w g A l) (hb : Below w.heap.size w w') : Rg w' g A l := fun hn => by
  obtain ⟨o, e, hg, hc⟩ := h hn
  exact ⟨o, e, Nat.lt_of_lt_of_le hg hb.size, fun j u hu => (World.cell?_of_block (hb.block g hg)).trans (hc j u hu)⟩
theorem Rg.take {w : World} {g : Nat} {A : Option Addr} {l : List UInt8} (h : Rg w g A l) (k : Nat) : Rg w g A (l.take k) := fun hn => by
  have hn' : 0 < min k l.length := by simpa using hn
  obtain ⟨o, e, hg, hc⟩ := h (by omega)
  refine ⟨o, e, hg, fun j u hu => hc j u ?_⟩
  rw [List.getElem?_take] at hu
  split at hu
  · exact hu
  · cases hu
theorem Rg.cut {w : World} {g : Nat} {A : Option Addr} {l : List UInt8} (h : Rg w g A l) {k cap : Nat} (hc : l.length ≤ cap) : Rg w g (if cap = k then A else A.map (·.add k)) (l.drop k) := fun hn => by
  have hn' : 0 < l.length - k := by simpa using hn
  obtain ⟨o, rfl, hg, hcell⟩ := h (by omega)
  rw [if_neg (by omega)]
  refine ⟨o + k, by simp [go_sem], hg, fun j u hu => ?_⟩
  rw [Nat.add_assoc]
  exact hcell _ u (by rw [← hu, List.getElem?_drop])
theorem own_rg {w : World} {base : Nat} {v : Value} {n : Nat} {l : List UInt8} (h : OwnB w base v n l) (d : Nat) (hd : base ≤ d) :
    l.length = n ∧ ∃ A c g, v = .slice A n c ∧ n ≤ c ∧ c ≤ maxLen ∧ base ≤ g ∧ Rg w g A l ∧ (A = none → c = 0) ∧ (v.ownBlock = some g ∨ (l = [] ∧ g = d)) := by
  have hl : l.length = n := by have := h.1; simpa using this
  refine ⟨hl, ?_⟩
  have h' := h
  unfold OwnB at h'
  rcases h'.2 with ⟨rfl, rfl⟩ | ⟨g, cap, cur, rfl, hb, hg, hnc, hcm, _⟩
  · have e : l = [] := List.eq_nil_of_length_eq_zero hl
    exact ⟨_, _, d, rfl, Nat.le_refl _, by decide, hd, by rw [e]; exact Rg.nil_, fun _ => rfl, .inr ⟨e, rfl⟩⟩
  · refine ⟨_, _, g, rfl, hnc, hcm, hb, fun _ => ⟨0, rfl, (Array.getElem?_eq_some_iff.1 hg).1, fun j u hu => ?_⟩, (fun e => nomatch e), .inl rfl⟩
    have := World.ownsRow.cells h' (g := g) rfl j (enc8 u) (by simp [hu])
    simpa [go_sem, enc8] using this

/-- A copy: a slice of the call's own. -/
def ClPost (w : World) (l : List UInt8) (e : Ending) (w' : World) : Prop := ∃ v, e = .returned v ∧ OwnB w' w.heap.size v l.length l ∧ Below w.heap.size w w'

set_option maxHeartbeats 400000 in
theorem Clone8_any (A : Option Addr) (n c Bd : Nat) (l : List UInt8) (w : World) (hR : Rd w Bd A l) (hn : l.length = n) (hm : n ≤ 140737488355328) (hB : Bd ≤ w.heap.size) (hA : A = none → n = 0 ∧ c = 0) :
    Calls Tryz.prog 54 #[.slice A n c] w (ClPost w l) := by
  rcases A with _ | ad
  · obtain ⟨rfl, rfl⟩ := hA rfl
    obtain rfl : l = [] := List.eq_nil_of_length_eq_zero hn
    clear hR hn hA
    have heq := fun W : World => Lib.run_eql_slice_nil W 33 5 none 0 0 0 0 Tryz.underlying33
    go_enter Tryz.func54, Tryz.ntmps54
    go_wp2_with fail
    go_ret
    exact ⟨_, rfl, OwnB.nil_ _ _, Below.refl _ _⟩
  · have HN := Lib.hid hn
    clear hn hA
    have heq := fun W : World => Lib.run_eql_slice_nil W 33 5 (some ad) n c 0 0 Tryz.underlying33
    go_enter Tryz.func54, Tryz.ntmps54
    have HO : Hid (OwnB (w.alloc (.cells #[] 5)) w.heap.size (.slice (some ⟨w.heap.size, 0, none⟩) 0 0) 0 []) := Lib.hid (World.ownsRow_lit w #[] 0 (Nat.le_refl _) (by decide) (by simp))
    have HR := Lib.hid (hR.alloc hB (.cells #[] 5))
    go_wp2_with (with_reducible refine wpList_append_bytes (o := ⟨some 7, _, _, _, _, _⟩) rfl (.tmp 5) (.tmp 6) rfl w.heap.size (.slice (some ⟨w.heap.size, 0, none⟩) 0 0) 0 [] ?h1 HO.out Bd (some ad) n c l ?h2 HR.out HN.out ?h3 ?h4 ?_)
    case h1 => rfl
    case h2 => rfl
    case h3 => omega
    case h4 => simp
    intro v' w1 hown hg
    have hbw : Below w.heap.size w w1 := hg.below HO.out ((Below.refl _ w).alloc (Nat.le_refl _) _) (Nat.le_refl _) (by simp)
    have HOW := Lib.hid hown
    clear hown hg heq HO HR hR
    go_wp2
    go_ret
    exact ⟨_, rfl, by rw [HN.out]; exact HOW.out, hbw⟩

def DPost (w : World) (l : List UInt8) (e : Ending) (w' : World) : Prop := (∃ A g, e = .returned (.slice A l.length l.length) ∧ (A = none → l.length = 0) ∧ w.heap.size ≤ g ∧ Rg w' g A l) ∧ Below w.heap.size w w'

set_option maxRecDepth 20000 in
set_option maxHeartbeats 400000 in
theorem QDone_any (B q : Nat) (r : Option Nat) (l : List UInt8) (hl : l.length ≤ 1000000) (w : World) (h : Qu w B q r l) :
    Calls Tryz.prog 25 #[.pointer (some ⟨q, 0, none⟩)] w (DPost w l) := by
  obtain ⟨hB, v, hk, ho, hr⟩ := h
  obtain ⟨_, A, c, g, rfl, hc1, hc2, _, hrg, hAn, _⟩ := own_rg ho B (Nat.le_refl _)
  have c0 := hk.cell 0
  simp at c0
  have hC := Clone8_any A l.length c w.heap.size l w hrg.rd rfl (by omega) (Nat.le_refl _) (fun e => ⟨by have := hAn e; omega, hAn e⟩)
  clear hk ho hr hrg hAn
  go_enter Tryz.func25, Tryz.ntmps25
  go_wp2_with fail
  refine hC.mono ?_
  rintro e w1 ⟨v1, rfl, hown, hb1⟩
  obtain ⟨_, A1, c1, g1, rfl, hd1, hd2, hg1, hrg1, hAn1, hgo⟩ := own_rg hown w1.heap.size hb1.size
  have HRG := Lib.hid hrg1
  have HB := Lib.hid hb1
  have HGO := Lib.hid hgo
  have HOW := Lib.hid hown
  have HAN := Lib.hid hAn1
  clear hrg1 hb1 hgo hown hC c0 hAn1
  unfold maxLen at hd2
  go_wp2_with fail
  go_ret
  exact ⟨⟨A1, g1, rfl, fun e => by have := HAN.out e; omega, hg1, HRG.out⟩, HB.out⟩

/-- A Lens in block b: what is left lies in block g; none: it isn't right. -/
def Ln (w : World) (b g : Nat) : Option (List UInt8) → Prop
  | none => Blk w b 105 #[.slice none 0 0, .bool true]
  | some l => ∃ A c, l.length ≤ c ∧ c ≤ maxLen ∧ (A = none → c = 0) ∧ l.length ≤ 1000000 ∧ Blk w b 105 #[.slice A l.length c, .bool false] ∧ Rg w g A l ∧ (g = b → l = [])
theorem Ln.past {w w' : World} {b g q : Nat} {r : Option Nat} {st : Option (List UInt8)} (h : Ln w b g st) (hf : Far w w' q r) (h1 : b ≠ q) (h2 : r ≠ some b) (h3 : g ≠ q) (h4 : r ≠ some g) : Ln w' b g st := by
  cases st with
  | none => exact Blk.past h hf h1 h2
  | some l =>
    obtain ⟨A, c, a1, a2, a3, a4, a5, a6, a7⟩ := h
    exact ⟨A, c, a1, a2, a3, a4, a5.past hf h1 h2, a6.past hf h3 h4, a7⟩
theorem Ln.below {w w' : World} {b g : Nat} {st : Option (List UInt8)} (h : Ln w b g st) (hb : Below w.heap.size w w') : Ln w' b g st := by
  cases st with
  | none => exact Blk.below h hb (Blk.lt h)
  | some l =>
    obtain ⟨A, c, a1, a2, a3, a4, a5, a6, a7⟩ := h
    exact ⟨A, c, a1, a2, a3, a4, a5.below hb a5.lt, a6.below hb, a7⟩
theorem Ln.lt {w : World} {b g : Nat} {st : Option (List UInt8)} (h : Ln w b g st) : b < w.heap.size := by
  cases st with
  | none => exact Blk.lt h
  | some l =>
    obtain ⟨A, c, a1, a2, a3, a4, a5, a6, a7⟩ := h
    exact a5.lt
theorem Ln.drew {w : World} {b g : Nat} {st : Option (List UInt8)} (h : Ln w b g st) : Ln w.drew b g st := by
  cases st with
  | none => exact h
  | some l => exact h

def LookPost (w : World) (l : List UInt8) (e : Ending) (w' : World) : Prop := ∃ b g, e = .returned (.pointer (some ⟨b, 0, none⟩)) ∧ w.heap.size ≤ b ∧ w.heap.size ≤ g ∧ g < w'.heap.size ∧ Ln w' b g (some l) ∧ Below w.heap.size w w'

set_option maxRecDepth 20000 in
set_option maxHeartbeats 400000 in
theorem Look_any (A : Option Addr) (n c Bd : Nat) (l : List UInt8) (w : World) (hR : Rd w Bd A l) (hn : l.length = n) (hm : n ≤ 1000000) (hB : Bd ≤ w.heap.size) (hA : A = none → n = 0 ∧ c = 0) :
    Calls Tryz.prog 31 #[.slice A n c] w (LookPost w l) := by
  have hC := Clone8_any A n c Bd l w hR hn (by omega) hB hA
  have HC := Lib.hid hC
  have HN := Lib.hid hn
  clear hC hR hn hA
  go_enter Tryz.func31, Tryz.ntmps31
  go_wp2_with fail
  refine HC.out.mono ?_
  rintro e w1 ⟨v1, rfl, hown, hb1⟩
  obtain ⟨_, A1, c1, g1, rfl, hd1, hd2, hg1, hrg1, hAn1, hgo⟩ := own_rg hown w1.heap.size hb1.size
  have HRG := Lib.hid hrg1
  have HB := Lib.hid hb1
  have HGO := Lib.hid hgo
  have HOW := Lib.hid hown
  have HAN := Lib.hid hAn1
  clear hrg1 hb1 hgo hown hAn1
  go_wp2_with fail
  go_ret
  refine ⟨w1.heap.size, g1, rfl, HB.out.size, hg1, ?_, ⟨A1, c1, hd1, hd2, HAN.out, by rw [HN.out]; exact hm, Blk.new w1 _ _, HRG.out.below ((Below.refl _ w1).alloc (Nat.le_refl _) _), fun e => ?_⟩, HB.out.alloc HB.out.size _⟩
  · rcases HGO.out with h | ⟨_, h⟩
    · have := (World.ownsRow.lt HOW.out _ h).2
      simp
      omega
    · simp
      omega
  · rcases HGO.out with h | ⟨h, _⟩
    · have := (World.ownsRow.lt HOW.out _ h).2
      omega
    · exact h
end Go.Proofs.YtjlajnackecfgaaGreatDoor
namespace Go.Proofs.YtjlajnackecfgaaGreatDoor
open Go.RowKit

section
variable (b g : Nat)
def SpPost (w : World) (e : Ending) (w' : World) : Prop := e = .returned (.tuple #[]) ∧ Ln w' b g none ∧ Far w w' b none
set_option maxRecDepth 20000 in
set_option maxHeartbeats 400000 in
theorem Spoil_any (st : Option (List UInt8)) (w : World) (h : Ln w b g st) :
    Calls Tryz.prog 64 #[.pointer (some ⟨b, 0, none⟩)] w (SpPost b g w) := by
  have hk : ∃ A n c x, Blk w b 105 #[.slice A n c, .bool x] := by
    cases st with
    | none => exact ⟨_, _, _, _, h⟩
    | some l =>
      obtain ⟨A, c, a1, a2, a3, a4, a5, a6, a7⟩ := h
      exact ⟨_, _, _, _, a5⟩
  obtain ⟨A, n, c, x, hk⟩ := hk
  have hk2 := hk.set_ 1 (.bool true)
  have hk3 := hk2.set_ 0 (.slice none 0 0)
  have HF := Lib.hid (((Far.refl w b none).set 1 (.bool true)).set 0 (.slice none 0 0))
  have c1 := hk.cell 1
  have f1 := hk.frozen 1
  have c0 := hk2.cell 0
  have f0 := hk2.frozen 0
  simp at c0 c1
  have HK := Lib.hid hk3
  clear h hk hk2 hk3
  go_enter Tryz.func64, Tryz.ntmps64
  go_wp2_with fail
  go_end0
  exact ⟨rfl, (by simpa using HK.out : Blk _ b 105 #[.slice none 0 0, .bool true]), HF.out⟩

/-- What take tells: the first n bytes, or nothing, and then the Lens isn't right. -/
def TkPost (n : Nat) (w : World) (st : Option (List UInt8)) (e : Ending) (w' : World) : Prop :=
  match st with
  | none => e = .returned (.slice none 0 0) ∧ w' = w
  | some l => if n ≤ l.length then (∃ A, e = .returned (.slice A n n) ∧ Rg w' g A (l.take n)) ∧ Ln w' b g (some (l.drop n)) ∧ Far w w' b none
      else e = .returned (.slice none 0 0) ∧ Ln w' b g none ∧ Far w w' b none
set_option maxRecDepth 20000 in
set_option maxHeartbeats 1000000 in
theorem Take_any (n : Nat) (hn : n < 18446744073709551616) (st : Option (List UInt8)) (w : World) (h : Ln w b g st):
    Calls Tryz.prog 65 #[.pointer (some ⟨b, 0, none⟩), .int .u64 (n : Int)] w (TkPost b g n w st) := by
  cases st with
  | none =>
    have hk : Blk w b 105 #[.slice none 0 0, .bool true] := h
    have c1 := hk.cell 1
    simp at c1
    clear h hk
    go_enter Tryz.func65, Tryz.ntmps65
    go_wp2_with fail
    go_ret
    exact ⟨rfl, rfl⟩
  | some l =>
    have hS := Spoil_any b g (some l) w h
    obtain ⟨A, c, a1, a2, a3, a4, hk, hrg, hgb⟩ := h
    unfold maxLen at a2
    have c0 := hk.cell 0
    have c1 := hk.cell 1
    have f0 := hk.frozen 0
    simp at c0 c1
    by_cases hle : n ≤ l.length
    · have hlt : ¬ l.length < n := by omega
      by_cases hcn : c = n
      · have hln : l.length = n := by omega
        have hd : l.drop n = [] := List.drop_of_length_le (by omega)
        have hk2 := hk.set_ 0 (.slice A (l.length - n) 0)
        have HK := Lib.hid (by simpa using hk2 : Blk (w.setCell ⟨b, 0, none⟩ (.slice A (l.length - n) 0)) b 105 #[.slice A (l.length - n) 0, .bool false])
        have HRG := Lib.hid ((hrg.past' ((Far.refl w b none).set 0 (.slice A (l.length - n) 0)) hgb (by simp)).take n)
        have HF := Lib.hid ((Far.refl w b none).set 0 (.slice A (l.length - n) 0))
        have HD := Lib.hid hd
        have HLN := Lib.hid hln
        clear hS hrg hk a3 hk2 hd hln
        go_enter Tryz.func65, Tryz.ntmps65
        go_wp2_with fail
        all_goals first | (exfalso; omega) | skip
        go_ret
        simp only [TkPost]
        rw [if_pos hle, HD.out]
        exact ⟨⟨A, rfl, HRG.out⟩, ⟨A, 0, by simp, by decide, fun _ => rfl, by simp, by have h := HK.out; rw [HLN.out, Nat.sub_self] at h; rw [HLN.out, Nat.sub_self]; exact h, Rg.nil_, fun _ => rfl⟩, HF.out⟩
      · have hcut := hrg.cut (k := n) a1
        rw [if_neg hcn] at hcut
        have hk2 := hk.set_ 0 (.slice (A.map (·.add n)) (l.length - n) (c - n))
        have HK := Lib.hid (by simpa using hk2 : Blk (w.setCell ⟨b, 0, none⟩ (.slice (A.map (·.add n)) (l.length - n) (c - n))) b 105 #[.slice (A.map (·.add n)) (l.length - n) (c - n), .bool false])
        have hf := (Far.refl w b none).set 0 (.slice (A.map (·.add n)) (l.length - n) (c - n))
        have HRG := Lib.hid ((hrg.past' hf hgb (by simp)).take n)
        have HCUT := Lib.hid (hcut.past' hf (fun e => by rw [hgb e]; simp) (by simp))
        have HF := Lib.hid hf
        have HAN := Lib.hid a3
        clear hS hrg hk a3 hk2 hcut hf
        go_enter Tryz.func65, Tryz.ntmps65
        go_wp2_with fail
        all_goals first | (exfalso; omega) | skip
        go_ret
        simp only [TkPost]
        rw [if_pos hle]
        exact ⟨⟨A, rfl, HRG.out⟩, ⟨A.map (·.add n), c - n, by simp; omega, by unfold maxLen; omega, fun e => by have := HAN.out (by cases A with | none => rfl | some a => cases e); omega, by simp; omega, by rw [List.length_drop]; exact HK.out, HCUT.out, fun e => by rw [hgb e]; simp⟩, HF.out⟩
    · have hlt : l.length < n := by omega
      have HS := Lib.hid hS
      clear hS hrg hk a3
      go_enter Tryz.func65, Tryz.ntmps65
      go_wp2_with fail
      refine HS.out.mono ?_
      rintro e w1 ⟨rfl, h1, h2⟩
      have H1 := Lib.hid h1
      have H2 := Lib.hid h2
      clear h1 h2
      go_wp2_with fail
      go_ret
      simp only [TkPost]
      rw [if_neg hle]
      exact ⟨rfl, H1.out, H2.out⟩
end
end Go.Proofs.YtjlajnackecfgaaGreatDoor
