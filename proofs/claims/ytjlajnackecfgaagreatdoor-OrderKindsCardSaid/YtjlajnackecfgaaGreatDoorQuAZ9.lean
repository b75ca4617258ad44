/-
append of bytes onto a row of the call's own; bytes.Clone, the references' Cut, Same and Join. Conditions: the bytes are there, and not more than memory bears.
Values as bytes: what is written, what is read off the front. Plain mathematics, no condition.
A Quill in memory: one cell that holds a row of bytes of the call's own; appends onto it that say where the new row lies. No condition.
-/
import Derived.Test.YtjlajnackecfgaaGreatDoorMemZ9
import Derived.Laws.AppendOwnNone
import Derived.Lib.BitFns
import Derived.Lib.ItoaNum
import Derived.Maps.AppendAt
import Derived.Lib.AppendStr
namespace Go.Proofs.YtjlajnackecfgaaGreatDoor
open Go.RowKit

section
variable (w : World)
theorem append_void (base : Nat) (ty : TypeId) (v : Value) (n : Nat) (xs : List Value) (hown : w.ownsRow base 5 1 v n xs) (A : Option Addr) (c : Nat) :
    (Builtin.append_ #[33, 33] ty #[v, .slice A 0 c]).run Tryz.prog w = .ok v w := by
  obtain ⟨i0, hi, hz0, hz1, hz2⟩ := info_parts infoB
  cases A <;> rcases hown.2 with ⟨rfl, rfl⟩ | ⟨g, cap, cur, rfl, _, _, hnc, _⟩ <;>
    simp [Builtin.append_, run_underlying Tryz.underlying33, sizeOf, typeInfo, Builtin.lenOf, Builtin.firstCells, storeCells, loadCells, loadCellsFrom, *]
/-- An append of bytes onto a row of the call's own: nothing else that was there has turned. -/
theorem append_bytes (base : Nat) (ty : TypeId) (v : Value) (n : Nat) (l : List UInt8) (hown : w.ownsRow base 5 1 v n (l.map enc8)) (B : Nat) (A : Option Addr) (m c : Nat) (news : List UInt8)
    (hR : Rd w B A news) (hm : news.length = m) (hsz : n + m ≤ 140737488355328) (hbase : base ≤ w.heap.size) :
    ∃ v' w', (Builtin.append_ #[33, 33] ty #[v, .slice A m c]).run Tryz.prog w = .ok v' w' ∧ w'.ownsRow base 5 1 v' (n + m) ((l ++ news).map enc8) ∧ w.grownBy w' v.ownBlock := by
  rcases Nat.eq_zero_or_pos m with h0 | h0
  · subst h0
    obtain rfl : news = [] := List.eq_nil_of_length_eq_zero hm
    exact ⟨v, w, append_void w base ty v n _ hown A c, by simpa using hown, grown_refl _ _⟩
  · obtain ⟨b, o, rfl, _, hc⟩ := hR (by omega)
    obtain ⟨i0, hi, hz0, hz1, hz2⟩ := info_parts infoB
    obtain ⟨v', w', hr, h2, h3, _⟩ := run_append_own (P := Tryz.prog) w base 33 ty 5 i0 (.int .u8 0) 1 1 Tryz.underlying33 hi hz0 hz1 hz2 rfl (by decide) v n (l.map enc8) hown
      ⟨b, o, none⟩ m c (news.map enc8) (by simpa using hm) (fun j u hu => by
        rw [List.getElem?_map] at hu
        obtain ⟨x, hx, rfl⟩ := Option.map_eq_some_iff.1 hu
        simpa [go_sem, enc8] using hc j x hx) (enc8_one news) (by unfold maxLen; omega) (by omega) hbase
    exact ⟨v', w', hr, by rw [List.map_append]; exact h2, h3⟩
end

/-- A slice of n bytes l in a row of the call's own: a name that the walk leaves as it is. -/
def OwnB (w : World) (base : Nat) (v : Value) (n : Nat) (l : List UInt8) : Prop := w.ownsRow base 5 1 v n (l.map enc8)
def Grew (w w' : World) (v : Value) : Prop := w.grownBy w' v.ownBlock
theorem OwnB.nil_ (w : World) (base : Nat) : OwnB w base (.slice Option.none 0 0) 0 [] := World.ownsRow_nil _ _ _ _
theorem OwnB.alloc {w : World} {base : Nat} {v : Value} {n : Nat} {l : List UInt8} (h : OwnB w base v n l) (o : Obj) : OwnB (w.alloc o) base v n l := World.ownsRow.alloc h o
theorem OwnB.below {w w' : World} {base : Nat} {v : Value} {n : Nat} {l : List UInt8} (h : OwnB w base v n l) (hb : Below w.heap.size w w') : OwnB w' base v n l :=
  World.ownsRow.kept h (row := Option.none) (grown_of_below hb Option.none) (by
    rcases hv : v.ownBlock with _ | k
    · exact .inl rfl
    · exact .inr (by simp))
theorem Grew.below {w w' : World} {v : Value} {B base n : Nat} {l : List UInt8} {w0 : World} (hg : Grew w w' v) (h : OwnB w base v n l) (hb : Below B w0 w) (hB : B ≤ base) (hs : B ≤ w.heap.size) : Below B w0 w' :=
  hb.grown hg hs (fun k hk => Nat.le_trans hB (World.ownsRow.lt h k hk).1)

theorem wpList_append_bytes {w : World} {ops : Array Oper} {rest : List Oper} {o : Oper} {a : Act} {Q : Exit → Act → World → Prop} (hgd : o.guard = Option.none) (s x : Operand)
    (ho : o.op = .call { callee := .builtin .append, args := #[s, x], argTypes := #[33, 33] })
    (base : Nat) (v : Value) (n : Nat) (l : List UInt8) (hs : a.eval s = v) (hown : OwnB w base v n l)
    (B : Nat) (A : Option Addr) (m c : Nat) (news : List UInt8) (hx : a.eval x = .slice A m c) (hR : Rd w B A news) (hm : news.length = m) (hsz : n + m ≤ 140737488355328) (hbase : base ≤ w.heap.size)
    (h : ∀ v' w', OwnB w' base v' (n + m) (l ++ news) → Grew w w' v → wpList Tryz.prog ops Q rest (a.put o.dst v') w') : wpList Tryz.prog ops Q (o :: rest) a w := by
  refine wpList_plain hgd fun _ hK => ?_
  obtain ⟨v', w', hr, h2, h3⟩ := append_bytes w base o.type v n l hown B A m c news hR hm hsz hbase
  unfold Oper.wp execOp
  simp only [ho, resolve, invoke, builtin, Sem.run_bind, Sem.run_pure, Result.andThen_ok, List.map_toArray, List.map_cons, List.map_nil, hs, hx, hr]
  exact hK _ _ (h v' w' h2 h3)

/-- What a made row of bytes is: a slice that reads them. -/
theorem own_form {w : World} {base : Nat} {v : Value} {n : Nat} {l : List UInt8} (h : OwnB w base v n l) :
    l.length = n ∧ ∃ A c, v = .slice A n c ∧ n ≤ c ∧ c ≤ maxLen ∧ Rd w w.heap.size A l := by
  have hl : l.length = n := by have := h.1; simpa using this
  refine ⟨hl, ?_⟩
  rcases h.2 with ⟨rfl, rfl⟩ | ⟨g, cap, cur, rfl, _, _, hnc, hcm, _⟩
  · exact ⟨_, _, rfl, Nat.le_refl _, by decide, by obtain rfl : l = [] := List.eq_nil_of_length_eq_zero hl; exact Rd.nil_⟩
  · exact ⟨_, _, rfl, hnc, hcm, Rd.of_own h⟩

def CutPost (B : Nat) (w : World) (l : List UInt8) (e : Ending) (w' : World) : Prop :=
  ∃ A c, e = .returned (.slice A l.length c) ∧ l.length ≤ c ∧ c ≤ maxLen ∧ Rd w' w'.heap.size A l ∧ Below B w w'

theorem rd_one (w : World) (u : UInt8) : Rd (w.alloc (.cells #[.int .u8 (u.toNat : Int)] 5)) (w.heap.size + 1) (some ⟨w.heap.size, 0, none⟩) [u] := fun _ =>
  ⟨w.heap.size, 0, rfl, by omega, fun j x hx => by
    rcases j with _ | j
    · simp only [List.getElem?_cons_zero, Option.some.injEq] at hx
      subst hx
      simp [go_sem]
    · simp at hx⟩

set_option maxHeartbeats 1000000 in
theorem Cut_any (A : Option Addr) (n c B most : Nat) (l : List UInt8) (w : World) (hR : Rd w B A l) (hn : l.length = n) (hm : n ≤ 140737488355328) (hmost : most ≤ 140737488355328) (hB : B ≤ w.heap.size) :
    Calls Tryz.prog 8 #[.slice A n c, .int .i64 most] w (CutPost w.heap.size w (l.take most)) := by
  subst hn
  go_enter Tryz.func8, Tryz.ntmps8
  go_wp2
  go_loopw [5, 10] (fun v i wr => ∃ k : Nat, k ≤ l.length ∧ i = .int .i64 k ∧ OwnB wr w.heap.size v (min k most) (l.take (min k most)) ∧ Below w.heap.size w wr) (fun _ i _ => l.length - (intOf i).toNat)
  case atStart => exact ⟨0, Nat.zero_le _, rfl, by simpa using OwnB.nil_ _ _, Below.refl _ _⟩
  case round =>
    obtain ⟨k, hk, rfl, hown, hbl⟩ := hrel
    by_cases hlt : k < l.length
    · obtain ⟨b, o, rfl, hb, hc0⟩ := hR.at_ hlt
      have hc := (hbl.cell (p := ⟨b, o + k, none⟩) (by exact Nat.lt_of_lt_of_le hb hB)).trans hc0
      have hsz := hbl.size
      by_cases hmk : k < most
      · rw [Nat.min_eq_left (by omega : k ≤ most)] at hown
        have HO := Lib.hid (hown.alloc (.cells #[.int .u8 ((l[k]).toNat : Int)] 5))
        have HT := Lib.hid (show l.take k ++ [l[k]] = l.take (min (k + 1) most) from by rw [Nat.min_eq_left (by omega), List.take_succ_eq_append_getElem hlt])
        have HR1 := Lib.hid (rd_one wr l[k])
        clear hown
        go_wp2_with (with_reducible refine wpList_append_bytes (o := ⟨some 21, _, _, _, _, _⟩) rfl (.tmp 18) (.tmp 20) rfl w.heap.size _ k (l.take k) ?h1 HO.out (wr.heap.size + 1) (some ⟨wr.heap.size, 0, none⟩) 1 1 [l[k]] ?h2 HR1.out rfl ?h3 ?h4 ?_)
        case h1 => rfl
        case h2 => rfl
        case h3 => omega
        case h4 => simp; omega
        intro v' w1 hown' hg
        have hbl' := hg.below HO.out (hbl.alloc hsz _) (Nat.le_refl _) (by simp; omega)
        have HO' := Lib.hid hown'
        clear hown' hg
        go_wp2
        go_roundw
        case rel => exact ⟨k + 1, by omega, by go_num, by rw [Nat.min_eq_left (by omega)]; simpa using HO'.out, hbl'⟩
        case measure => simp [intOf]; omega
      · have e1 : min k most = most := Nat.min_eq_right (by omega)
        have e2 : min (k + 1) most = most := Nat.min_eq_right (by omega)
        have HE := Lib.hid e1
        have HE2 := Lib.hid e2
        have HO := Lib.hid hown
        clear hown e1 e2
        go_wp2
        go_roundw
        case rel => exact ⟨k + 1, by omega, by go_num, by rw [HE2.out]; have h := HO.out; rw [HE.out] at h; exact h, hbl⟩
        case measure => simp [intOf]; omega
    · have HO := Lib.hid hown
      clear hown
      go_wp2
      go_ret
      have h := HO.out
      have e : l.take (min k most) = l.take most := by
        obtain rfl : k = l.length := by omega
        rcases Nat.le_total l.length most with h1 | h1
        · rw [Nat.min_eq_left h1, List.take_of_length_le (Nat.le_refl _), List.take_of_length_le h1]
        · rw [Nat.min_eq_right h1]
      rw [e] at h
      obtain ⟨hl, A', c', hv, hc1, hc2, hrd⟩ := own_form h
      exact ⟨A', c', by rw [hl, ← hv]; rfl, by rw [hl]; exact hc1, hc2, hrd, hbl⟩
end Go.Proofs.YtjlajnackecfgaaGreatDoor
namespace Go.Proofs.YtjlajnackecfgaaGreatDoor

/-- The k lowest bytes of n, the highest first. -/
def beK : Nat → Nat → List UInt8
  | 0, _ => []
  | k + 1, n => UInt8.ofNat (n / 256 ^ k % 256) :: beK k n
theorem beK_len (k n : Nat) : (beK k n).length = k := by
  induction k with
  | zero => rfl
  | succ k ih => simp [beK, ih]
theorem beK_snoc (k n : Nat) : beK (k + 1) n = beK k (n / 256) ++ [UInt8.ofNat (n % 256)] := by
  induction k with
  | zero => simp [beK]
  | succ k ih =>
    rw [beK, ih, beK, List.cons_append, Nat.div_div_eq_div_mul, Nat.pow_succ, Nat.mul_comm 256]

@[elab_as_elim]
theorem snoc_ind {α : Type} {p : List α → Prop} (h0 : p []) (h1 : ∀ l a, p l → p (l ++ [a])) (l : List α) : p l := by
  have : ∀ r : List α, p r.reverse := by
    intro r
    induction r with
    | nil => exact h0
    | cons a r ih => rw [List.reverse_cons]; exact h1 _ _ ih
  simpa using this l.reverse

/-- How many bytes a number has. -/
def nb (n : Nat) : Nat := (Lib.bitLen n + 7) / 8
theorem nb_zero : nb 0 = 0 := by decide
theorem nb_small (n : Nat) (h0 : 0 < n) (h1 : n < 256) : nb n = 1 := by
  have h2 := Lib.bitLen_le8 ⟨n, h1⟩
  have h3 := (Lib.bitLenAux_bounds 64 n (by omega) (by omega)).1
  have h4 : 1 ≤ Lib.bitLen n := h3
  simp only at h2
  unfold nb
  omega
theorem nb_step (n : Nat) (h0 : 0 < n) (h1 : n < 18446744073709551616) : nb n = nb (n / 256) + 1 := by
  rcases Nat.lt_or_ge n 256 with h | h
  · rw [nb_small n h0 h, Nat.div_eq_of_lt h, nb_zero]
  · unfold nb
    rw [Lib.bitLen_shift8 n h h1]
    omega
theorem nb_le (n : Nat) (h1 : n < 18446744073709551616) : nb n ≤ 8 := by
  have := Lib.bitLen_le n 64 (by omega) (by simpa using h1)
  unfold nb
  omega
theorem bit_leQ (n : Nat) (h1 : n < 18446744073709551616) : Lib.bitLen n ≤ 64 := Lib.bitLen_le n 64 (by omega) (by simpa using h1)

/-- A number's bytes, the highest first. -/
def digs (n : Nat) : List UInt8 := beK (nb n) n
theorem digs_len (n : Nat) : (digs n).length = nb n := beK_len _ _
theorem digs_zero : digs 0 = [] := by unfold digs; rw [nb_zero]; rfl
theorem digs_step (n : Nat) (h0 : 0 < n) (h1 : n < 18446744073709551616) : digs n = digs (n / 256) ++ [UInt8.ofNat (n % 256)] := by
  unfold digs
  rw [nb_step n h0 h1, beK_snoc]

/-- The number that bytes are. -/
def val (l : List UInt8) : Nat := l.foldl (fun a b => 256 * a + b.toNat) 0
theorem val_snoc (l : List UInt8) (b : UInt8) : val (l ++ [b]) = 256 * val l + b.toNat := by simp [val]
theorem val_lt (l : List UInt8) : val l < 256 ^ l.length := by
  induction l using snoc_ind with
  | h0 => decide
  | h1 l b ih =>
    have hb : b.toNat < 256 := b.toNat_lt
    rw [val_snoc, List.length_append, List.length_singleton, Nat.pow_succ]
    omega
theorem val_lt8 (l : List UInt8) (h : l.length ≤ 8) : val l < 18446744073709551616 :=
  Nat.lt_of_lt_of_le (val_lt l) (Nat.le_trans (Nat.pow_le_pow_right (by decide) h) (by decide))
theorem ofNat_nat (n : Nat) (h : n < 256) : (UInt8.ofNat n).toNat = n := by simp [Nat.mod_eq_of_lt h]
theorem ofNat_toNat (b : UInt8) : UInt8.ofNat b.toNat = b := by simp
theorem val_digs (n : Nat) (h : n < 18446744073709551616) : val (digs n) = n := by
  induction n using Nat.strongRecOn with
  | ind n ih =>
    rcases Nat.eq_zero_or_pos n with h0 | h0
    · subst h0; rw [digs_zero]; rfl
    · rw [digs_step n h0 h, val_snoc, ih (n / 256) (by omega) (by omega), ofNat_nat _ (by omega)]
      omega
theorem digs_head (n : Nat) (h : n < 18446744073709551616) : ∀ b r, digs n = b :: r → b.toNat ≠ 0 := by
  induction n using Nat.strongRecOn with
  | ind n ih =>
    intro b r hb
    rcases Nat.eq_zero_or_pos n with h0 | h0
    · subst h0; rw [digs_zero] at hb; cases hb
    · rw [digs_step n h0 h] at hb
      rcases Nat.eq_zero_or_pos (n / 256) with h2 | h2
      · rw [h2, digs_zero, List.nil_append] at hb
        injection hb with hb _
        rw [← hb, ofNat_nat _ (by omega)]
        omega
      · cases hd : digs (n / 256) with
        | nil =>
          have := digs_len (n / 256)
          rw [hd, nb_step _ h2 (by omega)] at this
          simp at this
        | cons c s =>
          rw [hd, List.cons_append] at hb
          injection hb with hb _
          rw [← hb]
          exact ih (n / 256) (by omega) (by omega) c s hd
theorem val_pos (l : List UInt8) (b : UInt8) (hb : b.toNat ≠ 0) : 0 < val (b :: l) := by
  induction l using snoc_ind with
  | h0 => simp [val]; omega
  | h1 l c ih => rw [← List.cons_append, val_snoc]; omega
theorem digs_val (l : List UInt8) (h8 : l.length ≤ 8) (h0 : ∀ b r, l = b :: r → b.toNat ≠ 0) : digs (val l) = l := by
  induction l using snoc_ind with
  | h0 => exact digs_zero
  | h1 l b ih =>
    have hb : b.toNat < 256 := b.toNat_lt
    have hlt := val_lt8 _ h8
    rw [List.length_append, List.length_singleton] at h8
    have hp : 0 < val (l ++ [b]) := by
      cases l with
      | nil => exact val_pos [] b (h0 b [] rfl)
      | cons c s => exact val_pos (s ++ [b]) c (h0 c (s ++ [b]) rfl)
    rw [digs_step _ hp hlt, val_snoc, show (256 * val l + b.toNat) / 256 = val l by omega, show (256 * val l + b.toNat) % 256 = b.toNat by omega, ofNat_toNat, ih (by omega) (fun c s e => h0 c (s ++ [b]) (by rw [e]; rfl))]

/-- What is written. -/
def layN (m n : Nat) : List UInt8 := UInt8.ofNat (m + nb n) :: digs n
def layI (i : Int) : List UInt8 := if 0 ≤ i then layN 0 i.toNat else layN 128 (-1 - i).toNat
def layF (b : Bool) : List UInt8 := layN 0 (if b then 1 else 0)
def layT (s : List UInt8) : List UInt8 := layN 0 s.length ++ s

/-- A number off the front: is it marked, it, what is left. -/
def numT : List UInt8 → Option (Bool × Nat × List UInt8)
  | [] => none
  | f :: r => if 8 < f.toNat % 128 ∨ r.length < f.toNat % 128 ∨ (0 < f.toNat % 128 ∧ (r.getD 0 0).toNat = 0) then none
    else some (decide (128 ≤ f.toNat), val (r.take (f.toNat % 128)), r.drop (f.toNat % 128))
def takeU (most : Nat) (l : List UInt8) : Option (Nat × List UInt8) :=
  match numT l with
  | some (false, n, r) => if n ≤ most then some (n, r) else none
  | _ => none
def takeI (l : List UInt8) : Option (Int × List UInt8) :=
  match numT l with
  | some (m, n, r) => if n < 9223372036854775808 then some (if m then -1 - (n : Int) else n, r) else none
  | none => none
def takeS (most : Nat) (l : List UInt8) : Option (List UInt8 × List UInt8) :=
  match takeU most l with
  | some (n, r) => if n ≤ r.length then some (r.take n, r.drop n) else none
  | none => none

theorem numT_lt {l : List UInt8} {m : Bool} {n : Nat} {r : List UInt8} (h : numT l = some (m, n, r)) : n < 18446744073709551616 ∧ r.length < l.length := by
  cases l with
  | nil => cases h
  | cons f s =>
    simp only [numT] at h
    split at h
    · cases h
    · rename_i hc
      simp only [Option.some.injEq, Prod.mk.injEq] at h
      obtain ⟨-, h2, h3⟩ := h
      subst h2 h3
      refine ⟨val_lt8 _ (by rw [List.length_take]; omega), ?_⟩
      simp only [List.length_drop, List.length_cons]
      omega
/-- What was written is read again. -/
theorem numT_lay (m n : Nat) (r : List UInt8) (hm : m = 0 ∨ m = 128) (h : n < 18446744073709551616) : numT (layN m n ++ r) = some (decide (m = 128), n, r) := by
  have h8 := nb_le n h
  have hf : (UInt8.ofNat (m + nb n)).toNat = m + nb n := ofNat_nat _ (by omega)
  have e : (m + nb n) % 128 = nb n := by omega
  have hl := digs_len n
  unfold layN
  rw [List.cons_append, numT, hf, e, if_neg ?_]
  · rw [List.take_append_of_le_length (by omega), List.take_of_length_le (by omega), List.drop_append_of_le_length (by omega), List.drop_of_length_le (by omega), val_digs n h, List.nil_append]
    congr 2
    rw [decide_eq_decide]
    omega
  · rw [List.length_append, hl]
    rintro (h | h | ⟨h1, h2⟩)
    · omega
    · omega
    · cases hd : digs n with
      | nil => rw [hd] at hl; simp at hl; omega
      | cons b s =>
        rw [hd] at h2
        exact digs_head n h b s hd (by simpa using h2)
/-- There is one way. -/
theorem numT_one {l : List UInt8} {m : Bool} {n : Nat} {r : List UInt8} (h : numT l = some (m, n, r)) : l = layN (if m then 128 else 0) n ++ r := by
  cases l with
  | nil => cases h
  | cons f s =>
    simp only [numT] at h
    split at h
    · cases h
    · rename_i hc
      simp only [Option.some.injEq, Prod.mk.injEq] at h
      obtain ⟨h1, h2, h3⟩ := h
      have hf : f.toNat < 256 := f.toNat_lt
      have hlen : (s.take (f.toNat % 128)).length = f.toNat % 128 := by rw [List.length_take]; omega
      have hd : digs n = s.take (f.toNat % 128) := by
        rw [← h2]
        refine digs_val _ (by omega) (fun b t e hb => hc (.inr (.inr ⟨?_, ?_⟩)))
        · rw [e] at hlen; simp at hlen; omega
        · cases s with
          | nil => simp at e
          | cons c u =>
            cases hk : f.toNat % 128 with
            | zero => rw [hk] at e; cases e
            | succ k =>
              rw [hk, List.take_succ_cons] at e
              injection e with e _
              simpa [e] using hb
      have hn : nb n = f.toNat % 128 := by rw [← digs_len, hd, hlen]
      unfold layN
      rw [hd, hn, ← h3, List.cons_append, List.take_append_drop]
      congr 1
      apply UInt8.toNat_inj.1
      rw [← h1]
      by_cases h9 : 128 ≤ f.toNat
      · rw [decide_eq_true h9, if_pos rfl, ofNat_nat _ (by omega)]
        omega
      · rw [decide_eq_false h9, if_neg (by simp), ofNat_nat _ (by omega)]
        omega
end Go.Proofs.YtjlajnackecfgaaGreatDoor
namespace Go.Proofs.YtjlajnackecfgaaGreatDoor
open Go.RowKit

/-- What a change of a Quill in block q with its bytes in block r leaves as it was. -/
def Far (w w' : World) (q : Nat) (r : Option Nat) : Prop := w'.os = w.os ∧ w'.tape = w.tape ∧ w'.output = w.output ∧ w.heap.size ≤ w'.heap.size ∧ ∀ i, i < w.heap.size → i ≠ q → r ≠ some i → w'.heap[i]? = w.heap[i]?
/-- Where the bytes lie now: where they lay, or in a new block. -/
def Stays (w : World) (r r' : Option Nat) : Prop := r' = r ∨ ∃ g, r' = some g ∧ w.heap.size ≤ g
theorem Far.refl (w : World) (q : Nat) (r : Option Nat) : Far w w q r := ⟨rfl, rfl, rfl, Nat.le_refl _, fun _ _ _ _ => rfl⟩
theorem Stays.refl (w : World) (r : Option Nat) : Stays w r r := .inl rfl
theorem Far.trans {a b c : World} {q : Nat} {r r' : Option Nat} (h : Far a b q r) (k : Far b c q r') (hs : Stays a r r') : Far a c q r :=
  ⟨k.1.trans h.1, k.2.1.trans h.2.1, k.2.2.1.trans h.2.2.1, Nat.le_trans h.2.2.2.1 k.2.2.2.1, fun i hi h1 h2 => (k.2.2.2.2 i (Nat.lt_of_lt_of_le hi h.2.2.2.1) h1 (by
    rcases hs with rfl | ⟨g, rfl, hg⟩
    · exact h2
    · intro e; injection e with e; omega)).trans (h.2.2.2.2 i hi h1 h2)⟩
theorem Stays.trans {a b : World} {r r' r'' : Option Nat} (h : Stays a r r') (k : Stays b r' r'') (hs : a.heap.size ≤ b.heap.size) : Stays a r r'' := by
  rcases k with rfl | ⟨g, rfl, hg⟩
  · exact h
  · exact .inr ⟨g, rfl, by omega⟩
theorem Far.alloc {a w : World} {q : Nat} {r : Option Nat} (h : Far a w q r) (o : Obj) : Far a (w.alloc o) q r :=
  ⟨h.1, h.2.1, h.2.2.1, Nat.le_trans h.2.2.2.1 (by simp), fun i hi h1 h2 => (Below.heap_alloc w o i (Nat.lt_of_lt_of_le hi h.2.2.2.1)).trans (h.2.2.2.2 i hi h1 h2)⟩
theorem Far.drew {a w : World} {q : Nat} {r : Option Nat} (h : Far a w q r) : Far a w.drew q r := h
theorem Far.grown {a w w' : World} {q : Nat} {r : Option Nat} (h : Far a w q r) (hg : w.grownBy w' r) : Far a w' q r :=
  ⟨hg.os.trans h.1, hg.tape.trans h.2.1, hg.output.trans h.2.2.1, Nat.le_trans h.2.2.2.1 hg.size, fun i hi h1 h2 => (hg.block i (Nat.lt_of_lt_of_le hi h.2.2.2.1) (fun e => h2 e.symm)).trans (h.2.2.2.2 i hi h1 h2)⟩
theorem Far.set {a w : World} {q : Nat} {r : Option Nat} (h : Far a w q r) (i : Nat) (u : Value) : Far a (w.setCell ⟨q, i, none⟩ u) q r :=
  ⟨h.1, h.2.1, h.2.2.1, by simpa [World.setCell] using h.2.2.2.1, fun j hj h1 h2 => (Below.heap_setCell w ⟨q, i, none⟩ u j h1).trans (h.2.2.2.2 j hj h1 h2)⟩
theorem Far.below {a w w' : World} {q : Nat} {r : Option Nat} (h : Far a w q r) (hb : Below w.heap.size w w') : Far a w' q r :=
  ⟨hb.os.trans h.1, hb.tape.trans h.2.1, hb.output.trans h.2.2.1, Nat.le_trans h.2.2.2.1 hb.size, fun i hi h1 h2 => (hb.block i (Nat.lt_of_lt_of_le hi h.2.2.2.1)).trans (h.2.2.2.2 i hi h1 h2)⟩
theorem Far.to_below {B : Nat} {a w w' : World} {q : Nat} {r : Option Nat} (h : Far w w' q r) (ha : Below B a w) (hB : B ≤ w.heap.size) (hq : B ≤ q) (hr : ∀ g, r = some g → B ≤ g) : Below B a w' :=
  ⟨h.1.trans ha.os, h.2.1.trans ha.tape, h.2.2.1.trans ha.output, Nat.le_trans ha.size h.2.2.2.1, fun i hi => (h.2.2.2.2 i (Nat.lt_of_lt_of_le hi hB) (by omega) (fun e => by have := hr i e; omega)).trans (ha.block i hi)⟩
theorem Blk.past {w w' : World} {g q : Nat} {r : Option Nat} {t : TypeId} {cs : Array Value} (h : Blk w g t cs) (hf : Far w w' q r) (h1 : g ≠ q) (h2 : r ≠ some g) : Blk w' g t cs := (hf.2.2.2.2 g h.lt h1 h2).trans h

/-- A Quill in block q has written l; its bytes lie in block r. -/
def Qu (w : World) (B q : Nat) (r : Option Nat) (l : List UInt8) : Prop := B ≤ q ∧ ∃ v, Blk w q 66 #[v] ∧ OwnB w B v l.length l ∧ v.ownBlock = r
theorem Qu.row {w : World} {B q : Nat} {r : Option Nat} {l : List UInt8} (h : Qu w B q r l) : ∀ g, r = some g → B ≤ g ∧ g < w.heap.size := by
  obtain ⟨_, v, _, ho, rfl⟩ := h
  exact fun g hg => World.ownsRow.lt ho g hg
theorem Qu.lt {w : World} {B q : Nat} {r : Option Nat} {l : List UInt8} (h : Qu w B q r l) : q < w.heap.size := by
  obtain ⟨_, v, hb, _, _⟩ := h
  exact hb.lt
theorem own_apart {w : World} {B n q : Nat} {v : Value} {l : List UInt8} {t : TypeId} {cs : Array Value} (ho : OwnB w B v n l) (hb : Blk w q t cs) (ht : t ≠ 5) : v.ownBlock ≠ some q := by
  intro e
  unfold OwnB at ho
  rcases ho.2 with ⟨rfl, _⟩ | ⟨g, cap, cur, rfl, _, e1, _⟩
  · simp [Value.ownBlock] at e
  · simp only [Value.ownBlock, Option.some.injEq] at e
    subst e
    unfold Blk at hb
    rw [e1] at hb
    simp at hb
    exact ht hb.2.symm
theorem Qu.apart {w : World} {B q : Nat} {r : Option Nat} {l : List UInt8} (h : Qu w B q r l) : r ≠ some q := by
  obtain ⟨_, v, hb, ho, rfl⟩ := h
  exact own_apart ho hb (by decide)
theorem Qu.past {w w' : World} {B q q2 : Nat} {r r2 : Option Nat} {l : List UInt8} (h : Qu w B q r l) (hf : Far w w' q2 r2) (h1 : q ≠ q2) (h2 : r2 ≠ some q) (h3 : r ≠ some q2) (h4 : r = none ∨ r ≠ r2) : Qu w' B q r l := by
  obtain ⟨hB, v, hb, ho, rfl⟩ := h
  refine ⟨hB, v, hb.past hf h1 h2, ?_, rfl⟩
  unfold OwnB at ho ⊢
  refine ⟨ho.1, ?_⟩
  rcases ho.2 with hn | ⟨g, cap, cur, rfl, hbg, hgg, rest⟩
  · exact .inl hn
  · refine .inr ⟨g, cap, cur, rfl, hbg, ?_, rest⟩
    have hlt := (Array.getElem?_eq_some_iff.1 hgg).1
    rw [hf.2.2.2.2 g hlt (fun e => h3 (by rw [← e]; rfl)) (fun e => by
      rcases h4 with h4 | h4
      · simp [Value.ownBlock] at h4
      · exact h4 (by rw [e]; rfl))]
    exact hgg
theorem Qu.below {w w' : World} {B q : Nat} {r : Option Nat} {l : List UInt8} (h : Qu w B q r l) (hb : Below w.heap.size w w') : Qu w' B q r l := by
  obtain ⟨hB, v, hk, ho, rfl⟩ := h
  exact ⟨hB, v, hk.below hb hk.lt, ho.below hb, rfl⟩
theorem Qu.drew {w : World} {B q : Nat} {r : Option Nat} {l : List UInt8} (h : Qu w B q r l) : Qu w.drew B q r l := h
theorem Qu.new {w : World} {B : Nat} (hB : B ≤ w.heap.size) : Qu (w.alloc (.cells #[.slice none 0 0] 66)) B w.heap.size none [] :=
  ⟨hB, _, Blk.new w _ _, OwnB.nil_ _ _, rfl⟩

theorem wpl_append_at {w : World} {ops : Array Oper} {rest : List Oper} {o : Oper} {a : Act} {Q : Exit → Act → World → Prop} (hgd : o.guard = Option.none) (s x : Operand)
    (ho : o.op = .call { callee := .builtin .append, args := #[s, x], argTypes := #[33, 33] })
    (base : Nat) (v : Value) (n : Nat) (l : List UInt8) (hs : a.eval s = v) (hown : OwnB w base v n l)
    (b off m c : Nat) (news : List UInt8) (hx : a.eval x = .slice (some ⟨b, off, none⟩) m c) (hR : ∀ (j : Nat) u, news[j]? = some u → w.cell? ⟨b, off + j, none⟩ = some (.int .u8 (u.toNat : Int))) (hm : news.length = m) (hsz : n + m ≤ 140737488355328) (hbase : base ≤ w.heap.size)
    (h : ∀ v' w', OwnB w' base v' (n + m) (l ++ news) → w.grownBy w' v.ownBlock → (v'.ownBlock = v.ownBlock ∨ v'.ownBlock = some w.heap.size) → wpList Tryz.prog ops Q rest (a.put o.dst v') w') : wpList Tryz.prog ops Q (o :: rest) a w := by
  refine wpList_plain hgd fun _ hK => ?_
  obtain ⟨i0, hi, hz0, hz1, hz2⟩ := info_parts infoB
  obtain ⟨v', w', hr, h2, h3, _, h5⟩ := run_append_own_at (P := Tryz.prog) w base 33 o.type 5 i0 (.int .u8 0) 1 1 Tryz.underlying33 hi hz0 hz1 hz2 rfl (by decide) v n (l.map enc8) hown
      ⟨b, off, none⟩ m c (news.map enc8) (by simpa using hm) (fun j u hu => by
        rw [List.getElem?_map] at hu
        obtain ⟨x, hx, rfl⟩ := Option.map_eq_some_iff.1 hu
        simpa [go_sem, enc8] using hR j x hx) (enc8_one news) (by unfold maxLen; omega) (by omega) hbase
  unfold Oper.wp execOp
  simp only [ho, resolve, invoke, builtin, Sem.run_bind, Sem.run_pure, Result.andThen_ok, List.map_toArray, List.map_cons, List.map_nil, hs, hx, hr]
  exact hK _ _ (h v' w' (by unfold OwnB; rw [List.map_append]; exact h2) h3 h5)
theorem OwnB.drew {w : World} {base n : Nat} {v : Value} {l : List UInt8} (h : OwnB w base v n l) : OwnB w.drew base v n l := h
theorem step_append_b {w : World} {ops : Array Oper} {o : Oper} {a : Act} {K : Act → World → Prop} {Q : Exit → Act → World → Prop} {E : Prop} (hgd : o.guard = Option.none) (s x : Operand)
    (ho : o.op = .call { callee := .builtin .append, args := #[s, x], argTypes := #[33, 33] })
    (base : Nat) (v : Value) (n : Nat) (l : List UInt8) (hs : a.eval s = v) (hown : OwnB w base v n l)
    (b off m c : Nat) (news : List UInt8) (hx : a.eval x = .slice (some ⟨b, off, none⟩) m c) (hR : ∀ (j : Nat) u, news[j]? = some u → w.cell? ⟨b, off + j, none⟩ = some (.int .u8 (u.toNat : Int))) (hm : news.length = m) (hsz : n + m ≤ 140737488355328) (hbase : base ≤ w.heap.size)
    (h : ∀ v' w', OwnB w' base v' (n + m) (l ++ news) → w.grownBy w' v.ownBlock → (v'.ownBlock = v.ownBlock ∨ v'.ownBlock = some w.heap.size) → K (a.put o.dst v') w') : if Region.wanted o (yielded ops a.tmps) = true then Oper.wp Tryz.prog o a w K Q else E := by
  have hw : Region.wanted o (yielded ops a.tmps) = true := by simp [Region.wanted, hgd]
  rw [if_pos hw]
  obtain ⟨i0, hi, hz0, hz1, hz2⟩ := info_parts infoB
  obtain ⟨v', w', hr, h2, h3, _, h5⟩ := run_append_own_at (P := Tryz.prog) w base 33 o.type 5 i0 (.int .u8 0) 1 1 Tryz.underlying33 hi hz0 hz1 hz2 rfl (by decide) v n (l.map enc8) hown
      ⟨b, off, none⟩ m c (news.map enc8) (by simpa using hm) (fun j u hu => by
        rw [List.getElem?_map] at hu
        obtain ⟨x, hx, rfl⟩ := Option.map_eq_some_iff.1 hu
        simpa [go_sem, enc8] using hR j x hx) (enc8_one news) (by unfold maxLen; omega) (by omega) hbase
  unfold Oper.wp execOp
  simp only [ho, resolve, invoke, builtin, Sem.run_bind, Sem.run_pure, Result.andThen_ok, List.map_toArray, List.map_cons, List.map_nil, hs, hx, hr]
  exact h v' w' (by unfold OwnB; rw [List.map_append]; exact h2) h3 h5
end Go.Proofs.YtjlajnackecfgaaGreatDoor
