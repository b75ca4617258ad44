/-
A Lens's Text; the law's helpers lay and take. Conditions: the Quill, the Lens are known.
Values of the law: lay, take. Conditions: the Quill, the Lens are known, the value's numbers fit their kinds.
Rows of values: what they read as, what is appended; one among a law's arguments, opened; the law's few. No condition.
The references' Join. Conditions: the bytes are there, and not more than memory bears.
The references' Uint, Int, Flag, Text, Lay of layer 8. Conditions: a number of 64 bits, a text of at most 1000 bytes.
The law's few, take whole, the document's example. Conditions: the values are there.
The document's example; a cut row; what is taken is what was laid. Conditions: the bytes are there.
Rows of bytes that are joined, cut, bent, compared; three rows in a row. Condition: the bytes are there.
-/
import Derived.Test.YtjcnglkjjhnpbaaGreatDoorByF
import Derived.Laws.BytesArg
import Derived.Test.YtjcnglkjjhnpbaaGreatDoorShutA
import Derived.Laws.AppendOwnNone
import Derived.Deep.Slices
import Derived.Test.YtjcnglkjjhnpbaaGreatDoorSame
import Derived.Test.YtjcnglkjjhnpbaaGreatDoorQuE
import Derived.Lib.AtoiErrMem
import Derived.IntWalk
import Derived.Laws.Closers25b
namespace Go.Proofs.YtjcnglkjjhnpbaaGreatDoor
open Go.RowKit

theorem strOf_bytes (l : List UInt8) : strOfNums (l.map fun x => (x.toNat : Int)) = ⟨l.toArray⟩ := by
  unfold strOfNums
  rw [List.map_map]
  congr 2
  conv => rhs; rw [← List.map_id l]
  apply List.map_congr_left
  intro x _
  simp
theorem conv_rg {w : World} {g : Nat} {A : Option Addr} {l : List UInt8} {n c : Nat} (h : Rg w g A l) (hn : l.length = n) : (convert 29 9 (.slice A n c)).run Tryz.prog w = .ok (.string ⟨l.toArray⟩) w := by
  rcases Nat.eq_zero_or_pos l.length with h0 | h0
  · obtain rfl : l = [] := List.eq_nil_of_length_eq_zero h0
    subst hn
    cases A with
    | none =>
      have := run_convert_bytes_nil (P := Tryz.prog) w 29 5 Tryz.underlying29 Tryz.underlying5 ([] : List UInt8).length c 9 Tryz.underlying9
      exact this
    | some a =>
      have hl : (loadCells a 0).run Tryz.prog w = .ok (([] : List Int).map (Value.int .u8)).toArray w := by simp [loadCells, loadCellsFrom]
      have := run_bytesToString (P := Tryz.prog) w a 0 c [] hl
      rw [run_convert_bytes_string w 29 9 5 (some a) _ c Tryz.underlying29 Tryz.underlying5 Tryz.underlying9]
      exact this
  · obtain ⟨o, rfl, _, hc⟩ := h h0
    have := run_convert_bytes_arg (P := Tryz.prog) w 29 5 Tryz.underlying29 Tryz.underlying5 g o n c (l.map fun x => (x.toNat : Int)) (by rw [List.length_map]; exact hn)
      (fun i hi => by
        have hil : i < l.length := by omega
        rw [hc i _ (List.getElem?_eq_getElem hil)]
        simp [List.getD, hil]) 9 Tryz.underlying9
    rw [strOf_bytes] at this
    exact this

def tV (most : Nat) (st : Option (List UInt8)) : ByteArray := match st.bind (takeS most) with | some (t, _) => ⟨t.toArray⟩ | none => ⟨#[]⟩
def tS (most : Nat) (st : Option (List UInt8)) : Option (List UInt8) := match st.bind (takeS most) with | some (_, r) => some r | none => none

section
variable (b g : Nat)
def TtPost (most : Nat) (w : World) (st : Option (List UInt8)) (e : Ending) (w' : World) : Prop := e = .returned (.string (tV most st)) ∧ Ln w' b g (tS most st) ∧ Far w w' b none
end
end Go.Proofs.YtjcnglkjjhnpbaaGreatDoor
namespace Go.Proofs.YtjcnglkjjhnpbaaGreatDoor
open Go.RowKit

structure Val where
  k : Nat
  u : Nat
  i : Int
  s : ByteArray
  m : Nat
/-- Its numbers fit their kinds; its text is short. -/
structure Val.Ok (v : Val) : Prop where
  k : v.k < 256
  u : v.u < 18446744073709551616
  i : -9223372036854775808 ≤ v.i ∧ v.i ≤ 9223372036854775807
  s : v.s.size ≤ 1000
  m : v.m < 18446744073709551616
def Val.cells (v : Val) : List Value := [.int .u8 (v.k : Int), .int .u64 (v.u : Int), .int .i64 v.i, .string v.s, .int .u64 (v.m : Int)]
def Val.enc (v : Val) : Value := .agg #[.int .u8 (v.k : Int), .int .u64 (v.u : Int), .int .i64 v.i, .string v.s, .int .u64 (v.m : Int)]
def layV (v : Val) : List UInt8 := if v.k % 4 = 0 then layN 0 v.u else if v.k % 4 = 1 then layI v.i else if v.k % 4 = 2 then layF (v.u % 2 == 1) else layT v.s.data.toList
def takeO (st : Option (List UInt8)) (v : Val) : Val :=
  if v.k % 4 = 0 then ⟨v.k, uV v.m st, 0, ⟨#[]⟩, 0⟩ else if v.k % 4 = 1 then ⟨v.k, 0, iV st, ⟨#[]⟩, 0⟩ else if v.k % 4 = 2 then ⟨v.k, if uV 1 st = 1 then 1 else 0, 0, ⟨#[]⟩, 0⟩ else ⟨v.k, 0, 0, tV (v.m % 1000) st, 0⟩
def takeR (st : Option (List UInt8)) (v : Val) : Option (List UInt8) :=
  if v.k % 4 = 0 then uS v.m st else if v.k % 4 = 1 then iS st else if v.k % 4 = 2 then uS 1 st else tS (v.m % 1000) st

section
variable (B q : Nat) (r : Option Nat) (l : List UInt8)
end

theorem set5 {w : World} {g : Nat} {T : TypeId} {a b c d e : Value} (h : Blk w g T #[a, b, c, d, e]) (x y z u v : Value) :
    (w.setCell ⟨g, 0, none⟩ x).cell? ⟨g, 0, none⟩ = some x ∧ ((w.setCell ⟨g, 0, none⟩ x).setCell ⟨g, 1, none⟩ y).cell? ⟨g, 1, none⟩ = some y ∧
      (((w.setCell ⟨g, 0, none⟩ x).setCell ⟨g, 1, none⟩ y).setCell ⟨g, 2, none⟩ z).cell? ⟨g, 2, none⟩ = some z ∧
      ((((w.setCell ⟨g, 0, none⟩ x).setCell ⟨g, 1, none⟩ y).setCell ⟨g, 2, none⟩ z).setCell ⟨g, 3, none⟩ u).cell? ⟨g, 3, none⟩ = some u ∧
      (((((w.setCell ⟨g, 0, none⟩ x).setCell ⟨g, 1, none⟩ y).setCell ⟨g, 2, none⟩ z).setCell ⟨g, 3, none⟩ u).setCell ⟨g, 4, none⟩ v).cell? ⟨g, 4, none⟩ = some v :=
  ⟨(h.set_ 0 x).cell 0, ((h.set_ 0 x).set_ 1 y).cell 1, (((h.set_ 0 x).set_ 1 y).set_ 2 z).cell 2, ((((h.set_ 0 x).set_ 1 y).set_ 2 z).set_ 3 u).cell 3, (((((h.set_ 0 x).set_ 1 y).set_ 2 z).set_ 3 u).set_ 4 v).cell 4⟩

theorem Far.setNew {a w : World} {q p : Nat} {r : Option Nat} (h : Far a w q r) (hp : a.heap.size ≤ p) (i : Nat) (u : Value) : Far a (w.setCell ⟨p, i, none⟩ u) q r :=
  ⟨h.1, h.2.1, h.2.2.1, by simpa [World.setCell] using h.2.2.2.1, fun j hj h1 h2 => (Below.heap_setCell w ⟨p, i, none⟩ u j (fun e => by have e' : j = p := e; omega)).trans (h.2.2.2.2 j hj h1 h2)⟩

section
variable (b g : Nat)
def TOPost (v : Val) (w : World) (st : Option (List UInt8)) (e : Ending) (w' : World) : Prop := e = .returned (takeO st v).enc ∧ Ln w' b g (takeR st v) ∧ Far w w' b none
/-- Three boxes of a call of take. -/
theorem three_vals {w W1 : World} {T : TypeId} {a c d : Array Value} (h : ((w.alloc (.cells a T)).alloc (.cells c T)).alloc (.cells d T) = W1) :
    Below w.heap.size w W1 ∧ Blk W1 w.heap.size T a ∧ Blk W1 (w.heap.size + 1) T c ∧ Blk W1 (w.heap.size + 2) T d := by
  subst h
  have z1 : (w.alloc (.cells a T)).heap.size = w.heap.size + 1 := by simp
  have z2 : ((w.alloc (.cells a T)).alloc (.cells c T)).heap.size = w.heap.size + 2 := by simp
  refine ⟨(((Below.refl _ w).alloc (Nat.le_refl _) _).alloc (by simp) _).alloc (by simp; omega) _, ((Blk.new w _ _).alloc _).alloc _, ?_, ?_⟩
  · rw [← z1]; exact (Blk.new _ _ _).alloc _
  · rw [← z2]; exact Blk.new _ _ _
theorem Far.of_below {w w' : World} {q : Nat} {r : Option Nat} (h : Below w.heap.size w w') : Far w w' q r := ⟨h.os, h.tape, h.output, h.size, fun i hi _ _ => h.block i hi⟩
abbrev noS : ByteArray := ⟨#[]⟩
end
end Go.Proofs.YtjcnglkjjhnpbaaGreatDoor
namespace Go.Proofs.YtjcnglkjjhnpbaaGreatDoor
open Go.ChangeShapes Go.WideShapes Go.ChangeAt Go.RowKit

/-- A slice of values. -/
def Rvs (w : World) (B : Nat) (A : Option Addr) (l : List Val) : Prop :=
  0 < l.length → ∃ b o, A = some ⟨b, o, none⟩ ∧ b < B ∧ ∀ (j : Nat) v, l[j]? = some v → ∀ (i : Nat) x, v.cells[i]? = some x → w.cell? ⟨b, o + (j * 5 + i), none⟩ = some x
theorem Rvs.at_ {w : World} {B : Nat} {A : Option Addr} {l : List Val} {k : Nat} (h : Rvs w B A l) (hk : k < l.length) : ∃ b o, A = some ⟨b, o, none⟩ ∧ b < B ∧
    w.cell? ⟨b, o + (k * 5 + 0), none⟩ = some (.int .u8 ((l[k]'hk).k : Int)) ∧ w.cell? ⟨b, o + (k * 5 + 1), none⟩ = some (.int .u64 ((l[k]'hk).u : Int)) ∧ w.cell? ⟨b, o + (k * 5 + 2), none⟩ = some (.int .i64 (l[k]'hk).i) ∧
      w.cell? ⟨b, o + (k * 5 + 3), none⟩ = some (.string (l[k]'hk).s) ∧ w.cell? ⟨b, o + (k * 5 + 4), none⟩ = some (.int .u64 ((l[k]'hk).m : Int)) := by
  obtain ⟨b, o, e, hb, hc⟩ := h (by omega)
  have h1 := hc k _ (List.getElem?_eq_getElem hk)
  exact ⟨b, o, e, hb, h1 0 _ rfl, h1 1 _ rfl, h1 2 _ rfl, h1 3 _ rfl, h1 4 _ rfl⟩
theorem Rvs.below {w w' : World} {B : Nat} {A : Option Addr} {l : List Val} (h : Rvs w B A l) (hb : Below B w w') : Rvs w' B A l := fun hn => by
  obtain ⟨b, o, e, hlt, hc⟩ := h hn
  exact ⟨b, o, e, hlt, fun j v hv i x hx => (hb.cell (p := ⟨b, _, none⟩) hlt).trans (hc j v hv i x hx)⟩
theorem Rvs.more {w : World} {B B' : Nat} {A : Option Addr} {l : List Val} (h : Rvs w B A l) (hB : B ≤ B') : Rvs w B' A l := fun hn => by
  obtain ⟨b, o, e, hlt, hc⟩ := h hn
  exact ⟨b, o, e, by omega, hc⟩

/-- All of their cells, one behind the other. -/
def flatV (l : List Val) : List Value := l.flatMap Val.cells
theorem cells_len (v : Val) : v.cells.length = 5 := rfl
theorem flatV_len (l : List Val) : (flatV l).length = l.length * 5 := by
  induction l with
  | nil => rfl
  | cons v l ih => simp only [flatV, List.flatMap_cons, List.length_append, cells_len, List.length_cons] at ih ⊢; omega
theorem flatV_at (l : List Val) : ∀ (j : Nat) v, l[j]? = some v → ∀ (i : Nat) x, v.cells[i]? = some x → (flatV l)[j * 5 + i]? = some x := by
  induction l with
  | nil => intro j v hv; simp at hv
  | cons a l ih =>
    intro j v hv i x hx
    have hi : i < 5 := by
      rcases Nat.lt_or_ge i 5 with h | h
      · exact h
      · rw [List.getElem?_eq_none (by rw [cells_len]; exact h)] at hx; cases hx
    cases j with
    | zero =>
      simp only [List.getElem?_cons_zero, Option.some.injEq] at hv
      subst hv
      simp only [flatV, List.flatMap_cons]
      rw [List.getElem?_append_left (by rw [cells_len]; omega)]
      simpa using hx
    | succ j =>
      simp only [List.getElem?_cons_succ] at hv
      simp only [flatV, List.flatMap_cons]
      rw [List.getElem?_append_right (by rw [cells_len]; omega), cells_len, show (j + 1) * 5 + i - 5 = j * 5 + i by omega]
      exact ih j v hv i x hx
theorem flatV_one (l : List Val) : ∀ u ∈ flatV l, u.oneCell' = true := by
  intro u hu
  simp only [flatV, List.mem_flatMap] at hu
  obtain ⟨v, _, hu⟩ := hu
  simp only [Val.cells, List.mem_cons, List.not_mem_nil, or_false] at hu
  rcases hu with rfl | rfl | rfl | rfl | rfl <;> rfl
section
variable {H : Type} {enc : TypeId × Value → H} {W : World}
theorem cells8 : Tryz.prog.cellsOf 5 = 1 := by kernel_rfl
theorem cells64 : Tryz.prog.cellsOf 101 = 1 := by kernel_rfl
theorem cellsI64 : Tryz.prog.cellsOf 2 = 1 := by kernel_rfl
theorem cellsStr : Tryz.prog.cellsOf 9 = 1 := by kernel_rfl
end
end Go.Proofs.YtjcnglkjjhnpbaaGreatDoor
namespace Go.Proofs.YtjcnglkjjhnpbaaGreatDoor
open Go.RowKit

/-- A slice's parts: its address, its capacity, its bytes. -/
structure Seg where
  at_ : Option Addr
  cap : Nat
  l : List UInt8
def Seg.val (g : Seg) : Value := .slice g.at_ g.l.length g.cap
def glue : List Seg → List UInt8
  | [] => []
  | g :: gs => g.l ++ glue gs
theorem glue_snoc (gs : List Seg) (g : Seg) : glue (gs ++ [g]) = glue gs ++ g.l := by
  induction gs with
  | nil => simp [glue]
  | cons x gs ih => simp [glue, ih]
theorem glue_take (gs : List Seg) (k : Nat) (hk : k < gs.length) : glue (gs.take (k + 1)) = glue (gs.take k) ++ (gs[k]).l := by
  rw [List.take_succ_eq_append_getElem hk, glue_snoc]
theorem glue_take_le (gs : List Seg) (k : Nat) : (glue (gs.take k)).length ≤ (glue gs).length := by
  induction gs generalizing k with
  | nil => simp [glue]
  | cons g gs ih =>
    cases k with
    | zero => simp [glue]
    | succ k =>
      have := ih k
      simp only [List.take_succ_cons, glue, List.length_append]
      omega
/-- The cells of a slice of slices of bytes. -/
def Segs (w : World) (B b o : Nat) (gs : List Seg) : Prop := ∀ (j : Nat) g, gs[j]? = some g → w.cell? ⟨b, o + j, none⟩ = some (.slice g.at_ g.l.length g.cap) ∧ Rd w B g.at_ g.l

def OwnPost (B : Nat) (w : World) (l : List UInt8) (e : Ending) (w' : World) : Prop := ∃ v, e = .returned v ∧ OwnB w' B v l.length l ∧ Below B w w'
theorem OwnPost.cut {B : Nat} {w w' : World} {l : List UInt8} {e : Ending} (h : OwnPost B w l e w') : CutPost B w l e w' := by
  obtain ⟨v, rfl, ho, hb⟩ := h
  obtain ⟨hl, A', c', hv, hc1, hc2, hrd⟩ := own_form ho
  exact ⟨A', c', by rw [← hv], hc1, hc2, hrd, hb⟩

set_option maxHeartbeats 1000000 in
theorem Join_own (b o c B : Nat) (gs : List Seg) (n : Nat) (w : World) (hS : Segs w B b o gs) (hbB : b < B) (hB : B ≤ w.heap.size) (hn : gs.length = n) (hnm : n ≤ 140737488355328) (hm : (glue gs).length ≤ 140737488355328) :
    Calls Tryz.prog 21 #[.slice (some ⟨b, o, none⟩) n c] w (OwnPost w.heap.size w (glue gs)) := by
  subst hn
  go_enter Tryz.func21, Tryz.ntmps21
  go_wp2
  go_loopw [3, 8] (fun v i wr => ∃ k : Nat, k ≤ gs.length ∧ i = .int .i64 k ∧ OwnB wr w.heap.size v (glue (gs.take k)).length (glue (gs.take k)) ∧ Below w.heap.size w wr) (fun _ i _ => gs.length - (intOf i).toNat)
  case atStart => exact ⟨0, Nat.zero_le _, rfl, OwnB.nil_ _ _, Below.refl _ _⟩
  case round =>
    obtain ⟨k, hk, rfl, hown, hbl⟩ := hrel
    have hsz := hbl.size
    by_cases hlt : k < gs.length
    · obtain ⟨hc0, hr0⟩ := hS k _ (List.getElem?_eq_getElem hlt)
      have hc := (hbl.cell (p := ⟨b, o + k, none⟩) (by exact Nat.lt_of_lt_of_le hbB hB)).trans hc0
      have hr := Lib.hid ((hr0.more hB).below hbl)
      have HT := Lib.hid (glue_take gs k hlt)
      have hle := glue_take_le gs (k + 1)
      rw [HT.out, List.length_append] at hle
      have HO := Lib.hid hown
      clear hown hr0 hc0
      generalize glue (gs.take k) = sofar at HT HO hle
      generalize gs[k] = g at hc hr HT hle
      go_wp2_with (with_reducible refine wpList_append_bytes (o := ⟨some 14, _, _, _, _, _⟩) rfl (.tmp 12) (.tmp 13) rfl w.heap.size _ sofar.length sofar ?h1 HO.out w.heap.size g.at_ g.l.length g.cap g.l ?h2 hr.out rfl ?h3 hsz ?_)
      case h1 => rfl
      case h2 => rfl
      case h3 => omega
      intro v' w1 hown' hg
      have hbl' := hg.below HO.out hbl (Nat.le_refl _) hsz
      have HO' := Lib.hid hown'
      clear hown' hg
      go_wp2
      go_roundw
      case rel => exact ⟨k + 1, by omega, by go_num, by rw [HT.out, List.length_append]; exact HO'.out, hbl'⟩
      case measure => simp [intOf]; omega
    · obtain rfl : k = gs.length := by omega
      rw [List.take_of_length_le (Nat.le_refl _)] at hown
      have HO := Lib.hid hown
      clear hown
      go_wp2
      go_ret
      exact ⟨_, rfl, HO.out, hbl⟩
theorem Join_any (b o c B : Nat) (gs : List Seg) (n : Nat) (w : World) (hS : Segs w B b o gs) (hbB : b < B) (hB : B ≤ w.heap.size) (hn : gs.length = n) (hnm : n ≤ 140737488355328) (hm : (glue gs).length ≤ 140737488355328) :
    Calls Tryz.prog 21 #[.slice (some ⟨b, o, none⟩) n c] w (CutPost w.heap.size w (glue gs)) := (Join_own b o c B gs n w hS hbB hB hn hnm hm).mono fun _ _ h => h.cut

theorem seg_rd {w : World} {B : Nat} {A : Option Addr} {l : List UInt8} (h : Rd w B A l) (hB : B ≤ w.heap.size) (o : Obj) : Rd (w.alloc o) (w.heap.size + 1) A l := (h.alloc hB o).more (by omega)
/-- Join of two. -/
theorem Join_two (A1 A2 : Option Addr) (n1 n2 c1 c2 B1 B2 : Nat) (l1 l2 : List UInt8) (w : World) (h1 : Rd w B1 A1 l1) (hB1 : B1 ≤ w.heap.size) (h2 : Rd w B2 A2 l2) (hB2 : B2 ≤ w.heap.size) (hn1 : l1.length = n1) (hn2 : l2.length = n2) (hm : n1 + n2 ≤ 140737488355328) :
    Calls Tryz.prog 21 #[.slice (some ⟨w.heap.size, 0, none⟩) 2 2] (w.alloc (.cells #[.slice A1 n1 c1, .slice A2 n2 c2] 29)) (CutPost w.heap.size w (l1 ++ l2)) := by
  subst hn1 hn2
  have h := Join_any w.heap.size 0 2 (w.heap.size + 1) [⟨A1, c1, l1⟩, ⟨A2, c2, l2⟩] 2 (w.alloc (.cells #[.slice A1 l1.length c1, .slice A2 l2.length c2] 29)) (fun j g hg => by
      rcases j with _ | _ | j
      · simp only [List.getElem?_cons_zero, Option.some.injEq] at hg
        subst hg
        exact ⟨by simp [go_sem], seg_rd h1 hB1 _⟩
      · simp only [List.getElem?_cons_succ, List.getElem?_cons_zero, Option.some.injEq] at hg
        subst hg
        exact ⟨by simp [go_sem], seg_rd h2 hB2 _⟩
      · simp at hg) (by omega) (by simp) rfl (by decide) (by simp [glue]; omega)
  refine h.mono fun e w' hp => ?_
  obtain ⟨A, c, he, hc1, hc2, hr, hb⟩ := hp
  have e1 : glue [⟨A1, c1, l1⟩, ⟨A2, c2, l2⟩] = l1 ++ l2 := by simp [glue]
  rw [e1] at he hc1 hr
  exact ⟨A, c, he, hc1, hc2, hr, ((Below.refl _ w).alloc (Nat.le_refl _) _).trans (hb.mono (by simp))⟩
/-- Join of one. -/
theorem Join_one_own (A1 : Option Addr) (n1 c1 B1 : Nat) (l1 : List UInt8) (w : World) (h1 : Rd w B1 A1 l1) (hB1 : B1 ≤ w.heap.size) (hn1 : l1.length = n1) (hm : n1 ≤ 140737488355328) :
    Calls Tryz.prog 21 #[.slice (some ⟨w.heap.size, 0, none⟩) 1 1] (w.alloc (.cells #[.slice A1 n1 c1] 29)) (OwnPost w.heap.size w l1) := by
  subst hn1
  have h := Join_own w.heap.size 0 1 (w.heap.size + 1) [⟨A1, c1, l1⟩] 1 (w.alloc (.cells #[.slice A1 l1.length c1] 29)) (fun j g hg => by
      rcases j with _ | j
      · simp only [List.getElem?_cons_zero, Option.some.injEq] at hg
        subst hg
        exact ⟨by simp [go_sem], seg_rd h1 hB1 _⟩
      · simp at hg) (by omega) (by simp) rfl (by decide) (by simp [glue]; omega)
  refine h.mono fun e w' hp => ?_
  obtain ⟨v, he, ho, hb⟩ := hp
  have e1 : glue [⟨A1, c1, l1⟩] = l1 := by simp [glue]
  rw [e1] at ho
  refine ⟨v, he, ⟨ho.1, ?_⟩, ((Below.refl _ w).alloc (Nat.le_refl _) _).trans (hb.mono (by simp))⟩
  rcases ho.2 with h | ⟨g, cap, cur, ha, hg, hr⟩
  · exact .inl h
  · refine .inr ⟨g, cap, cur, ha, ?_, hr⟩
    have : (w.alloc (.cells #[.slice A1 l1.length c1] 29)).heap.size = w.heap.size + 1 := by simp
    omega
theorem Join_one (A1 : Option Addr) (n1 c1 B1 : Nat) (l1 : List UInt8) (w : World) (h1 : Rd w B1 A1 l1) (hB1 : B1 ≤ w.heap.size) (hn1 : l1.length = n1) (hm : n1 ≤ 140737488355328) :
    Calls Tryz.prog 21 #[.slice (some ⟨w.heap.size, 0, none⟩) 1 1] (w.alloc (.cells #[.slice A1 n1 c1] 29)) (CutPost w.heap.size w l1) := (Join_one_own A1 n1 c1 B1 l1 w h1 hB1 hn1 hm).mono fun _ _ h => h.cut
end Go.Proofs.YtjcnglkjjhnpbaaGreatDoor
namespace Go.Proofs.YtjcnglkjjhnpbaaGreatDoor
open Go.RowKit

theorem Join_two_own (A1 A2 : Option Addr) (n1 n2 c1 c2 B1 B2 : Nat) (l1 l2 : List UInt8) (w : World) (h1 : Rd w B1 A1 l1) (hB1 : B1 ≤ w.heap.size) (h2 : Rd w B2 A2 l2) (hB2 : B2 ≤ w.heap.size) (hn1 : l1.length = n1) (hn2 : l2.length = n2) (hm : n1 + n2 ≤ 140737488355328) :
    Calls Tryz.prog 21 #[.slice (some ⟨w.heap.size, 0, none⟩) 2 2] (w.alloc (.cells #[.slice A1 n1 c1, .slice A2 n2 c2] 29)) (OwnPost w.heap.size w (l1 ++ l2)) := by
  subst hn1 hn2
  have h := Join_own w.heap.size 0 2 (w.heap.size + 1) [⟨A1, c1, l1⟩, ⟨A2, c2, l2⟩] 2 (w.alloc (.cells #[.slice A1 l1.length c1, .slice A2 l2.length c2] 29)) (fun j g hg => by
      rcases j with _ | _ | j
      · simp only [List.getElem?_cons_zero, Option.some.injEq] at hg
        subst hg
        exact ⟨by simp [go_sem], seg_rd h1 hB1 _⟩
      · simp only [List.getElem?_cons_succ, List.getElem?_cons_zero, Option.some.injEq] at hg
        subst hg
        exact ⟨by simp [go_sem], seg_rd h2 hB2 _⟩
      · simp at hg) (by omega) (by simp) rfl (by decide) (by simp [glue]; omega)
  refine h.mono fun e w' hp => ?_
  obtain ⟨v, he, ho, hb⟩ := hp
  have e1 : glue [⟨A1, c1, l1⟩, ⟨A2, c2, l2⟩] = l1 ++ l2 := by simp [glue]
  rw [e1] at ho
  refine ⟨v, he, ⟨ho.1, ?_⟩, ((Below.refl _ w).alloc (Nat.le_refl _) _).trans (hb.mono (by simp))⟩
  rcases ho.2 with h | ⟨g, cap, cur, ha, hg, hr⟩
  · exact .inl h
  · refine .inr ⟨g, cap, cur, ha, ?_, hr⟩
    have : (w.alloc (.cells #[.slice A1 l1.length c1, .slice A2 l2.length c2] 29)).heap.size = w.heap.size + 1 := by simp
    omega
/-- Join of two, where what was made before lies between. -/
theorem Join_after (A1 A2 : Option Addr) (n1 n2 c1 c2 : Nat) (l1 l2 : List UInt8) (w0 w : World) (hb : Below w0.heap.size w0 w) (h1 : Rd w w.heap.size A1 l1) (h2 : Rd w w.heap.size A2 l2) (hn1 : l1.length = n1) (hn2 : l2.length = n2) (hm : n1 + n2 ≤ 140737488355328) :
    Calls Tryz.prog 21 #[.slice (some ⟨w.heap.size, 0, none⟩) 2 2] (w.alloc (.cells #[.slice A1 n1 c1, .slice A2 n2 c2] 29)) (OwnPost w0.heap.size w0 (l1 ++ l2)) := by
  refine (Join_two_own A1 A2 n1 n2 c1 c2 w.heap.size w.heap.size l1 l2 w h1 (Nat.le_refl _) h2 (Nat.le_refl _) hn1 hn2 hm).mono fun e w' hp => ?_
  obtain ⟨v, he, ho, hb'⟩ := hp
  refine ⟨v, he, ⟨ho.1, ?_⟩, hb.trans (hb'.mono hb.size)⟩
  rcases ho.2 with h | ⟨g, cap, cur, ha, hg, hr⟩
  · exact .inl h
  · exact .inr ⟨g, cap, cur, ha, Nat.le_trans hb.size hg, hr⟩
theorem one_rd (w : World) (x : Int) (u : UInt8) (h : x = (u.toNat : Int)) : Rd (w.alloc (.cells #[.int .u8 x] 5)) (w.alloc (.cells #[.int .u8 x] 5)).heap.size (some ⟨w.heap.size, 0, none⟩) [u] := fun _ =>
  ⟨w.heap.size, 0, rfl, by simp, one_byte h⟩

theorem bytes_rd (w : World) (e : TypeId) (s : ByteArray) : Rd (Lib.bytesWorld w e s) (Lib.bytesWorld w e s).heap.size (some ⟨w.heap.size, 0, none⟩) s.data.toList := fun _ =>
  ⟨w.heap.size, 0, rfl, by rw [Lib.bytesWorld_size]; omega, fun j u hu => by
    obtain ⟨hj, hv⟩ := List.getElem?_eq_some_iff.1 hu
    rw [Nat.zero_add, Lib.bytesWorld_cell w e s j (by simpa using hj), List.getD, hu, Option.getD_some]⟩

set_option maxRecDepth 20000 in
set_option maxHeartbeats 2000000 in
theorem RDigits_any (n : Nat) (hn : n < 18446744073709551616) (w : World) : Calls Tryz.prog 92 #[.int .u64 (n : Int)] w (OwnPost w.heap.size w (digs n)) := by
  induction n using Nat.strongRecOn generalizing w with
  | ind n ih =>
    by_cases h0 : n = 0
    · subst h0
      go_enter Tryz.func92, Tryz.ntmps92
      go_wp2_with fail
      go_ret
      exact ⟨_, rfl, by rw [digs_zero]; exact OwnB.nil_ _ _, Below.refl _ _⟩
    · have h := ih (n / 256) (by omega) (by omega) w
      have hs := digs_step n (by omega) hn
      have hl := digs_len (n / 256)
      have h8 := nb_le (n / 256) (by omega)
      have H := Lib.hid h
      have HS := Lib.hid hs
      have HL := Lib.hid hl
      have hq : ((n / 256 : Nat) : Int) = (n : Int) / 256 := by omega
      have hz : ¬ (n : Int) = 0 := by omega
      have hr : (((n % 256 : Nat)) : Int) = (n : Int) % 256 := by omega
      clear h hs hl ih
      go_enter Tryz.func92, Tryz.ntmps92
      go_wp2_with fail
      rw [← hq]
      refine H.out.mono ?_
      rintro e w1 ⟨v, rfl, ho, hb⟩
      obtain ⟨hl1, A, c, rfl, hc1, hc2, hrd⟩ := own_form ho
      have hu : (n : Int) % 256 = ((UInt8.ofNat (n % 256)).toNat : Int) := by rw [ofNat_nat _ (by omega)]; omega
      have hJ := Join_after A (some ⟨w1.heap.size, 0, none⟩) (digs (n / 256)).length 1 c 1 (digs (n / 256)) [UInt8.ofNat (n % 256)] w (w1.alloc (.cells #[.int .u8 ((n : Int) % 256)] 5)) (hb.alloc hb.size _) ((hrd.alloc (Nat.le_refl _) _).more (by simp)) (one_rd w1 _ _ hu) rfl rfl (by rw [HL.out]; omega)
      rw [show (w1.alloc (.cells #[.int .u8 ((n : Int) % 256)] 5)).heap.size = w1.heap.size + 1 by simp, ← HS.out] at hJ
      have HJ := Lib.hid hJ
      clear ho hb hrd H hJ hu
      go_wp2_with fail
      refine HJ.out.mono ?_
      rintro e w2 ⟨v, rfl, ho2, hb2⟩
      have HO2 := Lib.hid ho2
      have HB2 := Lib.hid hb2
      clear ho2 hb2
      go_wp2_with fail
      go_ret
      exact ⟨v, rfl, HO2.out, HB2.out⟩

set_option maxRecDepth 20000 in
set_option maxHeartbeats 2000000 in
theorem RUint_any (n : Nat) (hn : n < 18446744073709551616) (w : World) : Calls Tryz.prog 50 #[.int .u64 (n : Int)] w (OwnPost w.heap.size w (layN 0 n)) := by
  have hl := digs_len n
  have h8 := nb_le n hn
  have h := RDigits_any n hn w
  obtain ⟨D, hD⟩ : ∃ D, digs n = D := ⟨_, rfl⟩
  have hlay : layN 0 n = [UInt8.ofNat D.length] ++ D := by unfold layN; rw [← digs_len, hD, Nat.zero_add]; rfl
  rw [hD] at h hl
  rw [hlay]
  have hd8 : D.length ≤ 8 := by omega
  have H := Lib.hid h
  clear hlay h hl h8 hD
  go_enter Tryz.func50, Tryz.ntmps50
  go_wp2_with fail
  refine H.out.mono ?_
  rintro e w1 ⟨v, rfl, ho, hb⟩
  obtain ⟨hl1, A, c, rfl, hc1, hc2, hrd⟩ := own_form ho
  have hu : (D.length : Int) = ((UInt8.ofNat D.length).toNat : Int) := by rw [ofNat_nat _ (by omega)]
  have hJ := Join_after (some ⟨w1.heap.size, 0, none⟩) A 1 D.length 1 c [UInt8.ofNat D.length] D w (w1.alloc (.cells #[.int .u8 (D.length : Int)] 5)) (hb.alloc hb.size _) (one_rd w1 _ _ hu) ((hrd.alloc (Nat.le_refl _) _).more (by simp)) rfl rfl (by omega)
  rw [show (w1.alloc (.cells #[.int .u8 (D.length : Int)] 5)).heap.size = w1.heap.size + 1 by simp] at hJ
  have HJ := Lib.hid hJ
  clear ho hb hrd H hJ hu
  go_wp2_with fail
  refine HJ.out.mono ?_
  rintro e w2 ⟨v, rfl, ho2, hb2⟩
  have HO2 := Lib.hid ho2
  have HB2 := Lib.hid hb2
  clear ho2 hb2
  go_wp2_with fail
  go_ret
  exact ⟨v, rfl, HO2.out, HB2.out⟩

end Go.Proofs.YtjcnglkjjhnpbaaGreatDoor
namespace Go.Proofs.YtjcnglkjjhnpbaaGreatDoor
open Go.ChangeShapes Go.WideShapes Go.ChangeAt Go.RowKit

set_option maxRecDepth 20000 in
set_option maxHeartbeats 1000000 in
theorem Text40_any (s : ByteArray) (hs : s.size ≤ maxLen) (w : World) :
    Calls Tryz.prog 22 #[.string s, .int .i64 40] w fun e w' => (∃ s' : ByteArray, s'.size ≤ 40 ∧ e = .returned (.string s')) ∧ w = w' := by
  unfold maxLen at hs
  by_cases h : s.size ≤ 40
  · have h2 : min (s.size : Int) 40 = (s.size : Int) := by omega
    go_enter Tryz.func22, Tryz.ntmps22
    go_wp2_with fail
    go_ret
    refine ⟨⟨_, ?_, rfl⟩, rfl⟩
    first | exact h | (simp [ByteArray.size_extract] <;> omega)
  · go_enter Tryz.func22, Tryz.ntmps22
    go_wp2_with fail
    go_ret
    refine ⟨⟨_, ?_, rfl⟩, rfl⟩
    first | exact h | (simp [ByteArray.size_extract] <;> omega)

section
variable (b g : Nat)
end

/-- What few leaves of a value. -/
structure Val.Good (v : Val) : Prop where
  ok : v.Ok
  s : v.s.size ≤ 40
  m : v.k % 4 = 3 → v.m < 1000
def FVPost (w : World) (e : Ending) (w' : World) : Prop :=
  ∃ (A : Option Addr) (c : Nat) (l : List Val), e = .returned (.slice A l.length c) ∧ l.length ≤ c ∧ c ≤ maxLen ∧ l.length ≤ 12 ∧ (∀ v ∈ l, v.Good) ∧ Rvs w' w'.heap.size A l ∧ Below w.heap.size w w'

end Go.Proofs.YtjcnglkjjhnpbaaGreatDoor
namespace Go.Proofs.YtjcnglkjjhnpbaaGreatDoor
open Go.RowKit

theorem own_len {w : World} {base : Nat} {v : Value} {n : Nat} {l : List UInt8} (h : OwnB w base v n l) : l.length = n := by
  have := h.1
  simpa using this

set_option maxHeartbeats 1000000 in
theorem CutO_any (A : Option Addr) (n c B most : Nat) (l : List UInt8) (w : World) (hR : Rd w B A l) (hn : l.length = n) (hm : n ≤ 140737488355328) (hmost : most ≤ 140737488355328) (hB : B ≤ w.heap.size) :
    Calls Tryz.prog 16 #[.slice A n c, .int .i64 most] w (ClPost w (l.take most)) := by
  subst hn
  go_enter Tryz.func16, Tryz.ntmps16
  go_wp2
  go_loopw [5, 10] (fun v i wr => ∃ k : Nat, k ≤ l.length ∧ i = .int .i64 k ∧ OwnB wr w.heap.size v (min k most) (l.take (min k most)) ∧ Below w.heap.size w wr) (fun _ i _ => l.length - (intOf i).toNat)
  case atStart => exact ⟨0, Nat.zero_le _, rfl, by simpa using OwnB.nil_ _ _, Below.refl _ _⟩
  case round =>
    obtain ⟨k, hk, rfl, hown, hbl⟩ := hrel
    by_cases hlt : k < l.length
    · obtain ⟨b, o, rfl, hb, hc0⟩ := hR.at_ hlt
      have hc := (hbl.cell (p := ⟨b, o + k, none⟩) (by exact Nat.lt_of_lt_of_le hb hB)).trans hc0
      have hsz := hbl.size
      by_cases hmk : k < most
      · rw [Nat.min_eq_left (by omega : k ≤ most)] at hown
        have HO := Lib.hid (hown.alloc (.cells #[.int .u8 ((l[k]).toNat : Int)] 5))
        have HT := Lib.hid (show l.take k ++ [l[k]] = l.take (min (k + 1) most) from by rw [Nat.min_eq_left (by omega), List.take_succ_eq_append_getElem hlt])
        have HR1 := Lib.hid (rd_one wr l[k])
        clear hown
        go_wp2_with (with_reducible refine wpList_append_bytes (o := ⟨some 21, _, _, _, _, _⟩) rfl (.tmp 18) (.tmp 20) rfl w.heap.size _ k (l.take k) ?h1 HO.out (wr.heap.size + 1) (some ⟨wr.heap.size, 0, none⟩) 1 1 [l[k]] ?h2 HR1.out rfl ?h3 ?h4 ?_)
        case h1 => rfl
        case h2 => rfl
        case h3 => omega
        case h4 => simp; omega
        intro v' w1 hown' hg
        have hbl' := hg.below HO.out (hbl.alloc hsz _) (Nat.le_refl _) (by simp; omega)
        have HO' := Lib.hid hown'
        clear hown' hg
        go_wp2
        go_roundw
        case rel => exact ⟨k + 1, by omega, by go_num, by rw [Nat.min_eq_left (by omega)]; simpa using HO'.out, hbl'⟩
        case measure => simp [intOf]; omega
      · have e1 : min k most = most := Nat.min_eq_right (by omega)
        have e2 : min (k + 1) most = most := Nat.min_eq_right (by omega)
        have HE := Lib.hid e1
        have HE2 := Lib.hid e2
        have HO := Lib.hid hown
        clear hown e1 e2
        go_wp2
        go_roundw
        case rel => exact ⟨k + 1, by omega, by go_num, by rw [HE2.out]; have h := HO.out; rw [HE.out] at h; exact h, hbl⟩
        case measure => simp [intOf]; omega
    · have HO := Lib.hid hown
      clear hown
      go_wp2
      go_ret
      have h := HO.out
      have e : l.take (min k most) = l.take most := by
        obtain rfl : k = l.length := by omega
        rcases Nat.le_total l.length most with h1 | h1
        · rw [Nat.min_eq_left h1, List.take_of_length_le (Nat.le_refl _), List.take_of_length_le h1]
        · rw [Nat.min_eq_right h1]
      rw [e] at h
      have hl := own_len h
      exact ⟨_, rfl, by rw [hl]; exact h, hbl⟩

theorem takeU_some {most : Nat} {l : List UInt8} {n : Nat} {r : List UInt8} (h : takeU most l = some (n, r)) : numT l = some (false, n, r) ∧ n ≤ most := by
  unfold takeU at h
  split at h
  · rename_i heq
    split at h
    · simp only [Option.some.injEq, Prod.mk.injEq] at h
      obtain ⟨rfl, rfl⟩ := h
      exact ⟨heq, by assumption⟩
    · cases h
  · cases h
theorem uV_of {most : Nat} {l : List UInt8} {n : Nat} {r : List UInt8} (h : takeU most l = some (n, r)) : uV most (some l) = n := by unfold uV; simp [h]
theorem uS_inv {most : Nat} {l : List UInt8} {r : List UInt8} (h : uS most (some l) = some r) : ∃ n, takeU most l = some (n, r) := by
  unfold uS at h
  simp only [Option.bind_some] at h
  cases ht : takeU most l with
  | none => rw [ht] at h; cases h
  | some x =>
    obtain ⟨n, r'⟩ := x
    rw [ht] at h
    simp only [Option.some.injEq] at h
    subst h
    exact ⟨n, rfl⟩
theorem zero_in : (-9223372036854775808 : Int) ≤ 0 ∧ (0 : Int) ≤ 9223372036854775807 := by decide
theorem no_size : (⟨#[]⟩ : ByteArray).size ≤ 1000 := by decide
theorem zero_lt : (0 : Nat) < 18446744073709551616 := by decide
/-- What was taken is what is laid of it. -/
theorem take_lay {l r : List UInt8} {v : Val} (h : takeR (some l) v = some r) : l = layV (takeO (some l) v) ++ r := by
  unfold takeR at h
  unfold takeO layV
  by_cases h0 : v.k % 4 = 0
  · rw [if_pos h0] at h
    rw [if_pos h0]
    simp only
    rw [if_pos h0]
    obtain ⟨n, ht⟩ := uS_inv h
    rw [uV_of ht]
    exact numT_one (takeU_some ht).1
  rw [if_neg h0] at h
  rw [if_neg h0]
  by_cases h1 : v.k % 4 = 1
  · rw [if_pos h1] at h
    rw [if_pos h1]
    simp only
    rw [if_neg h0, if_pos h1]
    unfold iS at h
    unfold iV
    simp only [Option.bind_some] at h ⊢
    cases ht : takeI l with
    | none => rw [ht] at h; cases h
    | some x =>
      obtain ⟨n, r'⟩ := x
      rw [ht] at h
      simp only [Option.some.injEq] at h
      subst h
      simp only
      unfold takeI at ht
      split at ht
      · rename_i m k s heq
        split at ht
        · simp only [Option.some.injEq, Prod.mk.injEq] at ht
          obtain ⟨rfl, rfl⟩ := ht
          have := numT_one heq
          cases m with
          | true =>
            simp only [if_true] at this ⊢
            unfold layI
            rw [if_neg (by omega), show (-1 - (-1 - (k : Int))).toNat = k by omega]
            exact this
          | false =>
            simp only [Bool.false_eq_true, if_false] at this ⊢
            unfold layI
            rw [if_pos (by omega), Int.toNat_natCast]
            exact this
        · cases ht
      · cases ht
  rw [if_neg h1] at h
  rw [if_neg h1]
  by_cases h2 : v.k % 4 = 2
  · rw [if_pos h2] at h
    rw [if_pos h2]
    simp only
    rw [if_neg h0, if_neg h1, if_pos h2]
    obtain ⟨n, ht⟩ := uS_inv h
    rw [uV_of ht]
    obtain ⟨g1, g2⟩ := takeU_some ht
    have := numT_one g1
    rcases (show n = 0 ∨ n = 1 by omega) with rfl | rfl
    · exact this
    · exact this
  rw [if_neg h2] at h
  rw [if_neg h2]
  simp only
  rw [if_neg h0, if_neg h1, if_neg h2]
  unfold tS at h
  unfold tV
  simp only [Option.bind_some] at h ⊢
  cases ht : takeS (v.m % 1000) l with
  | none => rw [ht] at h; cases h
  | some x =>
    obtain ⟨t, r'⟩ := x
    rw [ht] at h
    simp only [Option.some.injEq] at h
    subst h
    simp only
    unfold takeS at ht
    split at ht
    · rename_i n s heq
      split at ht
      · rename_i hle
        simp only [Option.some.injEq, Prod.mk.injEq] at ht
        obtain ⟨rfl, rfl⟩ := ht
        have := numT_one (takeU_some heq).1
        unfold layT
        rw [List.length_take, Nat.min_eq_left hle, List.append_assoc, List.take_append_drop]
        exact this
      · cases ht
    · cases ht
theorem takeR_none (v : Val) : takeR none v = none := by
  unfold takeR uS iS tS
  simp only [Option.bind_none]
  split <;> (try split) <;> (try split) <;> rfl
theorem uV_lt (most : Nat) (st : Option (List UInt8)) : uV most st < 18446744073709551616 := by
  cases st with
  | none => exact zero_lt
  | some l =>
    cases ht : takeU most l with
    | none =>
      have : uV most (some l) = 0 := by unfold uV; simp [ht]
      rw [this]
      exact zero_lt
    | some x =>
      obtain ⟨n, r⟩ := x
      rw [uV_of ht]
      exact (numT_lt (takeU_some ht).1).1
theorem iV_in (st : Option (List UInt8)) : -9223372036854775808 ≤ iV st ∧ iV st ≤ 9223372036854775807 := by
  unfold iV
  cases st with
  | none => decide
  | some l =>
    simp only [Option.bind_some]
    cases ht : takeI l with
    | none => decide
    | some x =>
      obtain ⟨n, r⟩ := x
      simp only
      unfold takeI at ht
      split at ht
      · rename_i m k s heq
        split at ht
        · simp only [Option.some.injEq, Prod.mk.injEq] at ht
          obtain ⟨rfl, rfl⟩ := ht
          cases m <;> simp <;> omega
        · cases ht
      · cases ht
theorem tV_size (most : Nat) (st : Option (List UInt8)) : (tV most st).size ≤ most := by
  unfold tV
  cases st with
  | none => simp [ByteArray.size]
  | some l =>
    simp only [Option.bind_some]
    cases ht : takeS most l with
    | none => simp [ByteArray.size]
    | some x =>
      obtain ⟨t, r⟩ := x
      simp only
      unfold takeS at ht
      split at ht
      · rename_i n s heq
        split at ht
        · simp only [Option.some.injEq, Prod.mk.injEq] at ht
          obtain ⟨rfl, rfl⟩ := ht
          have := (takeU_some heq).2
          show (s.take n).toArray.size ≤ most
          simp
          omega
        · cases ht
      · cases ht
theorem takeO_ok {v : Val} (hv : v.Ok) (st : Option (List UInt8)) : (takeO st v).Ok := by
  unfold takeO
  have h1 := uV_lt v.m st
  have h2 := iV_in st
  have h3 := tV_size (v.m % 1000) st
  split
  · exact ⟨hv.k, h1, zero_in, no_size, zero_lt⟩
  · split
    · exact ⟨hv.k, zero_lt, h2, no_size, zero_lt⟩
    · split
      · exact ⟨hv.k, by show (if uV 1 st = 1 then 1 else 0) < _; split <;> decide, zero_in, no_size, zero_lt⟩
      · exact ⟨hv.k, zero_lt, zero_in, by show (tV (v.m % 1000) st).size ≤ 1000; omega, zero_lt⟩
theorem layN_len (m n : Nat) (hn : n < 18446744073709551616) : (layN m n).length ≤ 9 := by
  unfold layN
  rw [List.length_cons, digs_len]
  have := nb_le n hn
  omega
theorem layV_len {v : Val} (hv : v.Ok) : (layV v).length ≤ 1009 := by
  unfold layV
  split
  · have := layN_len 0 v.u hv.u; omega
  · split
    · unfold layI
      have h := hv.i
      split
      · have := layN_len 0 v.i.toNat (by omega); omega
      · have := layN_len 128 (-1 - v.i).toNat (by omega); omega
    · split
      · unfold layF
        have := layN_len 0 (if (v.u % 2 == 1) = true then 1 else 0) (by split <;> decide)
        omega
      · unfold layT
        have h := hv.s
        have e : v.s.data.toList.length = v.s.size := by simp
        rw [List.length_append, e]
        have := layN_len 0 v.s.size (by omega)
        omega
theorem awake_bytes : ([] ++ layN 0 300) ++ layI (-1) = [2, 1, 44, 128] := by decide
theorem awake_num : uV 300 (some [2, 1, 44, 128]) = 300 := by decide

end Go.Proofs.YtjcnglkjjhnpbaaGreatDoor
namespace Go.Proofs.YtjcnglkjjhnpbaaGreatDoor
open Go.ChangeShapes Go.WideShapes Go.ChangeAt Go.RowKit

theorem own_at {w : World} {base : Nat} {v : Value} {n : Nat} {l : List UInt8} (h : OwnB w base v n l) : ∃ A c, v = .slice A l.length c ∧ Rd w w.heap.size A l ∧ (A = none → l.length = 0 ∧ c = 0) := by
  obtain ⟨hl, A, c, g, rfl, h1, h2, h3, h4, h5, h6⟩ := own_rg h (max base w.heap.size) (Nat.le_max_left _ _)
  refine ⟨A, c, by rw [hl], h4.rd, fun e => ⟨by have := h5 e; omega, h5 e⟩⟩
theorem rd_laterF {w w' : World} {A : Option Addr} {l : List UInt8} (h : Rd w w.heap.size A l) (hb : Below w.heap.size w w') : Rd w' w'.heap.size A l := (h.below hb).more hb.size
theorem JoinP {A : Option Addr} {n c : Nat} {l : List UInt8} {w : World} (hr : Rd w w.heap.size A l) (hn : l.length = n) (hm : n ≤ 1000) :
    Calls Tryz.prog 21 #[.slice (some ⟨w.heap.size + 1, 0, none⟩) 2 2] ((w.alloc (.cells #[.int .u8 0] 5)).alloc (.cells #[.slice A n c, .slice (some ⟨w.heap.size, 0, none⟩) 1 1] 29)) fun e w' => ∃ A' c', e = .returned (.slice A' (l ++ [0]).length c') ∧ Rd w' w'.heap.size A' (l ++ [0]) ∧ (A' = none → (l ++ [0]).length = 0 ∧ c' = 0) ∧ Below w.heap.size w w' := by
  have hb := b_alloc w (.cells #[.int .u8 0] 5)
  have h := Join_two_own A (some ⟨w.heap.size, 0, none⟩) n 1 c 1 (w.alloc (.cells #[.int .u8 0] 5)).heap.size (w.alloc (.cells #[.int .u8 0] 5)).heap.size l [0] (w.alloc (.cells #[.int .u8 0] 5)) (rd_laterF hr hb) (Nat.le_refl _) (one_rd w 0 0 (by decide)) (Nat.le_refl _) hn rfl (by omega)
  rw [show (w.alloc (.cells #[.int .u8 0] 5)).heap.size = w.heap.size + 1 by simp] at h
  refine h.mono ?_
  rintro e w' ⟨v, rfl, ho, hb2⟩
  obtain ⟨A', c', rfl, hr', hz'⟩ := own_at ho
  exact ⟨A', c', rfl, hr', hz', hb.trans (hb2.mono (by simp))⟩
theorem Join1 {A : Option Addr} {n c : Nat} {l : List UInt8} {w : World} (hr : Rd w w.heap.size A l) (hn : l.length = n) (hm : n ≤ 1000) :
    Calls Tryz.prog 21 #[.slice (some ⟨w.heap.size, 0, none⟩) 1 1] (w.alloc (.cells #[.slice A n c] 29)) (OwnPost w.heap.size w l) := Join_one_own A n c w.heap.size l w hr (Nat.le_refl _) hn (by omega)
theorem own_put {w : World} {base n : Nat} {v : Value} {l : List UInt8} (h : OwnB w base v n l) {i : Nat} (hi : i < l.length) : ∃ g c, v = .slice (some ⟨g, 0, none⟩) l.length c ∧ base ≤ g ∧ g < w.heap.size ∧ (∃ u : UInt8, w.cell? ⟨g, i, none⟩ = some (.int .u8 (u.toNat : Int))) ∧ w.frozen? ⟨g, i, none⟩ = false ∧
    ∀ u1 : UInt8, ∃ l' : List UInt8, l'.length = l.length ∧ Rd (w.setCell ⟨g, i, none⟩ (.int .u8 (u1.toNat : Int))) (w.setCell ⟨g, i, none⟩ (.int .u8 (u1.toNat : Int))).heap.size (some ⟨g, 0, none⟩) l' := by
  have hl : l.length = n := by have := h.1; simpa using this
  have h' := h
  unfold OwnB at h'
  rcases h'.2 with ⟨rfl, rfl⟩ | ⟨g, cap, cur, rfl, hb, hg, hnc, hcm, _⟩
  · omega
  · have hk : Blk w g 5 cur := hg
    have hcs := World.ownsRow.cells h' (g := g) rfl
    have hcell : ∀ (j : Nat) u, l[j]? = some u → w.cell? ⟨g, j, none⟩ = some (.int .u8 (u.toNat : Int)) := fun j u hu => by
      have := hcs j (enc8 u) (by rw [List.getElem?_map, hu]; rfl)
      simpa [go_sem, enc8] using this
    have h0 := hcell i l[i] (List.getElem?_eq_getElem hi)
    refine ⟨g, cap, by rw [hl], hb, hk.lt, ⟨l[i], h0⟩, hk.frozen i, fun u1 => ⟨l.set i u1, by simp, fun _ => ⟨g, 0, rfl, by simpa [World.setCell] using hk.lt, fun j u hu => ?_⟩⟩⟩
    rw [Nat.zero_add]
    by_cases e : j = i
    · subst e
      rw [List.getElem?_set_self hi] at hu
      injection hu with hu
      subst hu
      have hlt : j < cur.size := by
        have := hk.cell j
        rw [h0] at this
        exact (Array.getElem?_eq_some_iff.1 this.symm).1
      rw [(hk.set_ j _).cell j]
      simp [hlt]
    · rw [List.getElem?_set_ne (fun e' => e e'.symm)] at hu
      rw [World.cell?_setCell_other w ⟨g, i, none⟩ ⟨g, j, none⟩ _ (by simp)]
      exact hcell j u hu
theorem xor_of (u : UInt8) (t : Nat) : ∃ u1 : UInt8, bits .xor .u8 (u.toNat : Int) (t : Int) = (u1.toNat : Int) := by
  have h0 := bits_lo_u8 .xor (u.toNat : Int) (t : Int)
  have h1 := bits_hi_u8 .xor (u.toNat : Int) (t : Int)
  refine ⟨UInt8.ofNat (bits .xor .u8 (u.toNat : Int) (t : Int)).toNat, ?_⟩
  rw [UInt8.toNat_ofNat']
  omega
theorem SameB {A A' : Option Addr} {n c n' c' : Nat} {l m : List UInt8} {w : World} (hR : Rd w w.heap.size A l) (hn : l.length = n) (hm : n ≤ 1000) (hR' : Rd w w.heap.size A' m) (hn' : m.length = n') (hm' : n' ≤ 1000) (h : l = m) : Calls Tryz.prog 19 #[.slice A n c, .slice A' n' c'] w (Ret (.bool true) w) := by
  have hS := Same_any A A' n c w.heap.size n' c' w.heap.size l m w hR hn (by unfold maxLen; omega) hR' hn' (by unfold maxLen; omega)
  rw [decide_eq_true h] at hS
  exact hS.mono fun e w' h => below_all h
def Els (w : World) (R : Nat) : Prop := R < w.heap.size ∧ ∀ k : Nat, k < 3 → ∃ A n c q, w.cell? ⟨R, k, none⟩ = some (.slice A n c) ∧ Rd w w.heap.size A q ∧ q.length = n ∧ n ≤ 1000 ∧ (A = none → n = 0 ∧ c = 0)
theorem els_new {w : World} {T : TypeId} {A0 A1 A2 : Option Addr} {n0 n1 n2 c0 c1 c2 : Nat} {q0 q1 q2 : List UInt8} (r0 : Rd w w.heap.size A0 q0) (r1 : Rd w w.heap.size A1 q1) (r2 : Rd w w.heap.size A2 q2) (h0 : q0.length = n0 ∧ n0 ≤ 1000 ∧ (A0 = none → n0 = 0 ∧ c0 = 0)) (h1 : q1.length = n1 ∧ n1 ≤ 1000 ∧ (A1 = none → n1 = 0 ∧ c1 = 0)) (h2 : q2.length = n2 ∧ n2 ≤ 1000 ∧ (A2 = none → n2 = 0 ∧ c2 = 0)) :
    Els (w.alloc (.cells #[.slice A0 n0 c0, .slice A1 n1 c1, .slice A2 n2 c2] T)) w.heap.size := by
  have hb := b_alloc w (.cells #[.slice A0 n0 c0, .slice A1 n1 c1, .slice A2 n2 c2] T)
  have hk := Blk.new w T #[.slice A0 n0 c0, .slice A1 n1 c1, .slice A2 n2 c2]
  refine ⟨by simp, fun k hk3 => ?_⟩
  rcases k with _ | _ | _ | k
  · exact ⟨_, _, _, _, by rw [hk.cell]; rfl, rd_laterF r0 hb, h0⟩
  · exact ⟨_, _, _, _, by rw [hk.cell]; rfl, rd_laterF r1 hb, h1⟩
  · exact ⟨_, _, _, _, by rw [hk.cell]; rfl, rd_laterF r2 hb, h2⟩
  · omega
end Go.Proofs.YtjcnglkjjhnpbaaGreatDoor
