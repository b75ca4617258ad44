/-
The references' Join. Conditions: the bytes are there, and not more than memory bears.
Values of the law: lay, take. Conditions: the Quill, the Lens are known, the value's numbers fit their kinds.
Rows of values: what they read as, what is appended; one among a law's arguments, opened; the law's few. No condition.
The references' Uint, Int, Flag, Text, Lay of layer 8. Conditions: a number of 64 bits, a text of at most 1000 bytes.
Rows of bytes made in a drawn region, and joined. No condition.
-/
import Derived.Test.YtjlajnackecfgaaGreatDoorSameW9
import Derived.Test.YtjlajnackecfgaaGreatDoorQuEW9
import Derived.Test.YtjlajnackecfgaaGreatDoorOdFW9
import Derived.Test.YtjlajnackecfgaaGreatDoorShutAW9
import Derived.Laws.AppendOwnNone
import Derived.Deep.Slices
import Derived.Lib.AtoiErrMem
import Derived.Test.YtjlajnackecfgaaGreatDoorByFW9
import Derived.Test.YtjlajnackecfgaaGreatDoorTrmCW9
import Derived.Test.YtjlajnackecfgaaGreatDoorOdZW9
namespace Go.Proofs.YtjlajnackecfgaaGreatDoor
open Go.RowKit

/-- A slice's parts: its address, its capacity, its bytes. -/
structure Seg where
  at_ : Option Addr
  cap : Nat
  l : List UInt8
def Seg.val (g : Seg) : Value := .slice g.at_ g.l.length g.cap
def glue : List Seg → List UInt8
  | [] => []
  | g :: gs => g.l ++ glue gs
theorem glue_snoc (gs : List Seg) (g : Seg) : glue (gs ++ [g]) = glue gs ++ g.l := by
  induction gs with
  | nil => simp [glue]
  | cons x gs ih => simp [glue, ih]
theorem glue_take (gs : List Seg) (k : Nat) (hk : k < gs.length) : glue (gs.take (k + 1)) = glue (gs.take k) ++ (gs[k]).l := by
  rw [List.take_succ_eq_append_getElem hk, glue_snoc]
theorem glue_take_le (gs : List Seg) (k : Nat) : (glue (gs.take k)).length ≤ (glue gs).length := by
  induction gs generalizing k with
  | nil => simp [glue]
  | cons g gs ih =>
    cases k with
    | zero => simp [glue]
    | succ k =>
      have := ih k
      simp only [List.take_succ_cons, glue, List.length_append]
      omega
/-- The cells of a slice of slices of bytes. -/
def Segs (w : World) (B b o : Nat) (gs : List Seg) : Prop := ∀ (j : Nat) g, gs[j]? = some g → w.cell? ⟨b, o + j, none⟩ = some (.slice g.at_ g.l.length g.cap) ∧ Rd w B g.at_ g.l

def OwnPost (B : Nat) (w : World) (l : List UInt8) (e : Ending) (w' : World) : Prop := ∃ v, e = .returned v ∧ OwnB w' B v l.length l ∧ Below B w w'
theorem OwnPost.cut {B : Nat} {w w' : World} {l : List UInt8} {e : Ending} (h : OwnPost B w l e w') : CutPost B w l e w' := by
  obtain ⟨v, rfl, ho, hb⟩ := h
  obtain ⟨hl, A', c', hv, hc1, hc2, hrd⟩ := own_form ho
  exact ⟨A', c', by rw [← hv], hc1, hc2, hrd, hb⟩

set_option maxHeartbeats 1000000 in
theorem Join_own (b o c B : Nat) (gs : List Seg) (n : Nat) (w : World) (hS : Segs w B b o gs) (hbB : b < B) (hB : B ≤ w.heap.size) (hn : gs.length = n) (hnm : n ≤ 140737488355328) (hm : (glue gs).length ≤ 140737488355328) :
    Calls Tryz.prog 16 #[.slice (some ⟨b, o, none⟩) n c] w (OwnPost w.heap.size w (glue gs)) := by
  subst hn
  go_enter Tryz.func16, Tryz.ntmps16
  go_wp2
  go_loopw [3, 8] (fun v i wr => ∃ k : Nat, k ≤ gs.length ∧ i = .int .i64 k ∧ OwnB wr w.heap.size v (glue (gs.take k)).length (glue (gs.take k)) ∧ Below w.heap.size w wr) (fun _ i _ => gs.length - (intOf i).toNat)
  case atStart => exact ⟨0, Nat.zero_le _, rfl, OwnB.nil_ _ _, Below.refl _ _⟩
  case round =>
    obtain ⟨k, hk, rfl, hown, hbl⟩ := hrel
    have hsz := hbl.size
    by_cases hlt : k < gs.length
    · obtain ⟨hc0, hr0⟩ := hS k _ (List.getElem?_eq_getElem hlt)
      have hc := (hbl.cell (p := ⟨b, o + k, none⟩) (by exact Nat.lt_of_lt_of_le hbB hB)).trans hc0
      have hr := Lib.hid ((hr0.more hB).below hbl)
      have HT := Lib.hid (glue_take gs k hlt)
      have hle := glue_take_le gs (k + 1)
      rw [HT.out, List.length_append] at hle
      have HO := Lib.hid hown
      clear hown hr0 hc0
      generalize glue (gs.take k) = sofar at HT HO hle
      generalize gs[k] = g at hc hr HT hle
      go_wp2_with (with_reducible refine wpList_append_bytes (o := ⟨some 14, _, _, _, _, _⟩) rfl (.tmp 12) (.tmp 13) rfl w.heap.size _ sofar.length sofar ?h1 HO.out w.heap.size g.at_ g.l.length g.cap g.l ?h2 hr.out rfl ?h3 hsz ?_)
      case h1 => rfl
      case h2 => rfl
      case h3 => omega
      intro v' w1 hown' hg
      have hbl' := hg.below HO.out hbl (Nat.le_refl _) hsz
      have HO' := Lib.hid hown'
      clear hown' hg
      go_wp2
      go_roundw
      case rel => exact ⟨k + 1, by omega, by go_num, by rw [HT.out, List.length_append]; exact HO'.out, hbl'⟩
      case measure => simp [intOf]; omega
    · obtain rfl : k = gs.length := by omega
      rw [List.take_of_length_le (Nat.le_refl _)] at hown
      have HO := Lib.hid hown
      clear hown
      go_wp2
      go_ret
      exact ⟨_, rfl, HO.out, hbl⟩
theorem Join_any (b o c B : Nat) (gs : List Seg) (n : Nat) (w : World) (hS : Segs w B b o gs) (hbB : b < B) (hB : B ≤ w.heap.size) (hn : gs.length = n) (hnm : n ≤ 140737488355328) (hm : (glue gs).length ≤ 140737488355328) :
    Calls Tryz.prog 16 #[.slice (some ⟨b, o, none⟩) n c] w (CutPost w.heap.size w (glue gs)) := (Join_own b o c B gs n w hS hbB hB hn hnm hm).mono fun _ _ h => h.cut

theorem seg_rd {w : World} {B : Nat} {A : Option Addr} {l : List UInt8} (h : Rd w B A l) (hB : B ≤ w.heap.size) (o : Obj) : Rd (w.alloc o) (w.heap.size + 1) A l := (h.alloc hB o).more (by omega)
/-- Join of two. -/
theorem Join_two (A1 A2 : Option Addr) (n1 n2 c1 c2 B1 B2 : Nat) (l1 l2 : List UInt8) (w : World) (h1 : Rd w B1 A1 l1) (hB1 : B1 ≤ w.heap.size) (h2 : Rd w B2 A2 l2) (hB2 : B2 ≤ w.heap.size) (hn1 : l1.length = n1) (hn2 : l2.length = n2) (hm : n1 + n2 ≤ 140737488355328) :
    Calls Tryz.prog 16 #[.slice (some ⟨w.heap.size, 0, none⟩) 2 2] (w.alloc (.cells #[.slice A1 n1 c1, .slice A2 n2 c2] 33)) (CutPost w.heap.size w (l1 ++ l2)) := by
  subst hn1 hn2
  have h := Join_any w.heap.size 0 2 (w.heap.size + 1) [⟨A1, c1, l1⟩, ⟨A2, c2, l2⟩] 2 (w.alloc (.cells #[.slice A1 l1.length c1, .slice A2 l2.length c2] 33)) (fun j g hg => by
      rcases j with _ | _ | j
      · simp only [List.getElem?_cons_zero, Option.some.injEq] at hg
        subst hg
        exact ⟨by simp [go_sem], seg_rd h1 hB1 _⟩
      · simp only [List.getElem?_cons_succ, List.getElem?_cons_zero, Option.some.injEq] at hg
        subst hg
        exact ⟨by simp [go_sem], seg_rd h2 hB2 _⟩
      · simp at hg) (by omega) (by simp) rfl (by decide) (by simp [glue]; omega)
  refine h.mono fun e w' hp => ?_
  obtain ⟨A, c, he, hc1, hc2, hr, hb⟩ := hp
  have e1 : glue [⟨A1, c1, l1⟩, ⟨A2, c2, l2⟩] = l1 ++ l2 := by simp [glue]
  rw [e1] at he hc1 hr
  exact ⟨A, c, he, hc1, hc2, hr, ((Below.refl _ w).alloc (Nat.le_refl _) _).trans (hb.mono (by simp))⟩
/-- Join of one. -/
theorem Join_one_own (A1 : Option Addr) (n1 c1 B1 : Nat) (l1 : List UInt8) (w : World) (h1 : Rd w B1 A1 l1) (hB1 : B1 ≤ w.heap.size) (hn1 : l1.length = n1) (hm : n1 ≤ 140737488355328) :
    Calls Tryz.prog 16 #[.slice (some ⟨w.heap.size, 0, none⟩) 1 1] (w.alloc (.cells #[.slice A1 n1 c1] 33)) (OwnPost w.heap.size w l1) := by
  subst hn1
  have h := Join_own w.heap.size 0 1 (w.heap.size + 1) [⟨A1, c1, l1⟩] 1 (w.alloc (.cells #[.slice A1 l1.length c1] 33)) (fun j g hg => by
      rcases j with _ | j
      · simp only [List.getElem?_cons_zero, Option.some.injEq] at hg
        subst hg
        exact ⟨by simp [go_sem], seg_rd h1 hB1 _⟩
      · simp at hg) (by omega) (by simp) rfl (by decide) (by simp [glue]; omega)
  refine h.mono fun e w' hp => ?_
  obtain ⟨v, he, ho, hb⟩ := hp
  have e1 : glue [⟨A1, c1, l1⟩] = l1 := by simp [glue]
  rw [e1] at ho
  refine ⟨v, he, ⟨ho.1, ?_⟩, ((Below.refl _ w).alloc (Nat.le_refl _) _).trans (hb.mono (by simp))⟩
  rcases ho.2 with h | ⟨g, cap, cur, ha, hg, hr⟩
  · exact .inl h
  · refine .inr ⟨g, cap, cur, ha, ?_, hr⟩
    have : (w.alloc (.cells #[.slice A1 l1.length c1] 33)).heap.size = w.heap.size + 1 := by simp
    omega
theorem Join_one (A1 : Option Addr) (n1 c1 B1 : Nat) (l1 : List UInt8) (w : World) (h1 : Rd w B1 A1 l1) (hB1 : B1 ≤ w.heap.size) (hn1 : l1.length = n1) (hm : n1 ≤ 140737488355328) :
    Calls Tryz.prog 16 #[.slice (some ⟨w.heap.size, 0, none⟩) 1 1] (w.alloc (.cells #[.slice A1 n1 c1] 33)) (CutPost w.heap.size w l1) := (Join_one_own A1 n1 c1 B1 l1 w h1 hB1 hn1 hm).mono fun _ _ h => h.cut
end Go.Proofs.YtjlajnackecfgaaGreatDoor
namespace Go.Proofs.YtjlajnackecfgaaGreatDoor
open Go.RowKit

structure Val where
  k : Nat
  u : Nat
  i : Int
  s : ByteArray
  m : Nat
/-- Its numbers fit their kinds; its text is short. -/
structure Val.Ok (v : Val) : Prop where
  k : v.k < 256
  u : v.u < 18446744073709551616
  i : -9223372036854775808 ≤ v.i ∧ v.i ≤ 9223372036854775807
  s : v.s.size ≤ 1000
  m : v.m < 18446744073709551616
def Val.cells (v : Val) : List Value := [.int .u8 (v.k : Int), .int .u64 (v.u : Int), .int .i64 v.i, .string v.s, .int .u64 (v.m : Int)]
def Val.enc (v : Val) : Value := .agg #[.int .u8 (v.k : Int), .int .u64 (v.u : Int), .int .i64 v.i, .string v.s, .int .u64 (v.m : Int)]
def layV (v : Val) : List UInt8 := if v.k % 4 = 0 then layN 0 v.u else if v.k % 4 = 1 then layI v.i else if v.k % 4 = 2 then layF (v.u % 2 == 1) else layT v.s.data.toList
def takeO (st : Option (List UInt8)) (v : Val) : Val :=
  if v.k % 4 = 0 then ⟨v.k, uV v.m st, 0, ⟨#[]⟩, 0⟩ else if v.k % 4 = 1 then ⟨v.k, 0, iV st, ⟨#[]⟩, 0⟩ else if v.k % 4 = 2 then ⟨v.k, if uV 1 st = 1 then 1 else 0, 0, ⟨#[]⟩, 0⟩ else ⟨v.k, 0, 0, tV (v.m % 1000) st, 0⟩
def takeR (st : Option (List UInt8)) (v : Val) : Option (List UInt8) :=
  if v.k % 4 = 0 then uS v.m st else if v.k % 4 = 1 then iS st else if v.k % 4 = 2 then uS 1 st else tS (v.m % 1000) st

section
variable (B q : Nat) (r : Option Nat) (l : List UInt8)
end

theorem set5 {w : World} {g : Nat} {T : TypeId} {a b c d e : Value} (h : Blk w g T #[a, b, c, d, e]) (x y z u v : Value) :
    (w.setCell ⟨g, 0, none⟩ x).cell? ⟨g, 0, none⟩ = some x ∧ ((w.setCell ⟨g, 0, none⟩ x).setCell ⟨g, 1, none⟩ y).cell? ⟨g, 1, none⟩ = some y ∧
      (((w.setCell ⟨g, 0, none⟩ x).setCell ⟨g, 1, none⟩ y).setCell ⟨g, 2, none⟩ z).cell? ⟨g, 2, none⟩ = some z ∧
      ((((w.setCell ⟨g, 0, none⟩ x).setCell ⟨g, 1, none⟩ y).setCell ⟨g, 2, none⟩ z).setCell ⟨g, 3, none⟩ u).cell? ⟨g, 3, none⟩ = some u ∧
      (((((w.setCell ⟨g, 0, none⟩ x).setCell ⟨g, 1, none⟩ y).setCell ⟨g, 2, none⟩ z).setCell ⟨g, 3, none⟩ u).setCell ⟨g, 4, none⟩ v).cell? ⟨g, 4, none⟩ = some v :=
  ⟨(h.set_ 0 x).cell 0, ((h.set_ 0 x).set_ 1 y).cell 1, (((h.set_ 0 x).set_ 1 y).set_ 2 z).cell 2, ((((h.set_ 0 x).set_ 1 y).set_ 2 z).set_ 3 u).cell 3, (((((h.set_ 0 x).set_ 1 y).set_ 2 z).set_ 3 u).set_ 4 v).cell 4⟩

theorem Far.setNew {a w : World} {q p : Nat} {r : Option Nat} (h : Far a w q r) (hp : a.heap.size ≤ p) (i : Nat) (u : Value) : Far a (w.setCell ⟨p, i, none⟩ u) q r :=
  ⟨h.1, h.2.1, h.2.2.1, by simpa [World.setCell] using h.2.2.2.1, fun j hj h1 h2 => (Below.heap_setCell w ⟨p, i, none⟩ u j (fun e => by have e' : j = p := e; omega)).trans (h.2.2.2.2 j hj h1 h2)⟩

section
variable (b g : Nat)
def TOPost (v : Val) (w : World) (st : Option (List UInt8)) (e : Ending) (w' : World) : Prop := e = .returned (takeO st v).enc ∧ Ln w' b g (takeR st v) ∧ Far w w' b none
/-- Three boxes of a call of take. -/
theorem three_vals {w W1 : World} {T : TypeId} {a c d : Array Value} (h : ((w.alloc (.cells a T)).alloc (.cells c T)).alloc (.cells d T) = W1) :
    Below w.heap.size w W1 ∧ Blk W1 w.heap.size T a ∧ Blk W1 (w.heap.size + 1) T c ∧ Blk W1 (w.heap.size + 2) T d := by
  subst h
  have z1 : (w.alloc (.cells a T)).heap.size = w.heap.size + 1 := by simp
  have z2 : ((w.alloc (.cells a T)).alloc (.cells c T)).heap.size = w.heap.size + 2 := by simp
  refine ⟨(((Below.refl _ w).alloc (Nat.le_refl _) _).alloc (by simp) _).alloc (by simp; omega) _, ((Blk.new w _ _).alloc _).alloc _, ?_, ?_⟩
  · rw [← z1]; exact (Blk.new _ _ _).alloc _
  · rw [← z2]; exact Blk.new _ _ _
theorem Far.of_below {w w' : World} {q : Nat} {r : Option Nat} (h : Below w.heap.size w w') : Far w w' q r := ⟨h.os, h.tape, h.output, h.size, fun i hi _ _ => h.block i hi⟩
abbrev noS : ByteArray := ⟨#[]⟩
end
end Go.Proofs.YtjlajnackecfgaaGreatDoor
namespace Go.Proofs.YtjlajnackecfgaaGreatDoor
open Go.ChangeShapes Go.WideShapes Go.ChangeAt Go.RowKit

/-- A slice of values. -/
def Rvs (w : World) (B : Nat) (A : Option Addr) (l : List Val) : Prop :=
  0 < l.length → ∃ b o, A = some ⟨b, o, none⟩ ∧ b < B ∧ ∀ (j : Nat) v, l[j]? = some v → ∀ (i : Nat) x, v.cells[i]? = some x → w.cell? ⟨b, o + (j * 5 + i), none⟩ = some x
theorem Rvs.at_ {w : World} {B : Nat} {A : Option Addr} {l : List Val} {k : Nat} (h : Rvs w B A l) (hk : k < l.length) : ∃ b o, A = some ⟨b, o, none⟩ ∧ b < B ∧
    w.cell? ⟨b, o + (k * 5 + 0), none⟩ = some (.int .u8 ((l[k]'hk).k : Int)) ∧ w.cell? ⟨b, o + (k * 5 + 1), none⟩ = some (.int .u64 ((l[k]'hk).u : Int)) ∧ w.cell? ⟨b, o + (k * 5 + 2), none⟩ = some (.int .i64 (l[k]'hk).i) ∧
      w.cell? ⟨b, o + (k * 5 + 3), none⟩ = some (.string (l[k]'hk).s) ∧ w.cell? ⟨b, o + (k * 5 + 4), none⟩ = some (.int .u64 ((l[k]'hk).m : Int)) := by
  obtain ⟨b, o, e, hb, hc⟩ := h (by omega)
  have h1 := hc k _ (List.getElem?_eq_getElem hk)
  exact ⟨b, o, e, hb, h1 0 _ rfl, h1 1 _ rfl, h1 2 _ rfl, h1 3 _ rfl, h1 4 _ rfl⟩
theorem Rvs.below {w w' : World} {B : Nat} {A : Option Addr} {l : List Val} (h : Rvs w B A l) (hb : Below B w w') : Rvs w' B A l := fun hn => by
  obtain ⟨b, o, e, hlt, hc⟩ := h hn
  exact ⟨b, o, e, hlt, fun j v hv i x hx => (hb.cell (p := ⟨b, _, none⟩) hlt).trans (hc j v hv i x hx)⟩
theorem Rvs.more {w : World} {B B' : Nat} {A : Option Addr} {l : List Val} (h : Rvs w B A l) (hB : B ≤ B') : Rvs w B' A l := fun hn => by
  obtain ⟨b, o, e, hlt, hc⟩ := h hn
  exact ⟨b, o, e, by omega, hc⟩

/-- All of their cells, one behind the other. -/
def flatV (l : List Val) : List Value := l.flatMap Val.cells
theorem cells_len (v : Val) : v.cells.length = 5 := rfl
theorem flatV_len (l : List Val) : (flatV l).length = l.length * 5 := by
  induction l with
  | nil => rfl
  | cons v l ih => simp only [flatV, List.flatMap_cons, List.length_append, cells_len, List.length_cons] at ih ⊢; omega
theorem flatV_at (l : List Val) : ∀ (j : Nat) v, l[j]? = some v → ∀ (i : Nat) x, v.cells[i]? = some x → (flatV l)[j * 5 + i]? = some x := by
  induction l with
  | nil => intro j v hv; simp at hv
  | cons a l ih =>
    intro j v hv i x hx
    have hi : i < 5 := by
      rcases Nat.lt_or_ge i 5 with h | h
      · exact h
      · rw [List.getElem?_eq_none (by rw [cells_len]; exact h)] at hx; cases hx
    cases j with
    | zero =>
      simp only [List.getElem?_cons_zero, Option.some.injEq] at hv
      subst hv
      simp only [flatV, List.flatMap_cons]
      rw [List.getElem?_append_left (by rw [cells_len]; omega)]
      simpa using hx
    | succ j =>
      simp only [List.getElem?_cons_succ] at hv
      simp only [flatV, List.flatMap_cons]
      rw [List.getElem?_append_right (by rw [cells_len]; omega), cells_len, show (j + 1) * 5 + i - 5 = j * 5 + i by omega]
      exact ih j v hv i x hx
theorem flatV_one (l : List Val) : ∀ u ∈ flatV l, u.oneCell' = true := by
  intro u hu
  simp only [flatV, List.mem_flatMap] at hu
  obtain ⟨v, _, hu⟩ := hu
  simp only [Val.cells, List.mem_cons, List.not_mem_nil, or_false] at hu
  rcases hu with rfl | rfl | rfl | rfl | rfl <;> rfl
section
variable {H : Type} {enc : TypeId × Value → H} {W : World}
theorem cells8 : Tryz.prog.cellsOf 5 = 1 := by kernel_rfl
theorem cells64 : Tryz.prog.cellsOf 69 = 1 := by kernel_rfl
theorem cellsI64 : Tryz.prog.cellsOf 2 = 1 := by kernel_rfl
theorem cellsStr : Tryz.prog.cellsOf 9 = 1 := by kernel_rfl
end
end Go.Proofs.YtjlajnackecfgaaGreatDoor
namespace Go.Proofs.YtjlajnackecfgaaGreatDoor
open Go.RowKit

theorem Join_two_own (A1 A2 : Option Addr) (n1 n2 c1 c2 B1 B2 : Nat) (l1 l2 : List UInt8) (w : World) (h1 : Rd w B1 A1 l1) (hB1 : B1 ≤ w.heap.size) (h2 : Rd w B2 A2 l2) (hB2 : B2 ≤ w.heap.size) (hn1 : l1.length = n1) (hn2 : l2.length = n2) (hm : n1 + n2 ≤ 140737488355328) :
    Calls Tryz.prog 16 #[.slice (some ⟨w.heap.size, 0, none⟩) 2 2] (w.alloc (.cells #[.slice A1 n1 c1, .slice A2 n2 c2] 33)) (OwnPost w.heap.size w (l1 ++ l2)) := by
  subst hn1 hn2
  have h := Join_own w.heap.size 0 2 (w.heap.size + 1) [⟨A1, c1, l1⟩, ⟨A2, c2, l2⟩] 2 (w.alloc (.cells #[.slice A1 l1.length c1, .slice A2 l2.length c2] 33)) (fun j g hg => by
      rcases j with _ | _ | j
      · simp only [List.getElem?_cons_zero, Option.some.injEq] at hg
        subst hg
        exact ⟨by simp [go_sem], seg_rd h1 hB1 _⟩
      · simp only [List.getElem?_cons_succ, List.getElem?_cons_zero, Option.some.injEq] at hg
        subst hg
        exact ⟨by simp [go_sem], seg_rd h2 hB2 _⟩
      · simp at hg) (by omega) (by simp) rfl (by decide) (by simp [glue]; omega)
  refine h.mono fun e w' hp => ?_
  obtain ⟨v, he, ho, hb⟩ := hp
  have e1 : glue [⟨A1, c1, l1⟩, ⟨A2, c2, l2⟩] = l1 ++ l2 := by simp [glue]
  rw [e1] at ho
  refine ⟨v, he, ⟨ho.1, ?_⟩, ((Below.refl _ w).alloc (Nat.le_refl _) _).trans (hb.mono (by simp))⟩
  rcases ho.2 with h | ⟨g, cap, cur, ha, hg, hr⟩
  · exact .inl h
  · refine .inr ⟨g, cap, cur, ha, ?_, hr⟩
    have : (w.alloc (.cells #[.slice A1 l1.length c1, .slice A2 l2.length c2] 33)).heap.size = w.heap.size + 1 := by simp
    omega
/-- Join of two, where what was made before lies between. -/
theorem Join_after (A1 A2 : Option Addr) (n1 n2 c1 c2 : Nat) (l1 l2 : List UInt8) (w0 w : World) (hb : Below w0.heap.size w0 w) (h1 : Rd w w.heap.size A1 l1) (h2 : Rd w w.heap.size A2 l2) (hn1 : l1.length = n1) (hn2 : l2.length = n2) (hm : n1 + n2 ≤ 140737488355328) :
    Calls Tryz.prog 16 #[.slice (some ⟨w.heap.size, 0, none⟩) 2 2] (w.alloc (.cells #[.slice A1 n1 c1, .slice A2 n2 c2] 33)) (OwnPost w0.heap.size w0 (l1 ++ l2)) := by
  refine (Join_two_own A1 A2 n1 n2 c1 c2 w.heap.size w.heap.size l1 l2 w h1 (Nat.le_refl _) h2 (Nat.le_refl _) hn1 hn2 hm).mono fun e w' hp => ?_
  obtain ⟨v, he, ho, hb'⟩ := hp
  refine ⟨v, he, ⟨ho.1, ?_⟩, hb.trans (hb'.mono hb.size)⟩
  rcases ho.2 with h | ⟨g, cap, cur, ha, hg, hr⟩
  · exact .inl h
  · exact .inr ⟨g, cap, cur, ha, Nat.le_trans hb.size hg, hr⟩
theorem one_rd (w : World) (x : Int) (u : UInt8) (h : x = (u.toNat : Int)) : Rd (w.alloc (.cells #[.int .u8 x] 5)) (w.alloc (.cells #[.int .u8 x] 5)).heap.size (some ⟨w.heap.size, 0, none⟩) [u] := fun _ =>
  ⟨w.heap.size, 0, rfl, by simp, one_byte h⟩

theorem bytes_rd (w : World) (e : TypeId) (s : ByteArray) : Rd (Lib.bytesWorld w e s) (Lib.bytesWorld w e s).heap.size (some ⟨w.heap.size, 0, none⟩) s.data.toList := fun _ =>
  ⟨w.heap.size, 0, rfl, by rw [Lib.bytesWorld_size]; omega, fun j u hu => by
    obtain ⟨hj, hv⟩ := List.getElem?_eq_some_iff.1 hu
    rw [Nat.zero_add, Lib.bytesWorld_cell w e s j (by simpa using hj), List.getD, hu, Option.getD_some]⟩

set_option maxRecDepth 20000 in
set_option maxHeartbeats 2000000 in
theorem RDigits_any (n : Nat) (hn : n < 18446744073709551616) (w : World) : Calls Tryz.prog 66 #[.int .u64 (n : Int)] w (OwnPost w.heap.size w (digs n)) := by
  induction n using Nat.strongRecOn generalizing w with
  | ind n ih =>
    by_cases h0 : n = 0
    · subst h0
      go_enter Tryz.func66, Tryz.ntmps66
      go_wp2_with fail
      go_ret
      exact ⟨_, rfl, by rw [digs_zero]; exact OwnB.nil_ _ _, Below.refl _ _⟩
    · have h := ih (n / 256) (by omega) (by omega) w
      have hs := digs_step n (by omega) hn
      have hl := digs_len (n / 256)
      have h8 := nb_le (n / 256) (by omega)
      have H := Lib.hid h
      have HS := Lib.hid hs
      have HL := Lib.hid hl
      have hq : ((n / 256 : Nat) : Int) = (n : Int) / 256 := by omega
      have hz : ¬ (n : Int) = 0 := by omega
      have hr : (((n % 256 : Nat)) : Int) = (n : Int) % 256 := by omega
      clear h hs hl ih
      go_enter Tryz.func66, Tryz.ntmps66
      go_wp2_with fail
      rw [← hq]
      refine H.out.mono ?_
      rintro e w1 ⟨v, rfl, ho, hb⟩
      obtain ⟨hl1, A, c, rfl, hc1, hc2, hrd⟩ := own_form ho
      have hu : (n : Int) % 256 = ((UInt8.ofNat (n % 256)).toNat : Int) := by rw [ofNat_nat _ (by omega)]; omega
      have hJ := Join_after A (some ⟨w1.heap.size, 0, none⟩) (digs (n / 256)).length 1 c 1 (digs (n / 256)) [UInt8.ofNat (n % 256)] w (w1.alloc (.cells #[.int .u8 ((n : Int) % 256)] 5)) (hb.alloc hb.size _) ((hrd.alloc (Nat.le_refl _) _).more (by simp)) (one_rd w1 _ _ hu) rfl rfl (by rw [HL.out]; omega)
      rw [show (w1.alloc (.cells #[.int .u8 ((n : Int) % 256)] 5)).heap.size = w1.heap.size + 1 by simp, ← HS.out] at hJ
      have HJ := Lib.hid hJ
      clear ho hb hrd H hJ hu
      go_wp2_with fail
      refine HJ.out.mono ?_
      rintro e w2 ⟨v, rfl, ho2, hb2⟩
      have HO2 := Lib.hid ho2
      have HB2 := Lib.hid hb2
      clear ho2 hb2
      go_wp2_with fail
      go_ret
      exact ⟨v, rfl, HO2.out, HB2.out⟩

set_option maxRecDepth 20000 in
set_option maxHeartbeats 2000000 in
theorem RUint_any (n : Nat) (hn : n < 18446744073709551616) (w : World) : Calls Tryz.prog 37 #[.int .u64 (n : Int)] w (OwnPost w.heap.size w (layN 0 n)) := by
  have hl := digs_len n
  have h8 := nb_le n hn
  have h := RDigits_any n hn w
  obtain ⟨D, hD⟩ : ∃ D, digs n = D := ⟨_, rfl⟩
  have hlay : layN 0 n = [UInt8.ofNat D.length] ++ D := by unfold layN; rw [← digs_len, hD, Nat.zero_add]; rfl
  rw [hD] at h hl
  rw [hlay]
  have hd8 : D.length ≤ 8 := by omega
  have H := Lib.hid h
  clear hlay h hl h8 hD
  go_enter Tryz.func37, Tryz.ntmps37
  go_wp2_with fail
  refine H.out.mono ?_
  rintro e w1 ⟨v, rfl, ho, hb⟩
  obtain ⟨hl1, A, c, rfl, hc1, hc2, hrd⟩ := own_form ho
  have hu : (D.length : Int) = ((UInt8.ofNat D.length).toNat : Int) := by rw [ofNat_nat _ (by omega)]
  have hJ := Join_after (some ⟨w1.heap.size, 0, none⟩) A 1 D.length 1 c [UInt8.ofNat D.length] D w (w1.alloc (.cells #[.int .u8 (D.length : Int)] 5)) (hb.alloc hb.size _) (one_rd w1 _ _ hu) ((hrd.alloc (Nat.le_refl _) _).more (by simp)) rfl rfl (by omega)
  rw [show (w1.alloc (.cells #[.int .u8 (D.length : Int)] 5)).heap.size = w1.heap.size + 1 by simp] at hJ
  have HJ := Lib.hid hJ
  clear ho hb hrd H hJ hu
  go_wp2_with fail
  refine HJ.out.mono ?_
  rintro e w2 ⟨v, rfl, ho2, hb2⟩
  have HO2 := Lib.hid ho2
  have HB2 := Lib.hid hb2
  clear ho2 hb2
  go_wp2_with fail
  go_ret
  exact ⟨v, rfl, HO2.out, HB2.out⟩

end Go.Proofs.YtjlajnackecfgaaGreatDoor
namespace Go.Proofs.YtjlajnackecfgaaGreatDoor
open Go.ChangeShapes Go.WideShapes Go.ChangeAt Go.RowKit Go.Shelf
theorem Segs.below {w w' : World} {b o : Nat} {gs : List Seg} (h : Segs w w.heap.size b o gs) (hb : Below w.heap.size w w') (hlt : b < w.heap.size) : Segs w' w'.heap.size b o gs := fun j g hg => by
  obtain ⟨h1, h2⟩ := h j g hg
  exact ⟨(hb.cell (p := ⟨b, o + j, none⟩) hlt).trans h1, (h2.below hb).more hb.size⟩
def rowsF (ls : List (List UInt8)) : Flw := ⟨fun v W => ∃ g gs, v = .slice (some ⟨g, 0, none⟩) ls.length ls.length ∧ gs.map Seg.l = ls ∧ Segs W W.heap.size g 0 gs ∧ g < W.heap.size, by
  rintro v w w' ⟨g, gs, h1, h2, h3, h4⟩ hb
  exact ⟨g, gs, h1, h2, h3.below hb h4, Nat.lt_of_lt_of_le h4 hb.size⟩⟩
theorem glue_flat : ∀ gs : List Seg, glue gs = (gs.map Seg.l).flatten
  | [] => rfl
  | g :: gs => by rw [glue, glue_flat gs, List.map_cons, List.flatten_cons]
theorem joinF {ls : List (List UInt8)} {v : Value} {W : World} (hv : (rowsF ls).p v W) (hm : ls.flatten.length ≤ 100000) (hn : ls.length ≤ 10) : Calls Tryz.prog 16 #[v] W (ToF (bySF ls.flatten) W) := by
  obtain ⟨g, gs, rfl, h2, h3, h4⟩ := hv
  have e : glue gs = ls.flatten := by rw [glue_flat, h2]
  have hl : gs.length = ls.length := by rw [← h2, List.length_map]
  refine (Join_any g 0 ls.length W.heap.size gs ls.length W h3 h4 (Nat.le_refl _) hl (by omega) (by rw [e]; omega)).mono ?_
  rintro e9 w' ⟨A, c, rfl, h5, h6, hr, hb⟩
  rw [e] at hr ⊢
  exact ⟨_, rfl, ⟨A, c, rfl, hr.more (Nat.le_refl _)⟩, hb⟩
theorem infoBs : (Tryz.prog.info? 33).map (fun i => (i.zero, i.size, i.bytes)) = some (some (.slice none 0 0), 1, 24) := by kernel_rfl
theorem rUintF (n : Nat) (hn : n < 18446744073709551616) (W : World) : Calls Tryz.prog 37 #[.int .u64 (n : Int)] W (ToF (bySF (layN 0 n)) W) := by
  refine (RUint_any n hn W).mono ?_
  rintro e w' ⟨v, rfl, ho, hb⟩
  obtain ⟨-, A, c, rfl, h1, h2, hr⟩ := own_form ho
  exact ⟨_, rfl, ⟨A, c, rfl, hr⟩, hb⟩
theorem rTextF (s : ByteArray) (hs : s.size ≤ 1000) (W : World) : Calls Tryz.prog 38 #[.string s] W (ToF (bySF (layT s.data.toList)) W) := by
  have ws : IntKind.u64.wrap (s.size : Int) = (s.size : Int) := by rw [IntKind.wrap_u64]; omega
  have hU := fun W => rUintF s.size (by omega) W
  have hl8 := layN_le 0 s.size (by omega)
  obtain ⟨L, hL⟩ : ∃ L, layN 0 s.size = L := ⟨_, rfl⟩
  have hT : layT s.data.toList = L ++ s.data.toList := by rw [← hL]; unfold layT; rw [Lib.size_eq]
  rw [hL] at hU hl8
  rw [hT]
  clear hL hT
  have HL8 := Lib.hid hl8
  clear hl8
  go_enter Tryz.func38, Tryz.ntmps38
  go_wp2_with fail
  refine (hU _).mono ?_
  rintro e w1 ⟨v, rfl, ⟨A, c, rfl, hr⟩, hb⟩
  have hcv := Lib.run_convert_string_bytes (P := Tryz.prog) w1 9 33 5 s Tryz.underlying9 Tryz.underlying33 Tryz.underlying5
  have hbw := Lib.bytesWorld_below w1 5 s
  have hJ := fun cap => Join_after A (some ⟨w1.heap.size, 0, none⟩) L.length s.size c cap L s.data.toList W (Lib.bytesWorld w1 5 s) (hb.trans (hbw.mono hb.size)) ((hr.below hbw).more hbw.size) (bytes_rdP w1 _ s) rfl (by rw [Lib.size_eq]) (by have := HL8.out; omega)
  have HJ := Lib.hid hJ
  clear hJ hU hr hb hbw
  generalize Lib.bytesWorld w1 5 s = w2 at hcv HJ
  go_wp2_with fail
  refine (HJ.out _).mono ?_
  rintro e w3 ⟨v, rfl, ho, hb⟩
  obtain ⟨-, A2, c2, rfl, h1, h2, hr⟩ := own_form ho
  have HR := Lib.hid hr
  have HB := Lib.hid hb
  clear ho hb hr HJ hcv ws
  go_wp2_with fail
  go_ret
  exact ⟨_, rfl, ⟨A2, c2, by rw [List.length_append, ← Lib.size_eq]; rfl, HR.out⟩, HB.out⟩
theorem conv_rd {w : World} {A : Option Addr} {l : List UInt8} {c : Nat} (h : Rd w w.heap.size A l) : (convert 33 9 (.slice A l.length c)).run Tryz.prog w = .ok (.string ⟨l.toArray⟩) w := by
  by_cases h0 : l = []
  · exact conv_rg (g := 0) (by rw [h0]; exact Rg.nil_) rfl
  · obtain ⟨g, o, rfl, _, hc⟩ := h (by cases l with | nil => exact absurd rfl h0 | cons a r => simp)
    exact conv_rg (g := g) (fun _ => ⟨o, rfl, by omega, hc⟩) rfl
theorem run_rows2 {dst : Option Tmp} {x0 x1 : Operand} {ty : TypeId} {pos : String} {af : Array Edge} {gd : Option (Nat × Bool)} {a : Act} {w : World} {A0 A1 : Option Addr} {c0 c1 : Nat} {l0 l1 : List UInt8} (h0 : a.eval x0 = .slice A0 l0.length c0) (h1 : a.eval x1 = .slice A1 l1.length c1) :
    (execOp a.eval ⟨dst, .buildSlice 53 2 #[(0, x0), (1, x1)], ty, pos, af, gd⟩).run Tryz.prog w = .ok (.value (.slice (some ⟨w.heap.size, 0, none⟩) 2 2)) (w.alloc (.cells #[.slice A0 l0.length c0, .slice A1 l1.length c1] 33)) := by
  obtain ⟨i0, hi, hz0, hz1, hz2⟩ := info_parts infoBs
  have hrun : (Instr.buildSlice 53 2 #[(0, .slice A0 l0.length c0), (1, .slice A1 l1.length c1)]).run Tryz.prog w = .ok (.slice (some ⟨w.heap.size, 0, none⟩) 2 2) (w.alloc (.cells #[.slice A0 l0.length c0, .slice A1 l1.length c1] 33)) := by
    refine run_buildSlice w 53 33 2 _ #[.slice A0 l0.length c0, .slice A1 l1.length c1] i0 (.slice none 0 0) Tryz.underlying53 hi hz0 (by rw [hz1]; decide) (by rw [hz1]; decide) ?_
    rw [hz1]
    simp [Instr.fill, Value.cells]
    apply Array.toList_inj.1
    simp [List.range_succ]
  simp [execOp, h0, h1, hrun, Result.andThen]
theorem rows2_p {w : World} {A0 A1 : Option Addr} {c0 c1 : Nat} {l0 l1 : List UInt8} (r0 : Rd w w.heap.size A0 l0) (r1 : Rd w w.heap.size A1 l1) : (rowsF [l0, l1]).p (.slice (some ⟨w.heap.size, 0, none⟩) 2 2) (w.alloc (.cells #[.slice A0 l0.length c0, .slice A1 l1.length c1] 33)) := by
  refine ⟨w.heap.size, [⟨A0, c0, l0⟩, ⟨A1, c1, l1⟩], rfl, rfl, fun j g hg => ?_, by simp⟩
  have hk := Blk.new w 33 #[.slice A0 l0.length c0, .slice A1 l1.length c1]
  have hb := b_alloc w (.cells #[.slice A0 l0.length c0, .slice A1 l1.length c1] 33)
  rcases j with _ | _ | j
  · simp only [List.getElem?_cons_zero, Option.some.injEq] at hg
    subst hg
    exact ⟨(hk.cell (0 + 0)).trans rfl, (r0.below hb).more hb.size⟩
  · simp only [List.getElem?_cons_zero, List.getElem?_cons_succ, Option.some.injEq] at hg
    subst hg
    exact ⟨(hk.cell (0 + 1)).trans rfl, (r1.below hb).more hb.size⟩
  · simp at hg
theorem opC_rows2 {dst : Option Tmp} {x0 x1 : Operand} {ty : TypeId} {pos : String} {af : Array Edge} {gd : Option (Nat × Bool)} {a : Act} {w : World} {K : Value → World → Prop} {A0 A1 : Option Addr} {c0 c1 : Nat} {l0 l1 : List UInt8} (h0 : a.eval x0 = .slice A0 l0.length c0) (h1 : a.eval x1 = .slice A1 l1.length c1) (r0 : Rd w w.heap.size A0 l0) (r1 : Rd w w.heap.size A1 l1)
    (hk : ∀ v w', (rowsF [l0, l1]).p v w' → Below w.heap.size w w' → K v w') : opC Tryz.prog ⟨dst, .buildSlice 53 2 #[(0, x0), (1, x1)], ty, pos, af, gd⟩ a w K := by
  constructor
  rw [run_rows2 h0 h1]
  exact hk _ _ (rows2_p r0 r1) (b_alloc _ _)
theorem wpl_rows2 {ops : Array Oper} {rest : List Oper} {Q : Exit → Act → World → Prop} {dst : Option Tmp} {x0 x1 : Operand} {ty : TypeId} {pos : String} {af : Array Edge} {a : Act} {w : World} {A0 A1 : Option Addr} {c0 c1 : Nat} {l0 l1 : List UInt8} (h0 : a.eval x0 = .slice A0 l0.length c0) (h1 : a.eval x1 = .slice A1 l1.length c1) (r0 : Rd w w.heap.size A0 l0) (r1 : Rd w w.heap.size A1 l1)
    (hk : ∀ v w', (rowsF [l0, l1]).p v w' → Below w.heap.size w w' → wpList Tryz.prog ops Q rest (a.put dst v) w') : wpList Tryz.prog ops Q (⟨dst, .buildSlice 53 2 #[(0, x0), (1, x1)], ty, pos, af, none⟩ :: rest) a w :=
  wpList_plain rfl fun K hK => by
    unfold Oper.wp
    rw [run_rows2 h0 h1]
    exact hK _ _ (hk _ _ (rows2_p r0 r1) (b_alloc _ _))
theorem run_rows5 {dst : Option Tmp} {x0 x1 x2 x3 x4 : Operand} {ty : TypeId} {pos : String} {af : Array Edge} {gd : Option (Nat × Bool)} {a : Act} {w : World} {A0 A1 A2 A3 A4 : Option Addr} {c0 c1 c2 c3 c4 : Nat} {l0 l1 l2 l3 l4 : List UInt8} (h0 : a.eval x0 = .slice A0 l0.length c0) (h1 : a.eval x1 = .slice A1 l1.length c1) (h2 : a.eval x2 = .slice A2 l2.length c2) (h3 : a.eval x3 = .slice A3 l3.length c3) (h4 : a.eval x4 = .slice A4 l4.length c4) :
    (execOp a.eval ⟨dst, .buildSlice 53 5 #[(0, x0), (1, x1), (2, x2), (3, x3), (4, x4)], ty, pos, af, gd⟩).run Tryz.prog w = .ok (.value (.slice (some ⟨w.heap.size, 0, none⟩) 5 5)) (w.alloc (.cells #[.slice A0 l0.length c0, .slice A1 l1.length c1, .slice A2 l2.length c2, .slice A3 l3.length c3, .slice A4 l4.length c4] 33)) := by
  obtain ⟨i0, hi, hz0, hz1, hz2⟩ := info_parts infoBs
  have hrun : (Instr.buildSlice 53 5 #[(0, .slice A0 l0.length c0), (1, .slice A1 l1.length c1), (2, .slice A2 l2.length c2), (3, .slice A3 l3.length c3), (4, .slice A4 l4.length c4)]).run Tryz.prog w = .ok (.slice (some ⟨w.heap.size, 0, none⟩) 5 5) (w.alloc (.cells #[.slice A0 l0.length c0, .slice A1 l1.length c1, .slice A2 l2.length c2, .slice A3 l3.length c3, .slice A4 l4.length c4] 33)) := by
    refine run_buildSlice w 53 33 5 _ #[.slice A0 l0.length c0, .slice A1 l1.length c1, .slice A2 l2.length c2, .slice A3 l3.length c3, .slice A4 l4.length c4] i0 (.slice none 0 0) Tryz.underlying53 hi hz0 (by rw [hz1]; decide) (by rw [hz1]; decide) ?_
    rw [hz1]
    simp [Instr.fill, Value.cells]
    apply Array.toList_inj.1
    simp [List.range_succ]
  simp [execOp, h0, h1, h2, h3, h4, hrun, Result.andThen]
theorem rows5_p {w : World} {A0 A1 A2 A3 A4 : Option Addr} {c0 c1 c2 c3 c4 : Nat} {l0 l1 l2 l3 l4 : List UInt8} (r0 : Rd w w.heap.size A0 l0) (r1 : Rd w w.heap.size A1 l1) (r2 : Rd w w.heap.size A2 l2) (r3 : Rd w w.heap.size A3 l3) (r4 : Rd w w.heap.size A4 l4) : (rowsF [l0, l1, l2, l3, l4]).p (.slice (some ⟨w.heap.size, 0, none⟩) 5 5) (w.alloc (.cells #[.slice A0 l0.length c0, .slice A1 l1.length c1, .slice A2 l2.length c2, .slice A3 l3.length c3, .slice A4 l4.length c4] 33)) := by
  refine ⟨w.heap.size, [⟨A0, c0, l0⟩, ⟨A1, c1, l1⟩, ⟨A2, c2, l2⟩, ⟨A3, c3, l3⟩, ⟨A4, c4, l4⟩], rfl, rfl, fun j g hg => ?_, by simp⟩
  have hk := Blk.new w 33 #[.slice A0 l0.length c0, .slice A1 l1.length c1, .slice A2 l2.length c2, .slice A3 l3.length c3, .slice A4 l4.length c4]
  have hb := b_alloc w (.cells #[.slice A0 l0.length c0, .slice A1 l1.length c1, .slice A2 l2.length c2, .slice A3 l3.length c3, .slice A4 l4.length c4] 33)
  rcases j with _ | _ | _ | _ | _ | j
  · simp only [List.getElem?_cons_zero, Option.some.injEq] at hg
    subst hg
    exact ⟨(hk.cell (0 + 0)).trans rfl, (r0.below hb).more hb.size⟩
  · simp only [List.getElem?_cons_zero, List.getElem?_cons_succ, Option.some.injEq] at hg
    subst hg
    exact ⟨(hk.cell (0 + 1)).trans rfl, (r1.below hb).more hb.size⟩
  · simp only [List.getElem?_cons_zero, List.getElem?_cons_succ, Option.some.injEq] at hg
    subst hg
    exact ⟨(hk.cell (0 + 2)).trans rfl, (r2.below hb).more hb.size⟩
  · simp only [List.getElem?_cons_zero, List.getElem?_cons_succ, Option.some.injEq] at hg
    subst hg
    exact ⟨(hk.cell (0 + 3)).trans rfl, (r3.below hb).more hb.size⟩
  · simp only [List.getElem?_cons_zero, List.getElem?_cons_succ, Option.some.injEq] at hg
    subst hg
    exact ⟨(hk.cell (0 + 4)).trans rfl, (r4.below hb).more hb.size⟩
  · simp at hg
theorem opC_rows5 {dst : Option Tmp} {x0 x1 x2 x3 x4 : Operand} {ty : TypeId} {pos : String} {af : Array Edge} {gd : Option (Nat × Bool)} {a : Act} {w : World} {K : Value → World → Prop} {A0 A1 A2 A3 A4 : Option Addr} {c0 c1 c2 c3 c4 : Nat} {l0 l1 l2 l3 l4 : List UInt8} (h0 : a.eval x0 = .slice A0 l0.length c0) (h1 : a.eval x1 = .slice A1 l1.length c1) (h2 : a.eval x2 = .slice A2 l2.length c2) (h3 : a.eval x3 = .slice A3 l3.length c3) (h4 : a.eval x4 = .slice A4 l4.length c4) (r0 : Rd w w.heap.size A0 l0) (r1 : Rd w w.heap.size A1 l1) (r2 : Rd w w.heap.size A2 l2) (r3 : Rd w w.heap.size A3 l3) (r4 : Rd w w.heap.size A4 l4)
    (hk : ∀ v w', (rowsF [l0, l1, l2, l3, l4]).p v w' → Below w.heap.size w w' → K v w') : opC Tryz.prog ⟨dst, .buildSlice 53 5 #[(0, x0), (1, x1), (2, x2), (3, x3), (4, x4)], ty, pos, af, gd⟩ a w K := by
  constructor
  rw [run_rows5 h0 h1 h2 h3 h4]
  exact hk _ _ (rows5_p r0 r1 r2 r3 r4) (b_alloc _ _)
theorem wpl_rows5 {ops : Array Oper} {rest : List Oper} {Q : Exit → Act → World → Prop} {dst : Option Tmp} {x0 x1 x2 x3 x4 : Operand} {ty : TypeId} {pos : String} {af : Array Edge} {a : Act} {w : World} {A0 A1 A2 A3 A4 : Option Addr} {c0 c1 c2 c3 c4 : Nat} {l0 l1 l2 l3 l4 : List UInt8} (h0 : a.eval x0 = .slice A0 l0.length c0) (h1 : a.eval x1 = .slice A1 l1.length c1) (h2 : a.eval x2 = .slice A2 l2.length c2) (h3 : a.eval x3 = .slice A3 l3.length c3) (h4 : a.eval x4 = .slice A4 l4.length c4) (r0 : Rd w w.heap.size A0 l0) (r1 : Rd w w.heap.size A1 l1) (r2 : Rd w w.heap.size A2 l2) (r3 : Rd w w.heap.size A3 l3) (r4 : Rd w w.heap.size A4 l4)
    (hk : ∀ v w', (rowsF [l0, l1, l2, l3, l4]).p v w' → Below w.heap.size w w' → wpList Tryz.prog ops Q rest (a.put dst v) w') : wpList Tryz.prog ops Q (⟨dst, .buildSlice 53 5 #[(0, x0), (1, x1), (2, x2), (3, x3), (4, x4)], ty, pos, af, none⟩ :: rest) a w :=
  wpList_plain rfl fun K hK => by
    unfold Oper.wp
    rw [run_rows5 h0 h1 h2 h3 h4]
    exact hK _ _ (hk _ _ (rows5_p r0 r1 r2 r3 r4) (b_alloc _ _))
end Go.Proofs.YtjlajnackecfgaaGreatDoor
