/-
  drum.Read: the sector's bytes, in a new row. Conditions: the drum is known whole, the sector is there.
-/
import Derived.Test.YthljcekodlbplaaDoorDrumE
import Derived.Test.YthljcekodlbplaaDoorSeamC
namespace Go.Proofs.YthljcekodlbplaaDoor
open Go.RowKit

theorem makeB256 (u : World) :
    (Instr.makeSlice 31 (.int .i64 256) (.int .i64 256)).run Tryd.prog u = .ok (.slice (some ⟨u.heap.size, 0, none⟩) 256 256) (u.alloc (.cells (madeCells #[.int .u8 0] 256) 5)) := by
  have h := makeB 248 (by decide) u
  exact h

section
variable {w w' : World} {base d f g : Nat} {V : Option Addr} {cv : Nat} {T : Tails} {fl : List (List UInt8)} {ws : List (Nat × List UInt8)} {ls : List Nat} {left : Int}

theorem Dru.below (h : Dru w base d f g V cv T fl ws ls left) (hb : Below w.heap.size w w') : Dru w' base d f g V cv T fl ws ls left where
  head := h.head.below hb h.head.lt
  rows := h.rows.below hb h.rows.lt
  last := h.last.below hb h.last.lt
  row := h.row.kept (grown_of_below hb none) (by cases (Value.slice V ws.length cv).ownBlock <;> simp)
  far := h.far
  len := h.len
  full := h.full
  fullW := h.fullW
  le := h.le
  few := h.few
  fewW := h.fewW
theorem Dru.vlt (h : Dru w base d f g V cv T fl ws ls left) : ∀ a, V = some a → a.block < w.heap.size := by
  intro a e
  subst e
  rcases h.row.2 with ⟨hv, _⟩ | ⟨k, cap, cur, hv, _, hg, _⟩
  · injection hv with hv _ _; cases hv
  · injection hv with hv _ _
    injection hv with hv
    subst hv
    exact (Array.getElem?_eq_some_iff.1 hg).1
theorem Dru.now_len (h : Dru w base d f g V cv T fl ws ls left) (i : Nat) (hi : i < fl.length) : (nowOf fl ws ls i).length = 256 := by
  have hil : i < ls.length := by rw [h.len]; exact hi
  have e : ls.getD i 0 = ls[i] := by rw [List.getD_eq_getElem?_getD, List.getElem?_eq_getElem hil]; rfl
  have hle := h.le _ (List.getElem_mem hil)
  unfold nowOf
  rw [e]
  generalize ls[i] = q at hle
  rcases q with _ | k
  · show (fl.getD i []).length = 256
    rw [List.getD_eq_getElem?_getD, List.getElem?_eq_getElem hi]
    exact h.full _ (List.getElem_mem hi)
  · show (ws.getD k (0, [])).2.length = 256
    rw [List.getD_eq_getElem?_getD, List.getElem?_eq_getElem hle]
    exact h.fullW _ (List.getElem_mem hle)

set_option maxHeartbeats 800000 in
theorem Read_any (i : Nat) (h : Dru w base d f g V cv T fl ws ls left) (hi : i < fl.length) :
    Calls Tryd.prog 15 #[.pointer (some ⟨d, 0, none⟩), .int .i64 (i : Int)] w fun e w' =>
      e = .returned (.tuple #[.slice (some ⟨w.heap.size, 0, none⟩) 256 256, .nilIface]) ∧ Blk w' w.heap.size 5 ((nowOf fl ws ls i).map enc8).toArray ∧ Below w.heap.size w w' := by
  have hmk := makeB256
  go_enter Tryd.func15, Tryd.ntmps15
  go_wp2_with fail
  refine (has_any (i : Int) h.head).mono ?_
  rintro e w1 ⟨rfl, rfl⟩
  rw [decide_eq_true (show (0 : Int) ≤ (i : Int) ∧ (i : Int) < (fl.length : Int) by omega)]
  go_wp2_with fail
  have hbw : Below w1.heap.size w1 (w1.alloc (.cells (madeCells #[.int .u8 0] 256) 5)) := (Below.refl _ w1).alloc (Nat.le_refl _) _
  have h1 := h.below hbw
  refine (seen_any i h1 hi).mono ?_
  rintro e w2 ⟨⟨b, o, rfl, hr⟩, rfl⟩
  have hXl := h1.now_len i hi
  have hb0 : Blk (w1.alloc (.cells (madeCells #[.int .u8 0] 256) 5)) w1.heap.size 5 (madeCells #[.int .u8 0] 256) := Blk.new w1 _ _
  obtain ⟨cur, hcur⟩ : ∃ cur : List Value, cur.toArray = madeCells #[.int .u8 0] 256 := ⟨_, Array.toArray_toList⟩
  have hcl : cur.length = 256 := by
    have := congrArg Array.size hcur
    rw [size_madeCells] at this
    simpa using this
  obtain ⟨l, hl⟩ : ∃ l, l = nowOf fl ws ls i := ⟨_, rfl⟩
  rw [← hl] at hr hXl
  have HLN := Lib.hid hl
  rw [← hcur] at hb0 hbw hr ⊢
  obtain ⟨X, hX⟩ : ∃ X, X = l.map enc8 := ⟨_, rfl⟩
  have hlr : 0 < X.length → ∀ (j : Nat) v, X[j]? = some v → (w1.alloc (.cells cur.toArray 5)).cell? ⟨b, o + j, none⟩ = some v := by
    intro h0 j v hv
    obtain ⟨ad, had, hc⟩ := list_rd hr (by rw [← hX]; exact h0)
    injection had with had
    subst had
    simpa [go_sem] using hc j v (by rw [← hX]; exact hv)
  have HLR := Lib.hid hlr
  have HX := Lib.hid hX
  have HXL : Hid (X.length = 256) := Lib.hid (by rw [hX, List.length_map]; exact hXl)
  have HX1 : Hid (∀ u ∈ X, u.oneCell' = true) := Lib.hid (by rw [hX]; exact enc8_one l)
  have HB1 := Lib.hid (show (w1.alloc (.cells cur.toArray 5)).heap[w1.heap.size]? = some (.cells cur.toArray 5 (0, 0)) from hb0)
  have HL := Lib.hid hcl
  have HBW := Lib.hid hbw
  clear hmk hcur hlr hr hX hb0 hcl hXl h h1 hbw hl
  go_wp2_with (with_reducible refine wpList_copy_splice (o := ⟨some 24, _, _, _, _, _⟩) rfl (.tmp 18) (.tmp 23) 31 31 rfl 5 Tryd.underlying31 sizeB (some ⟨w1.heap.size, 0, none⟩) (some ⟨b, o, none⟩) 256 256 256 256 ?ha ?hb w1.heap.size 0 cur 5 HB1.out X ?hc ?hd ?he HX1.out w1.heap.size w1 HBW.out (Nat.le_refl _) ?_)
  case ha => rfl
  case hb => rfl
  case hc => rw [HXL.out]; rfl
  case hd => exact HLR.out
  case he => rw [HXL.out, HL.out]; omega
  intro w2 hb2 hbw2
  go_wp2
  go_ret2
  refine ⟨rfl, ?_, hbw2⟩
  have e : splice cur 0 X = l.map enc8 := by
    unfold splice
    rw [List.take_zero, List.nil_append, List.drop_of_length_le (by rw [HL.out, HXL.out]; decide), List.append_nil, HX.out]
  have h2 := hb2.out
  rw [e, HLN.out] at h2
  exact h2
end
end Go.Proofs.YthljcekodlbplaaDoor
