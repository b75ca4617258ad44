/-
  The references' Int, Flag of layer 8. Conditions: none.
-/
import Derived.Test.YtdknhjnbkmcicaaDoorRefQ
namespace Go.Proofs.YtdknhjnbkmcicaaDoor
open Go.RowKit

/-- The first byte of a row of one's own is written over. -/
theorem own_store {w : World} {base n : Nat} {v : Value} {u0 : UInt8} {D : List UInt8} (h : OwnB w base v n (u0 :: D)) : ∃ g c, v = .slice (some ⟨g, 0, none⟩) n c ∧ n = D.length + 1 ∧ n ≤ c ∧ c ≤ maxLen ∧ base ≤ g ∧ g < w.heap.size ∧ w.cell? ⟨g, 0, none⟩ = some (.int .u8 (u0.toNat : Int)) ∧ w.frozen? ⟨g, 0, none⟩ = false ∧
    ∀ u1 : UInt8, Rd (w.setCell ⟨g, 0, none⟩ (.int .u8 (u1.toNat : Int))) w.heap.size (some ⟨g, 0, none⟩) (u1 :: D) := by
  have hl : (u0 :: D).length = n := by have := h.1; simpa using this
  have h' := h
  unfold OwnB at h'
  rcases h'.2 with ⟨rfl, rfl⟩ | ⟨g, cap, cur, rfl, hb, hg, hnc, hcm, _⟩
  · simp at hl
  · have hk : Blk w g 5 cur := hg
    have hcs := World.ownsRow.cells h' (g := g) rfl
    have hcell : ∀ (j : Nat) u, (u0 :: D)[j]? = some u → w.cell? ⟨g, j, none⟩ = some (.int .u8 (u.toNat : Int)) := fun j u hu => by
      have := hcs j (enc8 u) (by rw [List.getElem?_map, hu]; rfl)
      simpa [go_sem, enc8] using this
    refine ⟨g, cap, rfl, by simpa using hl.symm, hnc, hcm, hb, hk.lt, hcell 0 u0 rfl, hk.frozen 0, fun u1 _ => ⟨g, 0, rfl, hk.lt, fun j u hu => ?_⟩⟩
    rw [Nat.zero_add]
    rcases j with _ | j
    · have e : u1 = u := by simpa using hu
      subst e
      have hlt : 0 < cur.size := by
        have := hk.cell 0
        rw [hcell 0 u0 rfl] at this
        exact (Array.getElem?_eq_some_iff.1 this.symm).1
      rw [(hk.set_ 0 _).cell 0]
      simp [hlt]
    · rw [World.cell?_setCell_other w ⟨g, 0, none⟩ ⟨g, j + 1, none⟩ _ (by simp)]
      exact hcell (j + 1) u hu
theorem own_below {a w : World} {B g : Nat} (h : Below B a w) (hg : B ≤ g) (u : Value) : Below B a (w.setCell ⟨g, 0, none⟩ u) :=
  ⟨h.os, h.tape, h.output, by simpa [World.setCell] using h.size, fun i hi => (Below.heap_setCell w ⟨g, 0, none⟩ u i (fun e => by simp at e; omega)).trans (h.block i hi)⟩

set_option maxRecDepth 20000 in
set_option maxHeartbeats 2000000 in
theorem RInt_any (i : Int) (hi : -9223372036854775808 ≤ i ∧ i ≤ 9223372036854775807) (w : World) : Calls Tryd.prog 34 #[.int .i64 i] w fun e w' => ∃ A c, e = .returned (.slice A (layI i).length c) ∧ (layI i).length ≤ c ∧ c ≤ maxLen ∧ Rd w' w'.heap.size A (layI i) ∧ Below w.heap.size w w' := by
  obtain ⟨h1, h2⟩ := hi
  by_cases h0 : 0 ≤ i
  · obtain ⟨n, rfl⟩ : ∃ n : Nat, i = (n : Int) := ⟨i.toNat, by omega⟩
    have hl : layI (n : Int) = layN 0 n := by unfold layI; rw [if_pos h0, Int.toNat_natCast]
    rw [hl]
    have H := Lib.hid (RUint_any n (by omega) w)
    clear hl
    go_enter Tryd.func34, Tryd.ntmps34
    go_wp2_with fail
    refine H.out.mono ?_
    rintro e w1 ⟨v, rfl, ho, hb⟩
    obtain ⟨hl1, A, c, rfl, hc1, hc2, hrd⟩ := own_form ho
    have HR := Lib.hid hrd
    have HB := Lib.hid hb
    clear ho hb hrd H
    go_wp2_with fail
    go_ret
    exact ⟨A, c, rfl, hc1, hc2, HR.out, HB.out⟩
  · obtain ⟨n, hn⟩ : ∃ n : Nat, -1 - i = (n : Int) := ⟨(-1 - i).toNat, by omega⟩
    have hl : layI i = layN 128 n := by unfold layI; rw [if_neg h0, hn, Int.toNat_natCast]
    have hneg : -(i + 1) = (n : Int) := by omega
    have hl0 : layN 0 n = UInt8.ofNat (nb n) :: digs n := by unfold layN; rw [Nat.zero_add]
    have hl1 : layN 128 n = UInt8.ofNat (128 + nb n) :: digs n := rfl
    have h8 := nb_le n (by omega)
    rw [hl, hl1]
    have h := RUint_any n (by omega) w
    rw [hl0] at h
    have hv0 : ((UInt8.ofNat (nb n)).toNat : Int) = (nb n : Int) := by rw [ofNat_nat _ (by omega)]
    have hv1 : ((UInt8.ofNat (128 + nb n)).toNat : Int) = (nb n : Int) + 128 := by rw [ofNat_nat _ (by omega)]; omega
    generalize UInt8.ofNat (nb n) = u0 at h hv0
    generalize UInt8.ofNat (128 + nb n) = u1 at hv1 ⊢
    generalize nb n = N at hv0 hv1 h8
    generalize digs n = D at h ⊢
    have H := Lib.hid h
    clear h hl hl0 hl1
    go_enter Tryd.func34, Tryd.ntmps34
    go_wp2_with fail
    try rw [hneg]
    refine H.out.mono ?_
    rintro e w1 ⟨v, rfl, ho, hb⟩
    obtain ⟨g, c, rfl, hnl, hc1, hc2, hg, hlt, hcell, hfr, hrd⟩ := own_store ho
    have hrd1 := hrd u1
    rw [hv1] at hrd1
    rw [hv0] at hcell
    have hw : IntKind.u8.wrap ((N : Int) + 128) = (N : Int) + 128 := by rw [wrap8]; omega
    have HR := Lib.hid hrd1
    have HB := Lib.hid (own_below hb hg (.int .u8 ((N : Int) + 128)))
    clear hrd hrd1 ho hb H
    go_wp2_with fail
    go_ret
    exact ⟨_, c, rfl, by omega, hc2, HR.out.more (by simp [World.setCell]), HB.out⟩
end Go.Proofs.YtdknhjnbkmcicaaDoor
