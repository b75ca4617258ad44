/-
  DrumOrders: the law's walk. Conditions: the arguments are there.
-/
import Derived.Test.YtoiiemjaecfnhaaDTu
import Derived.Test.YtoiiemjaecfnhaaRowsB
namespace Go.Proofs.Ytoiiemjaecfnhaa
open Go.RowKit

/-- What is written by the first k rows. -/
def wsOf (rs : List Rw) (k : Nat) : List (Nat × List UInt8) := (rs.take k).map fun r => (1, full (r.l.take 256))
/-- What stands last behind k writes. -/
def lastD (rs : List Rw) : Nat → List UInt8
  | 0 => zeros
  | k + 1 => full ((rs.getD k ⟨none, 0, []⟩).l.take 256)
/-- What is kept last of k writes. -/
def wantD (rs : List Rw) (keep : List Bool) : Nat → List UInt8
  | 0 => zeros
  | k + 1 => if keep.getD k false then full ((rs.getD k ⟨none, 0, []⟩).l.take 256) else wantD rs keep k
theorem full_take (l : List UInt8) : (full (l.take 256)).length = 256 := full_length _ (take_len l)
theorem wsOf_succ (rs : List Rw) (k : Nat) (hk : k < rs.length) : wsOf rs (k + 1) = wsOf rs k ++ [(1, full (rs[k].l.take 256))] := by
  unfold wsOf; rw [List.take_succ_eq_append_getElem hk, List.map_append]; rfl
theorem getD_row (rs : List Rw) (k : Nat) (hk : k < rs.length) : rs.getD k ⟨none, 0, []⟩ = rs[k] := by rw [List.getD_eq_getElem?_getD, List.getElem?_eq_getElem hk]; rfl
theorem app_ws (rs : List Rw) (k : Nat) (hk : k ≤ rs.length) : app [zeros, zeros] (wsOf rs k) = [zeros, lastD rs k] := by
  induction k with
  | zero => rfl
  | succ k ih =>
    rw [wsOf_succ rs k hk, app_add, ih (by omega), lastD, getD_row rs k hk]
    rfl
theorem wsOf_len (rs : List Rw) (k : Nat) (hk : k ≤ rs.length) : (wsOf rs k).length = k := by unfold wsOf; rw [List.length_map, List.length_take]; omega
theorem wantD_len (rs : List Rw) (keep : List Bool) (k : Nat) : (wantD rs keep k).length = 256 := by
  induction k with
  | zero => exact zeros_length
  | succ k ih =>
    unfold wantD
    split
    · exact full_take _
    · exact ih
theorem lastD_len (rs : List Rw) (k : Nat) : (lastD rs k).length = 256 := by
  cases k with
  | zero => exact zeros_length
  | succ k => exact full_take _
theorem fallK_ws (rs : List Rw) (keep : List Bool) (K t : Nat) (hK : K ≤ rs.length) (k : Nat) (hk : k ≤ K) : fallK [zeros, zeros] (wsOf rs K) keep (-1) t k = [zeros, wantD rs keep k] := by
  induction k with
  | zero => rfl
  | succ k ih =>
    have e : (wsOf rs K).getD k (0, []) = (1, full ((rs.getD k ⟨none, 0, []⟩).l.take 256)) := by
      unfold wsOf
      rw [List.getD_eq_getElem?_getD, List.getElem?_map, List.getElem?_take, if_pos (by omega), List.getElem?_eq_getElem (by omega), getD_row rs k (by omega)]
      rfl
    have hh : howM (-1) t k = 256 := by unfold howM; rw [if_neg (by omega)]
    unfold fallK wantD
    rw [ih (by omega), e, hh]
    split
    · show [zeros, wantD rs keep k].set 1 (tear 256 (full ((rs.getD k ⟨none, 0, []⟩).l.take 256)) (wantD rs keep k)) = _
      rw [tear_all _ _ (full_take _) (wantD_len rs keep k)]
      rfl
    · rfl
theorem wantD_last (rs : List Rw) (keep : List Bool) (k : Nat) : wantD rs keep (lastOf keep k) = wantD rs keep k := by
  induction k with
  | zero => rfl
  | succ k ih =>
    by_cases h : keep.getD k false = true
    · unfold lastOf; rw [if_pos h]
    · rw [show lastOf keep (k + 1) = lastOf keep k by rw [lastOf, if_neg h], ih]
      conv => rhs; unfold wantD
      rw [if_neg h]
theorem wantD_min (rs : List Rw) (keep : List Bool) (k : Nat) : wantD rs keep (min k keep.length) = wantD rs keep k := by
  induction k with
  | zero => rw [Nat.zero_min]
  | succ k ih =>
    rcases Nat.lt_or_ge k keep.length with h | h
    · rw [Nat.min_eq_left (by omega)]
    · rw [Nat.min_eq_right (by omega)]
      rw [Nat.min_eq_right h] at ih
      rw [ih]
      conv => rhs; unfold wantD
      rw [if_neg (by rw [List.getD_eq_getElem?_getD, List.getElem?_eq_none h]; decide)]
theorem fall_ws (rs : List Rw) (keep : List Bool) (K : Nat) (hK : K ≤ rs.length) : fallOf [zeros, zeros] (wsOf rs K) keep (-1) = [zeros, wantD rs keep K] := by
  unfold fallOf
  rw [wsOf_len rs K hK, fallK_ws rs keep K _ hK _ (Nat.le_trans (lastOf_le _ _) (Nat.min_le_left _ _)), wantD_last, wantD_min]

theorem own_past {w : World} {base n m c : Nat} {A : Option Addr} {l : List UInt8} (h : OwnB w base (.slice A n c) m l) : ∀ b q, A = some ⟨b, q, none⟩ → base ≤ b := fun b q e => by
  subst e
  exact (World.ownsRow.lt h b rfl).1
theorem make2 (u : World) : (Instr.makeSlice 22 (.int .i64 256) (.int .i64 256)).run Try.prog u = .ok (.slice (some ⟨u.heap.size, 0, none⟩) 256 256) (u.alloc (.cells (zeros.map enc8).toArray 5)) := by
  rw [makeB256]
  congr 3
  apply Array.toList_inj.1
  rw [toList_madeCells_one]
  unfold zeros
  rw [List.map_replicate]
  rfl
section
variable {A A1 : Option Addr} {n c n1 c1 : Nat} {rs : List Rw} {keep : List Bool} {w : World}
set_option maxRecDepth 20000 in
set_option maxHeartbeats 8000000 in
theorem DOrders_any (hR : Cs w w.heap.size A (rs.map Rw.val)) (hI : RwsIn w w.heap.size rs) (hn : rs.length = n) (hm : n ≤ maxLen) (hK : Rb w w.heap.size A1 keep) (hn1 : keep.length = n1) (hm1 : n1 ≤ maxLen) :
    Calls Try.prog 5 #[.slice A n c, .slice A1 n1 c1] w fun e w' => e = .returned (.bool true) ∧ Below w.heap.size w w' := by
  subst hn hn1
  unfold maxLen at hm hm1
  go_enter Try.func5, Try.ntmps5
  go_wp2_with fail
  refine (awake1_any w).mono ?_
  rintro e w1 ⟨rfl, hb1⟩
  have HB1 := Lib.hid hb1
  clear hb1
  go_wp2_with fail
  refine (New_dr 2 (by decide) (by decide) _).mono ?_
  rintro e w2 ⟨d, o, rfl, hd2, hw2⟩
  have HD2 : Hid (Dr w2 w1.heap.size d o [zeros, zeros] [] (-1)) := Lib.hid hd2
  have HB2 : Hid (Below w.heap.size w w2) := Lib.hid (HB1.out.trans (hw2.mono HB1.out.size))
  have HS1 : Hid (w.heap.size ≤ w1.heap.size) := Lib.hid HB1.out.size
  clear hd2 hw2 HB1
  have hmk := make2
  go_wp2_with fail
  go_region
  · obtain ⟨b8, h8⟩ : ∃ b, b = w2.heap.size + 1 := ⟨_, rfl⟩
    obtain ⟨b7, h7⟩ : ∃ b, b = w2.heap.size := ⟨_, rfl⟩
    rw [← h8, ← h7]
    obtain ⟨w3, hw3⟩ : ∃ w3, w3 = ((w2.alloc (.cells (zeros.map enc8).toArray 5)).alloc (.cells (zeros.map enc8).toArray 5)).drew := ⟨_, rfl⟩
    have hw23 : Below w2.heap.size w2 w3 := by rw [hw3]; exact (((Below.refl _ w2).alloc (Nat.le_refl _) _).alloc (by simp) _).drew
    have hz1 : Blk w3 w2.heap.size 5 (zeros.map enc8).toArray := by rw [hw3]; exact ((Blk.new w2 _ _).alloc _).drew
    have hz2 : Blk w3 (w2.heap.size + 1) 5 (zeros.map enc8).toArray := by
      rw [hw3]
      have h := (Blk.new (w2.alloc (.cells (zeros.map enc8).toArray 5)) 5 (zeros.map enc8).toArray).drew
      rw [show (w2.alloc (.cells (zeros.map enc8).toArray 5)).heap.size = w2.heap.size + 1 by simp] at h
      exact h
    rw [← hw3]
    have hl7 : RdK o w3 (some ⟨b7, 0, none⟩) zeros := RdK.of_new (B := w2.heap.size) (by rw [h7]; exact blk_rd hz1 hz1.lt) (fun b q e => by injection e with e; injection e with e _ _; omega) HD2.out.lt
    have hl8 : RdK o w3 (some ⟨b8, 0, none⟩) zeros := RdK.of_new (B := w2.heap.size) (by rw [h8]; exact blk_rd hz2 hz2.lt) (fun b q e => by injection e with e; injection e with e _ _; omega) HD2.out.lt
    have HL7 := Lib.hid hl7
    have HL8 := Lib.hid hl8
    have HD := Lib.hid (HD2.out.below hw23)
    have HB : Hid (Below w.heap.size w w3) := Lib.hid (HB2.out.trans (hw23.mono HB2.out.size))
    clear hmk hw3 hw23 hz1 hz2 hl7 hl8 h7 h8 HD2 HB2
    go_wp2
    go_loopw [7, 8, 9, 10, 29] (fun v7 v8 _ _ z wr => ∃ (k b7 b8 : Nat) (ok : Nat → Prop), k ≤ rs.length ∧ k ≤ 8 ∧ z = .int .i64 k ∧ v7 = .slice (some ⟨b7, 0, none⟩) 256 256 ∧ v8 = .slice (some ⟨b8, 0, none⟩) 256 256 ∧
      Dr wr w1.heap.size d ok [zeros, zeros] (wsOf rs k) (-1) ∧ RdK ok wr (some ⟨b7, 0, none⟩) (wantD rs keep k) ∧ RdK ok wr (some ⟨b8, 0, none⟩) (lastD rs k) ∧ Below w.heap.size w wr) (fun _ _ _ _ z _ => rs.length - (intOf z).toNat)
    case atStart => exact ⟨0, b7, b8, o, Nat.zero_le _, by omega, rfl, rfl, rfl, HD.out, HL7.out, HL8.out, HB.out⟩
    case round =>
      clear HD HL7 HL8 HB
      obtain ⟨k, b7, b8, ok, hk, hk8, rfl, rfl, rfl, hd3, hr7, hr8, hb3⟩ := hrel
      by_cases hlt : k < rs.length
      · obtain ⟨cb, co, hA, hcb, hcc⟩ := hR.at_ (k := k) (by rw [List.length_map]; exact hlt)
        have hcc1 : wr.cell? ⟨cb, co + k, none⟩ = some (.slice rs[k].A rs[k].l.length rs[k].c) := by
          rw [hb3.cell (p := ⟨cb, co + k, none⟩) hcb, hcc, List.getElem_map]; rfl
        have i0 : (0 : Int) ≤ (k : Int) := by omega
        have i1 : (k : Int) < (rs.length : Int) := by omega
        by_cases h8 : k < 8
        · have i2 : ¬ (8 : Int) ≤ (k : Int) := by omega
          obtain ⟨g1, g2, g3⟩ := hI rs[k] (List.getElem_mem hlt)
          have HWS : Hid (wsOf rs (k + 1) = wsOf rs k ++ [(1, full (rs[k].l.take 256))]) := Lib.hid (wsOf_succ rs k hlt)
          have HLS : Hid (lastD rs (k + 1) = full (rs[k].l.take 256)) := Lib.hid (by rw [lastD, getD_row rs k hlt])
          have HNS : Hid (wantD rs keep (k + 1) = if keep.getD k false then full (rs[k].l.take 256) else wantD rs keep k) := Lib.hid (by rw [wantD, getD_row rs k hlt])
          have HWL : Hid ((wsOf rs k).length < 1000000) := Lib.hid (by rw [wsOf_len rs k (by omega)]; omega)
          generalize rs[k] = r at hcc1 g1 g2 g3 HWS HLS HNS
          have HG3 := Lib.hid g3
          have hrl : r.l.length ≤ 9223372036854775807 := by unfold maxLen at g2; omega
          have HD3 := Lib.hid hd3
          have HR7 := Lib.hid hr7
          have HB3 := Lib.hid hb3
          clear hcc g1 g2 g3 hd3 hr7 hr8 hb3
          subst hA
          go_wp2_with fail
          refine (CutW_any r.A r.l.length r.c w.heap.size 256 r.l wr (HG3.out.below HB3.out) rfl hrl (by decide) HB3.out.size).mono ?_
          rintro e w4 ⟨v, rfl, hown, hw4⟩
          obtain ⟨hl4, A4, c4, rfl, hc4, hcm4, hr4⟩ := own_form hown
          have hp4 := own_past hown
          obtain ⟨L, hL⟩ : ∃ L, L = r.l.take 256 := ⟨_, rfl⟩
          rw [← hL] at hr4 hc4 HWS HLS HNS ⊢
          have hLl : L.length ≤ 256 := by rw [hL]; exact take_len _
          have HD4 := Lib.hid (HD3.out.below hw4)
          have HR4 : Hid (RdK ok w4 A4 L) := Lib.hid (RdK.of_new (B := wr.heap.size) hr4 hp4 HD3.out.lt)
          have HR74 := Lib.hid (HR7.out.below hw4)
          have HB4 : Hid (Below w.heap.size w w4) := Lib.hid (HB3.out.trans (hw4.mono HB3.out.size))
          clear hown hl4 hc4 hcm4 hr4 hp4 hL hw4 HD3 HR7 HB3
          go_wp2_with fail
          refine (Write_dr HD4.out (by decide) (by decide) 1 c4 (by show 1 < 2; decide) HR4.out rfl hLl HWL.out).mono ?_
          rintro e w5 ⟨rfl, o5, hd5, hk5, ho5⟩
          rw [← HWS.out] at hd5
          have HD5 : Hid (Dr w5 w1.heap.size d o5 [zeros, zeros] (wsOf rs (k + 1)) (-1)) := Lib.hid hd5
          have HR5 := Lib.hid (HR4.out.kept hk5 ho5)
          have HR75 := Lib.hid (HR74.out.kept hk5 ho5)
          have HB5 : Hid (Below w.heap.size w w5) := Lib.hid (HB4.out.trans (hk5.below (B := w.heap.size) HB4.out.size (fun i hi e => absurd (HD4.out.ge i e) (by have := HS1.out; omega))))
          clear hd5 hk5 ho5 HD4 HR4 HR74 HB4
          go_wp2_with fail
          refine (Full_any A4 L.length c4 w5.heap.size L w5 HR5.out.rd (Nat.le_refl _) rfl hLl).mono ?_
          rintro e w6 ⟨rfl, hb6, hw6⟩
          have HR86 : Hid (RdK o5 w6 (some ⟨w5.heap.size, 0, none⟩) (lastD rs (k + 1))) := Lib.hid (by rw [HLS.out]; exact RdK.of_new (B := w5.heap.size) (blk_rd hb6 hb6.lt) (fun b q e => by injection e with e; injection e with e _ _; omega) HD5.out.lt)
          have HD6 := Lib.hid (HD5.out.below hw6)
          have HR76 := Lib.hid (HR75.out.below hw6)
          have HB6 : Hid (Below w.heap.size w w6) := Lib.hid (HB5.out.trans (hw6.mono HB5.out.size))
          obtain ⟨b86, hb86⟩ : ∃ b, b = w5.heap.size := ⟨_, rfl⟩
          rw [← hb86] at HR86 ⊢
          clear hb6 hw6 HD5 HR5 HR75 HB5 hb86
          by_cases hkk : k < keep.length
          · obtain ⟨kb, ko, hA1, hkb, hkc⟩ := hK.at_ hkk
            have hkc1 : w6.cell? ⟨kb, ko + k, none⟩ = some (.bool keep[k]) := (HB6.out.cell (p := ⟨kb, ko + k, none⟩) hkb).trans hkc
            have hkg : keep.getD k false = keep[k] := by rw [List.getD_eq_getElem?_getD, List.getElem?_eq_getElem hkk]; rfl
            rw [hkg] at HNS
            have i3 : (k : Int) < (keep.length : Int) := by omega
            clear hkc hkg hkb
            generalize keep[k] = KB at hkc1 HNS
            subst hA1
            cases KB
            · have HN := Lib.hid (HNS.out.trans (if_neg (by decide)))
              clear HNS
              go_wp2
              go_roundw
              case rel => exact ⟨k + 1, b7, b86, o5, by omega, by omega, by go_num, rfl, rfl, HD6.out, by rw [HN.out]; exact HR76.out, HR86.out, HB6.out⟩
              case measure => simp [intOf]; omega
            · have HN := Lib.hid (HNS.out.trans (if_pos rfl))
              clear HNS
              go_wp2
              go_roundw
              case rel => exact ⟨k + 1, b86, b86, o5, by omega, by omega, by go_num, rfl, rfl, HD6.out, by rw [HN.out, ← HLS.out]; exact HR86.out, HR86.out, HB6.out⟩
              case measure => simp [intOf]; omega
          · have i3 : ¬ (k : Int) < (keep.length : Int) := by omega
            have hkg : keep.getD k false = false := by rw [List.getD_eq_getElem?_getD, List.getElem?_eq_none (by omega)]; rfl
            rw [hkg] at HNS
            have HN := Lib.hid (HNS.out.trans (if_neg (by decide)))
            clear HNS hkg
            go_wp2
            go_roundw
            case rel => exact ⟨k + 1, b7, b86, o5, by omega, by omega, by go_num, rfl, rfl, HD6.out, by rw [HN.out]; exact HR76.out, HR86.out, HB6.out⟩
            case measure => simp [intOf]; omega
        · have i2 : (8 : Int) ≤ (k : Int) := by omega
          subst hA
          have HW : Hid (app [zeros, zeros] (wsOf rs k) = [zeros, lastD rs k]) := Lib.hid (app_ws rs k (by omega))
          have HF : Hid (fallOf [zeros, zeros] (wsOf rs k) keep (-1) = [zeros, wantD rs keep k]) := Lib.hid (fall_ws rs keep k (by omega))
          have HD3 := Lib.hid hd3
          have HR7 := Lib.hid hr7
          have HR8 := Lib.hid hr8
          have HB3 := Lib.hid hb3
          have HK := Lib.hid hK
          have HWL : Hid ((wantD rs keep k).length = 256) := Lib.hid (wantD_len rs keep k)
          have HLL : Hid ((lastD rs k).length = 256) := Lib.hid (lastD_len rs k)
          clear hd3 hr7 hr8 hb3 hK hR hI
          go_wp2_with fail
          refine (Fall_dr HD3.out c1 w.heap.size keep (HK.out.below HB3.out) HB3.out.size rfl (by unfold maxLen; omega) (-1)).mono ?_
          rintro e w4 ⟨d4, o4, rfl, hd4, hw4⟩
          rw [HF.out] at hd4
          have HD4 := Lib.hid (HD3.out.below hw4)
          have HC4 := Lib.hid hd4
          have HR74 := Lib.hid (HR7.out.below hw4)
          have HR84 := Lib.hid (HR8.out.below hw4)
          have HB4 : Hid (Below w.heap.size w w4) := Lib.hid (HB3.out.trans (hw4.mono HB3.out.size))
          have HOL : Hid (∀ i, ok i → i < wr.heap.size) := Lib.hid HD3.out.lt
          have HSZ : Hid (wr.heap.size ≤ w4.heap.size) := Lib.hid hw4.size
          clear hd4 hw4 HD3 HR7 HR8 HB3
          go_wp2_with fail
          refine (Read_dr HC4.out 1 (by show 1 < 2; decide)).mono ?_
          rintro e w5 ⟨rfl, hb5, hw5⟩
          rw [show now [zeros, wantD rs keep k] [] 1 = wantD rs keep k from rfl] at hb5
          have HX5 : Hid (RdK ok w5 (some ⟨w4.heap.size, 0, none⟩) (wantD rs keep k)) := Lib.hid (RdK.of_new (B := w4.heap.size) (blk_rd hb5 hb5.lt) (fun b q e => by injection e with e; injection e with e _ _; omega) (fun i hi => by have := HOL.out i hi; have := HSZ.out; omega))
          have HD5 := Lib.hid (HD4.out.below hw5)
          have HC5 := Lib.hid (HC4.out.below hw5)
          have HR75 := Lib.hid (HR74.out.below hw5)
          have HR85 := Lib.hid (HR84.out.below hw5)
          have HB5 : Hid (Below w.heap.size w w5) := Lib.hid (HB4.out.trans (hw5.mono HB4.out.size))
          have HSZ5 : Hid (wr.heap.size ≤ w5.heap.size) := Lib.hid (Nat.le_trans HSZ.out hw5.size)
          obtain ⟨x5, hx5⟩ : ∃ x, x = w4.heap.size := ⟨_, rfl⟩
          rw [← hx5] at HX5 ⊢
          clear hb5 hw5 HD4 HC4 HR74 HR84 HB4 hx5 HSZ
          go_wp2_with fail
          refine (Read_dr HD5.out 1 (by show 1 < 2; decide)).mono ?_
          rintro e w6 ⟨rfl, hb6, hw6⟩
          have hn6 : now [zeros, zeros] (wsOf rs k) 1 = lastD rs k := by unfold now; rw [HW.out]; rfl
          rw [hn6] at hb6
          have HY6 : Hid (RdK ok w6 (some ⟨w5.heap.size, 0, none⟩) (lastD rs k)) := Lib.hid (RdK.of_new (B := w5.heap.size) (blk_rd hb6 hb6.lt) (fun b q e => by injection e with e; injection e with e _ _; omega) (fun i hi => by have := HOL.out i hi; have := HSZ5.out; omega))
          have HD6 := Lib.hid (HD5.out.below hw6)
          have HC6 := Lib.hid (HC5.out.below hw6)
          have HX6 := Lib.hid (HX5.out.below hw6)
          have HR76 := Lib.hid (HR75.out.below hw6)
          have HR86 := Lib.hid (HR85.out.below hw6)
          have HB6 : Hid (Below w.heap.size w w6) := Lib.hid (HB5.out.trans (hw6.mono HB5.out.size))
          obtain ⟨y6, hy6⟩ : ∃ x, x = w5.heap.size := ⟨_, rfl⟩
          rw [← hy6] at HY6 ⊢
          have HGE : Hid (∀ i, o4 i → wr.heap.size ≤ i) := Lib.hid HC6.out.ge
          clear hb6 hw6 hn6 HD5 HC5 HR75 HR85 HB5 HX5 hy6 HSZ5
          go_wp2_with fail
          refine (Flush_dr HD6.out (by decide) (by decide)).mono ?_
          rintro e w7 ⟨rfl, o7, hd7, hk7, ho7⟩
          rw [HW.out] at hd7
          have HD7 : Hid (Dr w7 w1.heap.size d o7 [zeros, lastD rs k] [] (-1)) := Lib.hid hd7
          have HC7 := Lib.hid (HC6.out.keep hk7 (fun i hi e => by have := HOL.out i e; have := HGE.out i hi; omega))
          have HX7 := Lib.hid (HX6.out.kept hk7 ho7)
          have HY7 := Lib.hid (HY6.out.kept hk7 ho7)
          have HR77 := Lib.hid (HR76.out.kept hk7 ho7)
          have HR87 := Lib.hid (HR86.out.kept hk7 ho7)
          have HB7 : Hid (Below w.heap.size w w7) := Lib.hid (HB6.out.trans (hk7.below (B := w.heap.size) HB6.out.size (fun i hi e => absurd (HD6.out.ge i e) (by have := HS1.out; omega))))
          clear hd7 hk7 ho7 HD6 HC6 HX6 HY6 HR76 HR86 HB6
          go_wp2_with fail
          refine (Read_dr HD7.out 1 (by show 1 < 2; decide)).mono ?_
          rintro e w8 ⟨rfl, hb8, hw8⟩
          rw [show now [zeros, lastD rs k] [] 1 = lastD rs k from rfl] at hb8
          have HZ8 := Lib.hid (blk_rd hb8 hb8.lt)
          have HD8 := Lib.hid (HD7.out.below hw8)
          have HC8 := Lib.hid (HC7.out.below hw8)
          have HX8 := Lib.hid (HX7.out.below hw8).rd
          have HY8 := Lib.hid (HY7.out.below hw8).rd
          have HR78 := Lib.hid (HR77.out.below hw8).rd
          have HR88 := Lib.hid (HR87.out.below hw8).rd
          have HB8 : Hid (Below w.heap.size w w8) := Lib.hid (HB7.out.trans (hw8.mono HB7.out.size))
          clear hb8 hw8 HD7 HC7 HX7 HY7 HR77 HR87 HB7
          go_wp2_with fail
          refine (Same_any _ _ 256 256 w8.heap.size 256 256 w8.heap.size _ _ w8 HX8.out HWL.out (by decide) HR78.out HWL.out (by decide)).mono ?_
          rintro e w9 hq
          obtain ⟨rfl, hw9⟩ := below_all hq
          rw [decide_eq_true (show wantD rs keep k = wantD rs keep k from rfl)]
          have HB9 : Hid (Below w.heap.size w w9) := Lib.hid (HB8.out.trans (hw9.mono HB8.out.size))
          have HD9 := Lib.hid (HD8.out.below hw9)
          have HC9 := Lib.hid (HC8.out.below hw9)
          have HY9 := Lib.hid ((HY8.out.below hw9).more hw9.size)
          have HZ9 := Lib.hid ((HZ8.out.below hw9).more hw9.size)
          have HR89 := Lib.hid ((HR88.out.below hw9).more hw9.size)
          clear hq hw9 HB8 HD8 HC8 HX8 HY8 HZ8 HR78 HR88
          go_wp2_with fail
          refine (Same_any _ _ 256 256 w9.heap.size 256 256 w9.heap.size _ _ w9 HY9.out HLL.out (by decide) HR89.out HLL.out (by decide)).mono ?_
          rintro e w10 hq
          obtain ⟨rfl, hw10⟩ := below_all hq
          rw [decide_eq_true (show lastD rs k = lastD rs k from rfl)]
          have HB10 : Hid (Below w.heap.size w w10) := Lib.hid (HB9.out.trans (hw10.mono HB9.out.size))
          have HD10 := Lib.hid (HD9.out.below hw10)
          have HC10 := Lib.hid (HC9.out.below hw10)
          have HZ10 := Lib.hid ((HZ9.out.below hw10).more hw10.size)
          have HR810 := Lib.hid ((HR89.out.below hw10).more hw10.size)
          clear hq hw10 HB9 HD9 HC9 HY9 HZ9 HR89
          go_wp2_with fail
          refine (Same_any _ _ 256 256 w10.heap.size 256 256 w10.heap.size _ _ w10 HZ10.out HLL.out (by decide) HR810.out HLL.out (by decide)).mono ?_
          rintro e w11 hq
          obtain ⟨rfl, hw11⟩ := below_all hq
          rw [decide_eq_true (show lastD rs k = lastD rs k from rfl)]
          have HB11 : Hid (Below w.heap.size w w11) := Lib.hid (HB10.out.trans (hw11.mono HB10.out.size))
          have HD11 := Lib.hid (HD10.out.below hw11)
          have HC11 := Lib.hid (HC10.out.below hw11)
          clear hq hw11 HB10 HD10 HC10 HZ10 HR810
          go_wp2_with fail
          refine (Clean_dr HC11.out 0 (by show 0 < 2; decide)).mono ?_
          rintro e w12 ⟨rfl, rfl⟩
          rw [show decide (now [zeros, wantD rs keep k] [] 0 = zeros) = true from decide_eq_true rfl]
          go_wp2_with fail
          refine (Dirty_dr HD11.out).mono ?_
          rintro e w13 ⟨rfl, rfl⟩
          go_wp2
          go_ret
          exact ⟨rfl, HB11.out⟩
      · have i1 : ¬ (k : Int) < (rs.length : Int) := by omega
        have HW : Hid (app [zeros, zeros] (wsOf rs k) = [zeros, lastD rs k]) := Lib.hid (app_ws rs k (by omega))
        have HF : Hid (fallOf [zeros, zeros] (wsOf rs k) keep (-1) = [zeros, wantD rs keep k]) := Lib.hid (fall_ws rs keep k (by omega))
        have HD3 := Lib.hid hd3
        have HR7 := Lib.hid hr7
        have HR8 := Lib.hid hr8
        have HB3 := Lib.hid hb3
        have HK := Lib.hid hK
        have HWL : Hid ((wantD rs keep k).length = 256) := Lib.hid (wantD_len rs keep k)
        have HLL : Hid ((lastD rs k).length = 256) := Lib.hid (lastD_len rs k)
        clear hd3 hr7 hr8 hb3 hK hR hI
        go_wp2_with fail
        refine (Fall_dr HD3.out c1 w.heap.size keep (HK.out.below HB3.out) HB3.out.size rfl (by unfold maxLen; omega) (-1)).mono ?_
        rintro e w4 ⟨d4, o4, rfl, hd4, hw4⟩
        rw [HF.out] at hd4
        have HD4 := Lib.hid (HD3.out.below hw4)
        have HC4 := Lib.hid hd4
        have HR74 := Lib.hid (HR7.out.below hw4)
        have HR84 := Lib.hid (HR8.out.below hw4)
        have HB4 : Hid (Below w.heap.size w w4) := Lib.hid (HB3.out.trans (hw4.mono HB3.out.size))
        have HOL : Hid (∀ i, ok i → i < wr.heap.size) := Lib.hid HD3.out.lt
        have HSZ : Hid (wr.heap.size ≤ w4.heap.size) := Lib.hid hw4.size
        clear hd4 hw4 HD3 HR7 HR8 HB3
        go_wp2_with fail
        refine (Read_dr HC4.out 1 (by show 1 < 2; decide)).mono ?_
        rintro e w5 ⟨rfl, hb5, hw5⟩
        rw [show now [zeros, wantD rs keep k] [] 1 = wantD rs keep k from rfl] at hb5
        have HX5 : Hid (RdK ok w5 (some ⟨w4.heap.size, 0, none⟩) (wantD rs keep k)) := Lib.hid (RdK.of_new (B := w4.heap.size) (blk_rd hb5 hb5.lt) (fun b q e => by injection e with e; injection e with e _ _; omega) (fun i hi => by have := HOL.out i hi; have := HSZ.out; omega))
        have HD5 := Lib.hid (HD4.out.below hw5)
        have HC5 := Lib.hid (HC4.out.below hw5)
        have HR75 := Lib.hid (HR74.out.below hw5)
        have HR85 := Lib.hid (HR84.out.below hw5)
        have HB5 : Hid (Below w.heap.size w w5) := Lib.hid (HB4.out.trans (hw5.mono HB4.out.size))
        have HSZ5 : Hid (wr.heap.size ≤ w5.heap.size) := Lib.hid (Nat.le_trans HSZ.out hw5.size)
        obtain ⟨x5, hx5⟩ : ∃ x, x = w4.heap.size := ⟨_, rfl⟩
        rw [← hx5] at HX5 ⊢
        clear hb5 hw5 HD4 HC4 HR74 HR84 HB4 hx5 HSZ
        go_wp2_with fail
        refine (Read_dr HD5.out 1 (by show 1 < 2; decide)).mono ?_
        rintro e w6 ⟨rfl, hb6, hw6⟩
        have hn6 : now [zeros, zeros] (wsOf rs k) 1 = lastD rs k := by unfold now; rw [HW.out]; rfl
        rw [hn6] at hb6
        have HY6 : Hid (RdK ok w6 (some ⟨w5.heap.size, 0, none⟩) (lastD rs k)) := Lib.hid (RdK.of_new (B := w5.heap.size) (blk_rd hb6 hb6.lt) (fun b q e => by injection e with e; injection e with e _ _; omega) (fun i hi => by have := HOL.out i hi; have := HSZ5.out; omega))
        have HD6 := Lib.hid (HD5.out.below hw6)
        have HC6 := Lib.hid (HC5.out.below hw6)
        have HX6 := Lib.hid (HX5.out.below hw6)
        have HR76 := Lib.hid (HR75.out.below hw6)
        have HR86 := Lib.hid (HR85.out.below hw6)
        have HB6 : Hid (Below w.heap.size w w6) := Lib.hid (HB5.out.trans (hw6.mono HB5.out.size))
        obtain ⟨y6, hy6⟩ : ∃ x, x = w5.heap.size := ⟨_, rfl⟩
        rw [← hy6] at HY6 ⊢
        have HGE : Hid (∀ i, o4 i → wr.heap.size ≤ i) := Lib.hid HC6.out.ge
        clear hb6 hw6 hn6 HD5 HC5 HR75 HR85 HB5 HX5 hy6 HSZ5
        go_wp2_with fail
        refine (Flush_dr HD6.out (by decide) (by decide)).mono ?_
        rintro e w7 ⟨rfl, o7, hd7, hk7, ho7⟩
        rw [HW.out] at hd7
        have HD7 : Hid (Dr w7 w1.heap.size d o7 [zeros, lastD rs k] [] (-1)) := Lib.hid hd7
        have HC7 := Lib.hid (HC6.out.keep hk7 (fun i hi e => by have := HOL.out i e; have := HGE.out i hi; omega))
        have HX7 := Lib.hid (HX6.out.kept hk7 ho7)
        have HY7 := Lib.hid (HY6.out.kept hk7 ho7)
        have HR77 := Lib.hid (HR76.out.kept hk7 ho7)
        have HR87 := Lib.hid (HR86.out.kept hk7 ho7)
        have HB7 : Hid (Below w.heap.size w w7) := Lib.hid (HB6.out.trans (hk7.below (B := w.heap.size) HB6.out.size (fun i hi e => absurd (HD6.out.ge i e) (by have := HS1.out; omega))))
        clear hd7 hk7 ho7 HD6 HC6 HX6 HY6 HR76 HR86 HB6
        go_wp2_with fail
        refine (Read_dr HD7.out 1 (by show 1 < 2; decide)).mono ?_
        rintro e w8 ⟨rfl, hb8, hw8⟩
        rw [show now [zeros, lastD rs k] [] 1 = lastD rs k from rfl] at hb8
        have HZ8 := Lib.hid (blk_rd hb8 hb8.lt)
        have HD8 := Lib.hid (HD7.out.below hw8)
        have HC8 := Lib.hid (HC7.out.below hw8)
        have HX8 := Lib.hid (HX7.out.below hw8).rd
        have HY8 := Lib.hid (HY7.out.below hw8).rd
        have HR78 := Lib.hid (HR77.out.below hw8).rd
        have HR88 := Lib.hid (HR87.out.below hw8).rd
        have HB8 : Hid (Below w.heap.size w w8) := Lib.hid (HB7.out.trans (hw8.mono HB7.out.size))
        clear hb8 hw8 HD7 HC7 HX7 HY7 HR77 HR87 HB7
        go_wp2_with fail
        refine (Same_any _ _ 256 256 w8.heap.size 256 256 w8.heap.size _ _ w8 HX8.out HWL.out (by decide) HR78.out HWL.out (by decide)).mono ?_
        rintro e w9 hq
        obtain ⟨rfl, hw9⟩ := below_all hq
        rw [decide_eq_true (show wantD rs keep k = wantD rs keep k from rfl)]
        have HB9 : Hid (Below w.heap.size w w9) := Lib.hid (HB8.out.trans (hw9.mono HB8.out.size))
        have HD9 := Lib.hid (HD8.out.below hw9)
        have HC9 := Lib.hid (HC8.out.below hw9)
        have HY9 := Lib.hid ((HY8.out.below hw9).more hw9.size)
        have HZ9 := Lib.hid ((HZ8.out.below hw9).more hw9.size)
        have HR89 := Lib.hid ((HR88.out.below hw9).more hw9.size)
        clear hq hw9 HB8 HD8 HC8 HX8 HY8 HZ8 HR78 HR88
        go_wp2_with fail
        refine (Same_any _ _ 256 256 w9.heap.size 256 256 w9.heap.size _ _ w9 HY9.out HLL.out (by decide) HR89.out HLL.out (by decide)).mono ?_
        rintro e w10 hq
        obtain ⟨rfl, hw10⟩ := below_all hq
        rw [decide_eq_true (show lastD rs k = lastD rs k from rfl)]
        have HB10 : Hid (Below w.heap.size w w10) := Lib.hid (HB9.out.trans (hw10.mono HB9.out.size))
        have HD10 := Lib.hid (HD9.out.below hw10)
        have HC10 := Lib.hid (HC9.out.below hw10)
        have HZ10 := Lib.hid ((HZ9.out.below hw10).more hw10.size)
        have HR810 := Lib.hid ((HR89.out.below hw10).more hw10.size)
        clear hq hw10 HB9 HD9 HC9 HY9 HZ9 HR89
        go_wp2_with fail
        refine (Same_any _ _ 256 256 w10.heap.size 256 256 w10.heap.size _ _ w10 HZ10.out HLL.out (by decide) HR810.out HLL.out (by decide)).mono ?_
        rintro e w11 hq
        obtain ⟨rfl, hw11⟩ := below_all hq
        rw [decide_eq_true (show lastD rs k = lastD rs k from rfl)]
        have HB11 : Hid (Below w.heap.size w w11) := Lib.hid (HB10.out.trans (hw11.mono HB10.out.size))
        have HD11 := Lib.hid (HD10.out.below hw11)
        have HC11 := Lib.hid (HC10.out.below hw11)
        clear hq hw11 HB10 HD10 HC10 HZ10 HR810
        go_wp2_with fail
        refine (Clean_dr HC11.out 0 (by show 0 < 2; decide)).mono ?_
        rintro e w12 ⟨rfl, rfl⟩
        rw [show decide (now [zeros, wantD rs keep k] [] 0 = zeros) = true from decide_eq_true rfl]
        go_wp2_with fail
        refine (Dirty_dr HD11.out).mono ?_
        rintro e w13 ⟨rfl, rfl⟩
        go_wp2
        go_ret
        exact ⟨rfl, HB11.out⟩
  · obtain ⟨b8, h8⟩ : ∃ b, b = w2.heap.size := ⟨_, rfl⟩
    obtain ⟨b7, h7⟩ : ∃ b, b = w2.heap.size + 1 := ⟨_, rfl⟩
    rw [← h7, ← h8]
    obtain ⟨w3, hw3⟩ : ∃ w3, w3 = ((w2.alloc (.cells (zeros.map enc8).toArray 5)).alloc (.cells (zeros.map enc8).toArray 5)).drew := ⟨_, rfl⟩
    have hw23 : Below w2.heap.size w2 w3 := by rw [hw3]; exact (((Below.refl _ w2).alloc (Nat.le_refl _) _).alloc (by simp) _).drew
    have hz1 : Blk w3 w2.heap.size 5 (zeros.map enc8).toArray := by rw [hw3]; exact ((Blk.new w2 _ _).alloc _).drew
    have hz2 : Blk w3 (w2.heap.size + 1) 5 (zeros.map enc8).toArray := by
      rw [hw3]
      have h := (Blk.new (w2.alloc (.cells (zeros.map enc8).toArray 5)) 5 (zeros.map enc8).toArray).drew
      rw [show (w2.alloc (.cells (zeros.map enc8).toArray 5)).heap.size = w2.heap.size + 1 by simp] at h
      exact h
    rw [← hw3]
    have hl7 : RdK o w3 (some ⟨b7, 0, none⟩) zeros := RdK.of_new (B := w2.heap.size) (by rw [h7]; exact blk_rd hz2 hz2.lt) (fun b q e => by injection e with e; injection e with e _ _; omega) HD2.out.lt
    have hl8 : RdK o w3 (some ⟨b8, 0, none⟩) zeros := RdK.of_new (B := w2.heap.size) (by rw [h8]; exact blk_rd hz1 hz1.lt) (fun b q e => by injection e with e; injection e with e _ _; omega) HD2.out.lt
    have HL7 := Lib.hid hl7
    have HL8 := Lib.hid hl8
    have HD := Lib.hid (HD2.out.below hw23)
    have HB : Hid (Below w.heap.size w w3) := Lib.hid (HB2.out.trans (hw23.mono HB2.out.size))
    clear hmk hw3 hw23 hz1 hz2 hl7 hl8 h7 h8 HD2 HB2
    go_wp2
    go_loopw [7, 8, 9, 10, 29] (fun v7 v8 _ _ z wr => ∃ (k b7 b8 : Nat) (ok : Nat → Prop), k ≤ rs.length ∧ k ≤ 8 ∧ z = .int .i64 k ∧ v7 = .slice (some ⟨b7, 0, none⟩) 256 256 ∧ v8 = .slice (some ⟨b8, 0, none⟩) 256 256 ∧
      Dr wr w1.heap.size d ok [zeros, zeros] (wsOf rs k) (-1) ∧ RdK ok wr (some ⟨b7, 0, none⟩) (wantD rs keep k) ∧ RdK ok wr (some ⟨b8, 0, none⟩) (lastD rs k) ∧ Below w.heap.size w wr) (fun _ _ _ _ z _ => rs.length - (intOf z).toNat)
    case atStart => exact ⟨0, b7, b8, o, Nat.zero_le _, by omega, rfl, rfl, rfl, HD.out, HL7.out, HL8.out, HB.out⟩
    case round =>
      clear HD HL7 HL8 HB
      obtain ⟨k, b7, b8, ok, hk, hk8, rfl, rfl, rfl, hd3, hr7, hr8, hb3⟩ := hrel
      by_cases hlt : k < rs.length
      · obtain ⟨cb, co, hA, hcb, hcc⟩ := hR.at_ (k := k) (by rw [List.length_map]; exact hlt)
        have hcc1 : wr.cell? ⟨cb, co + k, none⟩ = some (.slice rs[k].A rs[k].l.length rs[k].c) := by
          rw [hb3.cell (p := ⟨cb, co + k, none⟩) hcb, hcc, List.getElem_map]; rfl
        have i0 : (0 : Int) ≤ (k : Int) := by omega
        have i1 : (k : Int) < (rs.length : Int) := by omega
        by_cases h8 : k < 8
        · have i2 : ¬ (8 : Int) ≤ (k : Int) := by omega
          obtain ⟨g1, g2, g3⟩ := hI rs[k] (List.getElem_mem hlt)
          have HWS : Hid (wsOf rs (k + 1) = wsOf rs k ++ [(1, full (rs[k].l.take 256))]) := Lib.hid (wsOf_succ rs k hlt)
          have HLS : Hid (lastD rs (k + 1) = full (rs[k].l.take 256)) := Lib.hid (by rw [lastD, getD_row rs k hlt])
          have HNS : Hid (wantD rs keep (k + 1) = if keep.getD k false then full (rs[k].l.take 256) else wantD rs keep k) := Lib.hid (by rw [wantD, getD_row rs k hlt])
          have HWL : Hid ((wsOf rs k).length < 1000000) := Lib.hid (by rw [wsOf_len rs k (by omega)]; omega)
          generalize rs[k] = r at hcc1 g1 g2 g3 HWS HLS HNS
          have HG3 := Lib.hid g3
          have hrl : r.l.length ≤ 9223372036854775807 := by unfold maxLen at g2; omega
          have HD3 := Lib.hid hd3
          have HR7 := Lib.hid hr7
          have HB3 := Lib.hid hb3
          clear hcc g1 g2 g3 hd3 hr7 hr8 hb3
          subst hA
          go_wp2_with fail
          refine (CutW_any r.A r.l.length r.c w.heap.size 256 r.l wr (HG3.out.below HB3.out) rfl hrl (by decide) HB3.out.size).mono ?_
          rintro e w4 ⟨v, rfl, hown, hw4⟩
          obtain ⟨hl4, A4, c4, rfl, hc4, hcm4, hr4⟩ := own_form hown
          have hp4 := own_past hown
          obtain ⟨L, hL⟩ : ∃ L, L = r.l.take 256 := ⟨_, rfl⟩
          rw [← hL] at hr4 hc4 HWS HLS HNS ⊢
          have hLl : L.length ≤ 256 := by rw [hL]; exact take_len _
          have HD4 := Lib.hid (HD3.out.below hw4)
          have HR4 : Hid (RdK ok w4 A4 L) := Lib.hid (RdK.of_new (B := wr.heap.size) hr4 hp4 HD3.out.lt)
          have HR74 := Lib.hid (HR7.out.below hw4)
          have HB4 : Hid (Below w.heap.size w w4) := Lib.hid (HB3.out.trans (hw4.mono HB3.out.size))
          clear hown hl4 hc4 hcm4 hr4 hp4 hL hw4 HD3 HR7 HB3
          go_wp2_with fail
          refine (Write_dr HD4.out (by decide) (by decide) 1 c4 (by show 1 < 2; decide) HR4.out rfl hLl HWL.out).mono ?_
          rintro e w5 ⟨rfl, o5, hd5, hk5, ho5⟩
          rw [← HWS.out] at hd5
          have HD5 : Hid (Dr w5 w1.heap.size d o5 [zeros, zeros] (wsOf rs (k + 1)) (-1)) := Lib.hid hd5
          have HR5 := Lib.hid (HR4.out.kept hk5 ho5)
          have HR75 := Lib.hid (HR74.out.kept hk5 ho5)
          have HB5 : Hid (Below w.heap.size w w5) := Lib.hid (HB4.out.trans (hk5.below (B := w.heap.size) HB4.out.size (fun i hi e => absurd (HD4.out.ge i e) (by have := HS1.out; omega))))
          clear hd5 hk5 ho5 HD4 HR4 HR74 HB4
          go_wp2_with fail
          refine (Full_any A4 L.length c4 w5.heap.size L w5 HR5.out.rd (Nat.le_refl _) rfl hLl).mono ?_
          rintro e w6 ⟨rfl, hb6, hw6⟩
          have HR86 : Hid (RdK o5 w6 (some ⟨w5.heap.size, 0, none⟩) (lastD rs (k + 1))) := Lib.hid (by rw [HLS.out]; exact RdK.of_new (B := w5.heap.size) (blk_rd hb6 hb6.lt) (fun b q e => by injection e with e; injection e with e _ _; omega) HD5.out.lt)
          have HD6 := Lib.hid (HD5.out.below hw6)
          have HR76 := Lib.hid (HR75.out.below hw6)
          have HB6 : Hid (Below w.heap.size w w6) := Lib.hid (HB5.out.trans (hw6.mono HB5.out.size))
          obtain ⟨b86, hb86⟩ : ∃ b, b = w5.heap.size := ⟨_, rfl⟩
          rw [← hb86] at HR86 ⊢
          clear hb6 hw6 HD5 HR5 HR75 HB5 hb86
          by_cases hkk : k < keep.length
          · obtain ⟨kb, ko, hA1, hkb, hkc⟩ := hK.at_ hkk
            have hkc1 : w6.cell? ⟨kb, ko + k, none⟩ = some (.bool keep[k]) := (HB6.out.cell (p := ⟨kb, ko + k, none⟩) hkb).trans hkc
            have hkg : keep.getD k false = keep[k] := by rw [List.getD_eq_getElem?_getD, List.getElem?_eq_getElem hkk]; rfl
            rw [hkg] at HNS
            have i3 : (k : Int) < (keep.length : Int) := by omega
            clear hkc hkg hkb
            generalize keep[k] = KB at hkc1 HNS
            subst hA1
            cases KB
            · have HN := Lib.hid (HNS.out.trans (if_neg (by decide)))
              clear HNS
              go_wp2
              go_roundw
              case rel => exact ⟨k + 1, b7, b86, o5, by omega, by omega, by go_num, rfl, rfl, HD6.out, by rw [HN.out]; exact HR76.out, HR86.out, HB6.out⟩
              case measure => simp [intOf]; omega
            · have HN := Lib.hid (HNS.out.trans (if_pos rfl))
              clear HNS
              go_wp2
              go_roundw
              case rel => exact ⟨k + 1, b86, b86, o5, by omega, by omega, by go_num, rfl, rfl, HD6.out, by rw [HN.out, ← HLS.out]; exact HR86.out, HR86.out, HB6.out⟩
              case measure => simp [intOf]; omega
          · have i3 : ¬ (k : Int) < (keep.length : Int) := by omega
            have hkg : keep.getD k false = false := by rw [List.getD_eq_getElem?_getD, List.getElem?_eq_none (by omega)]; rfl
            rw [hkg] at HNS
            have HN := Lib.hid (HNS.out.trans (if_neg (by decide)))
            clear HNS hkg
            go_wp2
            go_roundw
            case rel => exact ⟨k + 1, b7, b86, o5, by omega, by omega, by go_num, rfl, rfl, HD6.out, by rw [HN.out]; exact HR76.out, HR86.out, HB6.out⟩
            case measure => simp [intOf]; omega
        · have i2 : (8 : Int) ≤ (k : Int) := by omega
          subst hA
          have HW : Hid (app [zeros, zeros] (wsOf rs k) = [zeros, lastD rs k]) := Lib.hid (app_ws rs k (by omega))
          have HF : Hid (fallOf [zeros, zeros] (wsOf rs k) keep (-1) = [zeros, wantD rs keep k]) := Lib.hid (fall_ws rs keep k (by omega))
          have HD3 := Lib.hid hd3
          have HR7 := Lib.hid hr7
          have HR8 := Lib.hid hr8
          have HB3 := Lib.hid hb3
          have HK := Lib.hid hK
          have HWL : Hid ((wantD rs keep k).length = 256) := Lib.hid (wantD_len rs keep k)
          have HLL : Hid ((lastD rs k).length = 256) := Lib.hid (lastD_len rs k)
          clear hd3 hr7 hr8 hb3 hK hR hI
          go_wp2_with fail
          refine (Fall_dr HD3.out c1 w.heap.size keep (HK.out.below HB3.out) HB3.out.size rfl (by unfold maxLen; omega) (-1)).mono ?_
          rintro e w4 ⟨d4, o4, rfl, hd4, hw4⟩
          rw [HF.out] at hd4
          have HD4 := Lib.hid (HD3.out.below hw4)
          have HC4 := Lib.hid hd4
          have HR74 := Lib.hid (HR7.out.below hw4)
          have HR84 := Lib.hid (HR8.out.below hw4)
          have HB4 : Hid (Below w.heap.size w w4) := Lib.hid (HB3.out.trans (hw4.mono HB3.out.size))
          have HOL : Hid (∀ i, ok i → i < wr.heap.size) := Lib.hid HD3.out.lt
          have HSZ : Hid (wr.heap.size ≤ w4.heap.size) := Lib.hid hw4.size
          clear hd4 hw4 HD3 HR7 HR8 HB3
          go_wp2_with fail
          refine (Read_dr HC4.out 1 (by show 1 < 2; decide)).mono ?_
          rintro e w5 ⟨rfl, hb5, hw5⟩
          rw [show now [zeros, wantD rs keep k] [] 1 = wantD rs keep k from rfl] at hb5
          have HX5 : Hid (RdK ok w5 (some ⟨w4.heap.size, 0, none⟩) (wantD rs keep k)) := Lib.hid (RdK.of_new (B := w4.heap.size) (blk_rd hb5 hb5.lt) (fun b q e => by injection e with e; injection e with e _ _; omega) (fun i hi => by have := HOL.out i hi; have := HSZ.out; omega))
          have HD5 := Lib.hid (HD4.out.below hw5)
          have HC5 := Lib.hid (HC4.out.below hw5)
          have HR75 := Lib.hid (HR74.out.below hw5)
          have HR85 := Lib.hid (HR84.out.below hw5)
          have HB5 : Hid (Below w.heap.size w w5) := Lib.hid (HB4.out.trans (hw5.mono HB4.out.size))
          have HSZ5 : Hid (wr.heap.size ≤ w5.heap.size) := Lib.hid (Nat.le_trans HSZ.out hw5.size)
          obtain ⟨x5, hx5⟩ : ∃ x, x = w4.heap.size := ⟨_, rfl⟩
          rw [← hx5] at HX5 ⊢
          clear hb5 hw5 HD4 HC4 HR74 HR84 HB4 hx5 HSZ
          go_wp2_with fail
          refine (Read_dr HD5.out 1 (by show 1 < 2; decide)).mono ?_
          rintro e w6 ⟨rfl, hb6, hw6⟩
          have hn6 : now [zeros, zeros] (wsOf rs k) 1 = lastD rs k := by unfold now; rw [HW.out]; rfl
          rw [hn6] at hb6
          have HY6 : Hid (RdK ok w6 (some ⟨w5.heap.size, 0, none⟩) (lastD rs k)) := Lib.hid (RdK.of_new (B := w5.heap.size) (blk_rd hb6 hb6.lt) (fun b q e => by injection e with e; injection e with e _ _; omega) (fun i hi => by have := HOL.out i hi; have := HSZ5.out; omega))
          have HD6 := Lib.hid (HD5.out.below hw6)
          have HC6 := Lib.hid (HC5.out.below hw6)
          have HX6 := Lib.hid (HX5.out.below hw6)
          have HR76 := Lib.hid (HR75.out.below hw6)
          have HR86 := Lib.hid (HR85.out.below hw6)
          have HB6 : Hid (Below w.heap.size w w6) := Lib.hid (HB5.out.trans (hw6.mono HB5.out.size))
          obtain ⟨y6, hy6⟩ : ∃ x, x = w5.heap.size := ⟨_, rfl⟩
          rw [← hy6] at HY6 ⊢
          have HGE : Hid (∀ i, o4 i → wr.heap.size ≤ i) := Lib.hid HC6.out.ge
          clear hb6 hw6 hn6 HD5 HC5 HR75 HR85 HB5 HX5 hy6 HSZ5
          go_wp2_with fail
          refine (Flush_dr HD6.out (by decide) (by decide)).mono ?_
          rintro e w7 ⟨rfl, o7, hd7, hk7, ho7⟩
          rw [HW.out] at hd7
          have HD7 : Hid (Dr w7 w1.heap.size d o7 [zeros, lastD rs k] [] (-1)) := Lib.hid hd7
          have HC7 := Lib.hid (HC6.out.keep hk7 (fun i hi e => by have := HOL.out i e; have := HGE.out i hi; omega))
          have HX7 := Lib.hid (HX6.out.kept hk7 ho7)
          have HY7 := Lib.hid (HY6.out.kept hk7 ho7)
          have HR77 := Lib.hid (HR76.out.kept hk7 ho7)
          have HR87 := Lib.hid (HR86.out.kept hk7 ho7)
          have HB7 : Hid (Below w.heap.size w w7) := Lib.hid (HB6.out.trans (hk7.below (B := w.heap.size) HB6.out.size (fun i hi e => absurd (HD6.out.ge i e) (by have := HS1.out; omega))))
          clear hd7 hk7 ho7 HD6 HC6 HX6 HY6 HR76 HR86 HB6
          go_wp2_with fail
          refine (Read_dr HD7.out 1 (by show 1 < 2; decide)).mono ?_
          rintro e w8 ⟨rfl, hb8, hw8⟩
          rw [show now [zeros, lastD rs k] [] 1 = lastD rs k from rfl] at hb8
          have HZ8 := Lib.hid (blk_rd hb8 hb8.lt)
          have HD8 := Lib.hid (HD7.out.below hw8)
          have HC8 := Lib.hid (HC7.out.below hw8)
          have HX8 := Lib.hid (HX7.out.below hw8).rd
          have HY8 := Lib.hid (HY7.out.below hw8).rd
          have HR78 := Lib.hid (HR77.out.below hw8).rd
          have HR88 := Lib.hid (HR87.out.below hw8).rd
          have HB8 : Hid (Below w.heap.size w w8) := Lib.hid (HB7.out.trans (hw8.mono HB7.out.size))
          clear hb8 hw8 HD7 HC7 HX7 HY7 HR77 HR87 HB7
          go_wp2_with fail
          refine (Same_any _ _ 256 256 w8.heap.size 256 256 w8.heap.size _ _ w8 HX8.out HWL.out (by decide) HR78.out HWL.out (by decide)).mono ?_
          rintro e w9 hq
          obtain ⟨rfl, hw9⟩ := below_all hq
          rw [decide_eq_true (show wantD rs keep k = wantD rs keep k from rfl)]
          have HB9 : Hid (Below w.heap.size w w9) := Lib.hid (HB8.out.trans (hw9.mono HB8.out.size))
          have HD9 := Lib.hid (HD8.out.below hw9)
          have HC9 := Lib.hid (HC8.out.below hw9)
          have HY9 := Lib.hid ((HY8.out.below hw9).more hw9.size)
          have HZ9 := Lib.hid ((HZ8.out.below hw9).more hw9.size)
          have HR89 := Lib.hid ((HR88.out.below hw9).more hw9.size)
          clear hq hw9 HB8 HD8 HC8 HX8 HY8 HZ8 HR78 HR88
          go_wp2_with fail
          refine (Same_any _ _ 256 256 w9.heap.size 256 256 w9.heap.size _ _ w9 HY9.out HLL.out (by decide) HR89.out HLL.out (by decide)).mono ?_
          rintro e w10 hq
          obtain ⟨rfl, hw10⟩ := below_all hq
          rw [decide_eq_true (show lastD rs k = lastD rs k from rfl)]
          have HB10 : Hid (Below w.heap.size w w10) := Lib.hid (HB9.out.trans (hw10.mono HB9.out.size))
          have HD10 := Lib.hid (HD9.out.below hw10)
          have HC10 := Lib.hid (HC9.out.below hw10)
          have HZ10 := Lib.hid ((HZ9.out.below hw10).more hw10.size)
          have HR810 := Lib.hid ((HR89.out.below hw10).more hw10.size)
          clear hq hw10 HB9 HD9 HC9 HY9 HZ9 HR89
          go_wp2_with fail
          refine (Same_any _ _ 256 256 w10.heap.size 256 256 w10.heap.size _ _ w10 HZ10.out HLL.out (by decide) HR810.out HLL.out (by decide)).mono ?_
          rintro e w11 hq
          obtain ⟨rfl, hw11⟩ := below_all hq
          rw [decide_eq_true (show lastD rs k = lastD rs k from rfl)]
          have HB11 : Hid (Below w.heap.size w w11) := Lib.hid (HB10.out.trans (hw11.mono HB10.out.size))
          have HD11 := Lib.hid (HD10.out.below hw11)
          have HC11 := Lib.hid (HC10.out.below hw11)
          clear hq hw11 HB10 HD10 HC10 HZ10 HR810
          go_wp2_with fail
          refine (Clean_dr HC11.out 0 (by show 0 < 2; decide)).mono ?_
          rintro e w12 ⟨rfl, rfl⟩
          rw [show decide (now [zeros, wantD rs keep k] [] 0 = zeros) = true from decide_eq_true rfl]
          go_wp2_with fail
          refine (Dirty_dr HD11.out).mono ?_
          rintro e w13 ⟨rfl, rfl⟩
          go_wp2
          go_ret
          exact ⟨rfl, HB11.out⟩
      · have i1 : ¬ (k : Int) < (rs.length : Int) := by omega
        have HW : Hid (app [zeros, zeros] (wsOf rs k) = [zeros, lastD rs k]) := Lib.hid (app_ws rs k (by omega))
        have HF : Hid (fallOf [zeros, zeros] (wsOf rs k) keep (-1) = [zeros, wantD rs keep k]) := Lib.hid (fall_ws rs keep k (by omega))
        have HD3 := Lib.hid hd3
        have HR7 := Lib.hid hr7
        have HR8 := Lib.hid hr8
        have HB3 := Lib.hid hb3
        have HK := Lib.hid hK
        have HWL : Hid ((wantD rs keep k).length = 256) := Lib.hid (wantD_len rs keep k)
        have HLL : Hid ((lastD rs k).length = 256) := Lib.hid (lastD_len rs k)
        clear hd3 hr7 hr8 hb3 hK hR hI
        go_wp2_with fail
        refine (Fall_dr HD3.out c1 w.heap.size keep (HK.out.below HB3.out) HB3.out.size rfl (by unfold maxLen; omega) (-1)).mono ?_
        rintro e w4 ⟨d4, o4, rfl, hd4, hw4⟩
        rw [HF.out] at hd4
        have HD4 := Lib.hid (HD3.out.below hw4)
        have HC4 := Lib.hid hd4
        have HR74 := Lib.hid (HR7.out.below hw4)
        have HR84 := Lib.hid (HR8.out.below hw4)
        have HB4 : Hid (Below w.heap.size w w4) := Lib.hid (HB3.out.trans (hw4.mono HB3.out.size))
        have HOL : Hid (∀ i, ok i → i < wr.heap.size) := Lib.hid HD3.out.lt
        have HSZ : Hid (wr.heap.size ≤ w4.heap.size) := Lib.hid hw4.size
        clear hd4 hw4 HD3 HR7 HR8 HB3
        go_wp2_with fail
        refine (Read_dr HC4.out 1 (by show 1 < 2; decide)).mono ?_
        rintro e w5 ⟨rfl, hb5, hw5⟩
        rw [show now [zeros, wantD rs keep k] [] 1 = wantD rs keep k from rfl] at hb5
        have HX5 : Hid (RdK ok w5 (some ⟨w4.heap.size, 0, none⟩) (wantD rs keep k)) := Lib.hid (RdK.of_new (B := w4.heap.size) (blk_rd hb5 hb5.lt) (fun b q e => by injection e with e; injection e with e _ _; omega) (fun i hi => by have := HOL.out i hi; have := HSZ.out; omega))
        have HD5 := Lib.hid (HD4.out.below hw5)
        have HC5 := Lib.hid (HC4.out.below hw5)
        have HR75 := Lib.hid (HR74.out.below hw5)
        have HR85 := Lib.hid (HR84.out.below hw5)
        have HB5 : Hid (Below w.heap.size w w5) := Lib.hid (HB4.out.trans (hw5.mono HB4.out.size))
        have HSZ5 : Hid (wr.heap.size ≤ w5.heap.size) := Lib.hid (Nat.le_trans HSZ.out hw5.size)
        obtain ⟨x5, hx5⟩ : ∃ x, x = w4.heap.size := ⟨_, rfl⟩
        rw [← hx5] at HX5 ⊢
        clear hb5 hw5 HD4 HC4 HR74 HR84 HB4 hx5 HSZ
        go_wp2_with fail
        refine (Read_dr HD5.out 1 (by show 1 < 2; decide)).mono ?_
        rintro e w6 ⟨rfl, hb6, hw6⟩
        have hn6 : now [zeros, zeros] (wsOf rs k) 1 = lastD rs k := by unfold now; rw [HW.out]; rfl
        rw [hn6] at hb6
        have HY6 : Hid (RdK ok w6 (some ⟨w5.heap.size, 0, none⟩) (lastD rs k)) := Lib.hid (RdK.of_new (B := w5.heap.size) (blk_rd hb6 hb6.lt) (fun b q e => by injection e with e; injection e with e _ _; omega) (fun i hi => by have := HOL.out i hi; have := HSZ5.out; omega))
        have HD6 := Lib.hid (HD5.out.below hw6)
        have HC6 := Lib.hid (HC5.out.below hw6)
        have HX6 := Lib.hid (HX5.out.below hw6)
        have HR76 := Lib.hid (HR75.out.below hw6)
        have HR86 := Lib.hid (HR85.out.below hw6)
        have HB6 : Hid (Below w.heap.size w w6) := Lib.hid (HB5.out.trans (hw6.mono HB5.out.size))
        obtain ⟨y6, hy6⟩ : ∃ x, x = w5.heap.size := ⟨_, rfl⟩
        rw [← hy6] at HY6 ⊢
        have HGE : Hid (∀ i, o4 i → wr.heap.size ≤ i) := Lib.hid HC6.out.ge
        clear hb6 hw6 hn6 HD5 HC5 HR75 HR85 HB5 HX5 hy6 HSZ5
        go_wp2_with fail
        refine (Flush_dr HD6.out (by decide) (by decide)).mono ?_
        rintro e w7 ⟨rfl, o7, hd7, hk7, ho7⟩
        rw [HW.out] at hd7
        have HD7 : Hid (Dr w7 w1.heap.size d o7 [zeros, lastD rs k] [] (-1)) := Lib.hid hd7
        have HC7 := Lib.hid (HC6.out.keep hk7 (fun i hi e => by have := HOL.out i e; have := HGE.out i hi; omega))
        have HX7 := Lib.hid (HX6.out.kept hk7 ho7)
        have HY7 := Lib.hid (HY6.out.kept hk7 ho7)
        have HR77 := Lib.hid (HR76.out.kept hk7 ho7)
        have HR87 := Lib.hid (HR86.out.kept hk7 ho7)
        have HB7 : Hid (Below w.heap.size w w7) := Lib.hid (HB6.out.trans (hk7.below (B := w.heap.size) HB6.out.size (fun i hi e => absurd (HD6.out.ge i e) (by have := HS1.out; omega))))
        clear hd7 hk7 ho7 HD6 HC6 HX6 HY6 HR76 HR86 HB6
        go_wp2_with fail
        refine (Read_dr HD7.out 1 (by show 1 < 2; decide)).mono ?_
        rintro e w8 ⟨rfl, hb8, hw8⟩
        rw [show now [zeros, lastD rs k] [] 1 = lastD rs k from rfl] at hb8
        have HZ8 := Lib.hid (blk_rd hb8 hb8.lt)
        have HD8 := Lib.hid (HD7.out.below hw8)
        have HC8 := Lib.hid (HC7.out.below hw8)
        have HX8 := Lib.hid (HX7.out.below hw8).rd
        have HY8 := Lib.hid (HY7.out.below hw8).rd
        have HR78 := Lib.hid (HR77.out.below hw8).rd
        have HR88 := Lib.hid (HR87.out.below hw8).rd
        have HB8 : Hid (Below w.heap.size w w8) := Lib.hid (HB7.out.trans (hw8.mono HB7.out.size))
        clear hb8 hw8 HD7 HC7 HX7 HY7 HR77 HR87 HB7
        go_wp2_with fail
        refine (Same_any _ _ 256 256 w8.heap.size 256 256 w8.heap.size _ _ w8 HX8.out HWL.out (by decide) HR78.out HWL.out (by decide)).mono ?_
        rintro e w9 hq
        obtain ⟨rfl, hw9⟩ := below_all hq
        rw [decide_eq_true (show wantD rs keep k = wantD rs keep k from rfl)]
        have HB9 : Hid (Below w.heap.size w w9) := Lib.hid (HB8.out.trans (hw9.mono HB8.out.size))
        have HD9 := Lib.hid (HD8.out.below hw9)
        have HC9 := Lib.hid (HC8.out.below hw9)
        have HY9 := Lib.hid ((HY8.out.below hw9).more hw9.size)
        have HZ9 := Lib.hid ((HZ8.out.below hw9).more hw9.size)
        have HR89 := Lib.hid ((HR88.out.below hw9).more hw9.size)
        clear hq hw9 HB8 HD8 HC8 HX8 HY8 HZ8 HR78 HR88
        go_wp2_with fail
        refine (Same_any _ _ 256 256 w9.heap.size 256 256 w9.heap.size _ _ w9 HY9.out HLL.out (by decide) HR89.out HLL.out (by decide)).mono ?_
        rintro e w10 hq
        obtain ⟨rfl, hw10⟩ := below_all hq
        rw [decide_eq_true (show lastD rs k = lastD rs k from rfl)]
        have HB10 : Hid (Below w.heap.size w w10) := Lib.hid (HB9.out.trans (hw10.mono HB9.out.size))
        have HD10 := Lib.hid (HD9.out.below hw10)
        have HC10 := Lib.hid (HC9.out.below hw10)
        have HZ10 := Lib.hid ((HZ9.out.below hw10).more hw10.size)
        have HR810 := Lib.hid ((HR89.out.below hw10).more hw10.size)
        clear hq hw10 HB9 HD9 HC9 HY9 HZ9 HR89
        go_wp2_with fail
        refine (Same_any _ _ 256 256 w10.heap.size 256 256 w10.heap.size _ _ w10 HZ10.out HLL.out (by decide) HR810.out HLL.out (by decide)).mono ?_
        rintro e w11 hq
        obtain ⟨rfl, hw11⟩ := below_all hq
        rw [decide_eq_true (show lastD rs k = lastD rs k from rfl)]
        have HB11 : Hid (Below w.heap.size w w11) := Lib.hid (HB10.out.trans (hw11.mono HB10.out.size))
        have HD11 := Lib.hid (HD10.out.below hw11)
        have HC11 := Lib.hid (HC10.out.below hw11)
        clear hq hw11 HB10 HD10 HC10 HZ10 HR810
        go_wp2_with fail
        refine (Clean_dr HC11.out 0 (by show 0 < 2; decide)).mono ?_
        rintro e w12 ⟨rfl, rfl⟩
        rw [show decide (now [zeros, wantD rs keep k] [] 0 = zeros) = true from decide_eq_true rfl]
        go_wp2_with fail
        refine (Dirty_dr HD11.out).mono ?_
        rintro e w13 ⟨rfl, rfl⟩
        go_wp2
        go_ret
        exact ⟨rfl, HB11.out⟩
end
end Go.Proofs.Ytoiiemjaecfnhaa
