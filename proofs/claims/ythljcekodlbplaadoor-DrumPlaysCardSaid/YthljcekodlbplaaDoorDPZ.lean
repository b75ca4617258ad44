/-
  DrumPlays' own walk. Condition: errors.errorType is laid, the acts are there.
-/
import Derived.Test.YthljcekodlbplaaDoorDPY
import Derived.Test.YthljcekodlbplaaDoorDrumO
import Derived.Test.YthljcekodlbplaaDoorDrumY
import Derived.Test.YthljcekodlbplaaDoorCodeC
import Derived.Test.YthljcekodlbplaaDoorActs
namespace Go.Proofs.YthljcekodlbplaaDoor
open Go.ChangeShapes Go.WideShapes Go.ChangeAt Go.RowKit

theorem likeD {w : World} {base d x bx : Nat} {od oo : Nat → Prop} {fl : List (List UInt8)} {ws : List (Nat × List UInt8)} {left lr : Int} {AF AD : Option Addr} {cF cD : Nat} {gs : List Seg} {ds : List (Int × Seg)} (h1 : Dr w base d od fl ws left) (h2 : XD w bx x oo AF cF gs AD cD ds lr) (h4 : RelD fl ws (gs.map Seg.l) (dsl ds)) (hg : gs.length ≤ 1000) (hd : ds.length ≤ 1000) :
    Calls Tryd.prog 11 #[.pointer (some ⟨d, 0, none⟩), .pointer (some ⟨x, 0, none⟩)] w fun e w' => e = .returned (.bool true) ∧ Below w.heap.size w w' := by
  have hlen : fl.length = gs.length := by have := h4.len; rwa [List.length_map] at this
  refine like_any h1 h2.head h2.rsF.1 h2.rsD.1 rfl (by omega) (by omega) hlen ?_ ?_ ?_
  · rw [h4.dirty]
    show (waR (dsl ds)).length = _
    unfold dsl
    rw [← waS_map, List.length_map]
  · intro i hi
    rw [h4.now (by omega), rdS_l]
    unfold rdR
    congr 1
    rw [List.getD_eq_getElem?_getD, List.getElem?_map, List.getElem?_eq_getElem hi]
    rfl
  · intro i hi
    exact (rdS_in i (fun s => RdK oo w s.at_ s.l) ds gs[i] (h2.segs _ (List.getElem_mem hi)) (fun d hd _ => h2.deeds d hd)).rd
theorem likeP {B0 n d x k : Nat} {w : World} (h : InvP B0 n w d x k) (hn : n ≤ 1000) (hk : k ≤ 100) :
    Calls Tryd.prog 11 #[.pointer (some ⟨d, 0, none⟩), .pointer (some ⟨x, 0, none⟩)] w fun e w' => e = .returned (.bool true) ∧ Below w.heap.size w w' := by
  obtain ⟨base, od, fl, ws, left, bx, AF, cF, gs, AD, cD, ds, h1, h2, h3, h4, h5, h6, h7, h8, -⟩ := h
  exact likeD h1 h2 h4 (by omega) (by omega)
/-- The copy is alike too. -/
theorem copyP {B0 n d x k : Nat} {w : World} (h : InvP B0 n w d x k) (hn : n ≤ 1000) (hn0 : 0 < n) (hk : k ≤ 100) :
    Calls Tryd.prog 12 #[.pointer (some ⟨d, 0, none⟩)] w fun e w' => ∃ d', e = .returned (.pointer (some ⟨d', 0, none⟩)) ∧ Below w.heap.size w w' ∧ ∀ w2, Below w'.heap.size w' w2 → Calls Tryd.prog 11 #[.pointer (some ⟨d', 0, none⟩), .pointer (some ⟨x, 0, none⟩)] w2 fun e w' => e = .returned (.bool true) ∧ Below w2.heap.size w2 w' := by
  obtain ⟨base, od, fl, ws, left, bx, AF, cF, gs, AD, cD, ds, h1, h2, h3, h4, h5, h6, h7, h8, -⟩ := h
  have hlen : fl.length = gs.length := by have := h4.len; rwa [List.length_map] at this
  refine (Copy_dr h1 (by omega)).mono ?_
  rintro e w' ⟨d', o', rfl, g1, g2⟩
  exact ⟨d', rfl, g2, fun w2 hb => likeD (g1.below hb) ((h2.below g2).below hb) h4 (by omega) (by omega)⟩
theorem Code_errv (c : Int) (w : World) (hg : Laid w) : Calls Tryd.prog 10 #[errv c] w fun e w' => e = .returned (.int .i64 c) ∧ Below w.heap.size w w' := by
  unfold errv
  by_cases h : c = 0
  · rw [if_pos h, h]
    refine (Code_nil w).mono ?_
    rintro e w' ⟨rfl, rfl⟩
    exact ⟨rfl, Below.refl _ _⟩
  · rw [if_neg h]
    exact Code_errno c w hg
theorem startP {w w2 w3 : World} {d x n : Nat} {od : Nat → Prop} {AF : Option Addr} {cF : Nat} {gs : List Seg} (h1 : Dr w2 w.heap.size d od (List.replicate n zeros) [] (-1)) (hb : Below w.heap.size w w2) (h2 : XD w3 w2.heap.size x (nw w2.heap.size (ownD x (.slice AF gs.length cF) (.slice none 0 0))) AF cF gs none 0 [] (-1)) (hb2 : Below w2.heap.size w2 w3) (hl : gs.length = n) (hz : ∀ s ∈ gs, s.l = zeros) : InvP w.heap.size n w3 d x 0 := by
  have hmap : gs.map Seg.l = List.replicate n zeros := by
    rw [List.eq_replicate_iff]
    refine ⟨by rw [List.length_map]; exact hl, fun b hb => ?_⟩
    obtain ⟨s, hs, rfl⟩ := List.mem_map.1 hb
    exact hz s hs
  have hlt := h1.lt
  refine ⟨w.heap.size, od, List.replicate n zeros, [], -1, w2.heap.size, AF, cF, gs, none, 0, [], h1.below hb2, h2.weaken (fun i hi e => ?_), fun i e e' => ?_, ?_, ⟨by decide, by decide⟩, (fun d hd => by cases hd), ⟨Nat.le_refl _, Nat.le_refl _⟩, hl, h1.ge, fun i e => ?_, fun s hs => ?_⟩
  · rcases e with e | e
    · exact .inl (hlt i e)
    · exact .inr e
  · have := hlt i e
    have := h2.gee i e'
    omega
  · rw [hmap]
    exact RelD.self _ []
  · have := h2.gee i e
    have := hb.size
    omega
  · rw [hz s hs]
    exact zlen
set_option maxRecDepth 100000 in
set_option maxHeartbeats 4000000 in
theorem DPlays_any {w : World} {A : Option Addr} {n c : Nat} {l : List Actn} (N : Nat) (hN : N < 256) (hlw : Laid w) (hR : Rs actT w w.heap.size A l) (hI : ∀ u ∈ l, u.In w) (hn : l.length = n) (hm : n ≤ maxLen) :
    Calls Tryd.prog 3 #[.int .u8 (N : Int), .slice A n c] w fun e w' => e = .returned (.bool true) ∧ Below w.heap.size w w' := by
  obtain ⟨m, hmm⟩ : ∃ m, N % 9 = m := ⟨_, rfl⟩
  have hm8 : m ≤ 8 := by omega
  have hmod : ((N : Int)).tmod 9 = (m : Int) := by rw [Int.tmod_eq_emod_of_nonneg (by omega)]; omega
  unfold maxLen at hm
  have HR := Lib.hid hR
  have HI9 := Lib.hid hI
  have HLW := Lib.hid hlw
  have HNN := Lib.hid (And.intro hn hm)
  clear hR hI hlw hmm
  go_enter Tryd.func3, Tryd.ntmps3
  go_wp2_with fail
  refine (awake1_any w).mono ?_
  rintro e w1 ⟨rfl, hb1⟩
  have HB1 := Lib.hid hb1
  clear hb1
  go_wp2_with fail
  have hsz : (1 : Int) + (m : Int) = ((m + 1 : Nat) : Int) := by omega
  rw [hsz]
  refine (New_dr (m + 1) (by omega) (by omega) w1).mono ?_
  rintro e w2 ⟨d0, od, rfl, hd2, hb2⟩
  have HD2 := Lib.hid hd2
  have HB2 := Lib.hid hb2
  clear hd2 hb2
  go_wp2_with fail
  rw [show (m : Int) + 1 = ((m + 1 : Nat) : Int) by omega]
  refine (RNew_any (m + 1) (by omega) w2).mono ?_
  rintro e w3 ⟨x0, AF0, cF0, gs0, rfl, hx3, hl3, hz3, hb3⟩
  have HI3 := Lib.hid (startP HD2.out HB2.out hx3 hb3 hl3 hz3)
  have HB3 := Lib.hid (HB2.out.trans (hb3.mono HB2.out.size))
  clear hx3 hl3 hz3 hb3 HD2 HB2 hsz
  go_wp2_with fail
  go_loopw [6, 8, 9, 10, 11, 12, 30] (fun dv xv _ _ _ _ j wr => ∃ (k d x : Nat), k ≤ l.length ∧ k ≤ 30 ∧ j = .int .i64 (k : Int) ∧ dv = .pointer (some ⟨d, 0, none⟩) ∧ xv = .pointer (some ⟨x, 0, none⟩) ∧ Hid (InvP w1.heap.size (m + 1) wr d x k) ∧ Hid (Below w1.heap.size w1 wr)) (fun _ _ _ _ _ _ j _ => l.length - (intOf j).toNat)
  case atStart => exact ⟨0, d0, x0, Nat.zero_le _, by omega, rfl, rfl, rfl, HI3, HB3⟩
  case round =>
    obtain ⟨k, d, x, hk, hk30, rfl, rfl, rfl, HI, HB⟩ := hrel
    have hln : l.length = n := HNN.out.1
    have final : ∀ wq, Below wr.heap.size wr wq → Below w.heap.size w wq := fun wq hq => HB1.out.trans ((HB.out.trans (hq.mono HB.out.size)).mono HB1.out.size)
    have HFB := Lib.hid final
    clear final
    by_cases hlt : k < l.length
    · obtain ⟨bA, oA, rfl, hbA, hcA⟩ := HR.out.at_ hlt
      have hcell : ∀ q, wr.cell? ⟨bA, q, none⟩ = w.cell? ⟨bA, q, none⟩ := fun q => (HB.out.cell (p := ⟨bA, q, none⟩) (by have := HB1.out.size; show bA < w1.heap.size; omega)).trans (HB1.out.cell (p := ⟨bA, q, none⟩) hbA)
      obtain ⟨u, hu⟩ : ∃ u, l[k] = u := ⟨_, rfl⟩
      have hul : u ∈ l := by rw [← hu]; exact List.getElem_mem hlt
      have hui := HI9.out u hul
      rw [hu] at hcA
      obtain ⟨a, p, AP, cP, P, AK, cK, K, N9, kk⟩ := u
      have e0 := (hcell (oA + (k * 6 + 0))).trans (hcA 0 _ rfl)
      have e1 := (hcell (oA + (k * 6 + 1))).trans (hcA 1 _ rfl)
      have e2 := (hcell (oA + (k * 6 + 2))).trans (hcA 2 _ rfl)
      have e3 := (hcell (oA + (k * 6 + 3))).trans (hcA 3 _ rfl)
      have e4 := (hcell (oA + (k * 6 + 4))).trans (hcA 4 _ rfl)
      have e5 := (hcell (oA + (k * 6 + 5))).trans (hcA 5 _ rfl)
      rw [Nat.add_zero] at e0
      rw [← Nat.add_assoc] at e1 e2 e3 e4 e5
      have HUI := Lib.hid hui
      clear hcA hcell hbA hu hul hui
      by_cases h30 : k = 30
      · have i1 : (30 : Int) ≤ (k : Int) := by omega
        have hkb : k ≤ 100 := by omega
        have hk30b : k < 40 := by omega
        clear h30
        have HI := Lib.hid (HI.out.below ((Below.refl _ wr).alloc (Nat.le_refl _) (.cells #[.int .u8 (a : Int), .int .i64 p, .slice AP P.length cP, .slice AK K.length cK, .int .i64 N9, .int .u32 (kk : Int)] 35)))
        have HFB := Lib.hid (fun (wq : World) (hq : Below (wr.alloc (.cells #[.int .u8 (a : Int), .int .i64 p, .slice AP P.length cP, .slice AK K.length cK, .int .i64 N9, .int .u32 (kk : Int)] 35)).heap.size (wr.alloc (.cells #[.int .u8 (a : Int), .int .i64 p, .slice AP P.length cP, .slice AK K.length cK, .int .i64 N9, .int .u32 (kk : Int)] 35)) wq) => HFB.out wq (((Below.refl _ wr).alloc (Nat.le_refl _) _).trans (hq.mono (by simp))))
        go_wp2_with fail
        refine (copyP HI.out (by omega) (by omega) (by omega)).mono ?_
        rintro e w5 ⟨d5, rfl, hb5, hc5⟩
        have HC5 := Lib.hid hc5
        have HB5 := Lib.hid hb5
        clear hb5 hc5
        go_wp2_with fail
        refine (HC5.out w5 (Below.refl _ _)).mono ?_
        rintro e w6 ⟨rfl, hb6⟩
        have HB6 := Lib.hid (HFB.out w6 (HB5.out.trans (hb6.mono HB5.out.size)))
        clear hb6 HC5 HB5
        go_wp2_with fail
        go_ret
        exact ⟨rfl, HB6.out⟩
      · have i1 : ¬ (30 : Int) ≤ (k : Int) := by omega
        have hkb : k < 30 := by omega
        clear h30
        go_wp2_with fail
        obtain ⟨W1, hW1⟩ : ∃ W, wr.alloc (.cells #[.int .u8 (a : Int), .int .i64 p, .slice AP P.length cP, .slice AK K.length cK, .int .i64 N9, .int .u32 (kk : Int)] 35) = W := ⟨_, rfl⟩
        have hbox := Blk.new wr 35 #[.int .u8 (a : Int), .int .i64 p, .slice AP P.length cP, .slice AK K.length cK, .int .i64 N9, .int .u32 (kk : Int)]
        have hbw := (Below.refl _ wr).alloc (Nat.le_refl _) (.cells #[.int .u8 (a : Int), .int .i64 p, .slice AP P.length cP, .slice AK K.length cK, .int .i64 N9, .int .u32 (kk : Int)] 35)
        obtain ⟨q, hq⟩ : ∃ q, wr.heap.size = q := ⟨_, rfl⟩
        rw [hW1] at hbox hbw ⊢
        rw [hq] at hbox ⊢
        have HQ := Lib.hid hq
        have hww : Below w.heap.size w W1 := HFB.out W1 hbw
        obtain ⟨hP1, hP2, hP3⟩ := HUI.out.P
        obtain ⟨hK1, hK2, hK3⟩ := HUI.out.K
        have hPm : P.length ≤ 9223372036854775807 := by unfold maxLen at hP2; exact Nat.le_trans hP1 hP2
        refine (CutW_any AP P.length cP w.heap.size 260 P W1 (hP3.below hww) rfl hPm (by decide) hww.size).mono ?_
        rintro e w2 ⟨v, rfl, ho, hb2⟩
        obtain ⟨P2, hp2⟩ : ∃ L, P.take 260 = L := ⟨_, rfl⟩
        have hp2l : P2.length ≤ 260 := by rw [← hp2, List.length_take]; omega
        rw [hp2] at ho
        obtain ⟨_, A2, c2, rfl, _, _, hrd2⟩ := own_form ho
        have hbk : ∀ b q', A2 = some ⟨b, q', none⟩ → W1.heap.size ≤ b := fun b q' e => (World.ownsRow.lt ho b (by unfold Value.ownBlock; rw [e])).1
        have hbox2 := hbox.below hb2 hbox.lt
        have hbox3 := hbox2.set_ 2 (.slice A2 P2.length c2)
        simp only [List.setIfInBounds_toArray, List.set_cons_zero, List.set_cons_succ] at hbox3
        have f2 := hbox2.frozen 2
        have g2 := hbox2.cell 2
        have s0 := hbox3.cell 0
        have s1 := hbox3.cell 1
        have s2 := hbox3.cell 2
        have s3 := hbox3.cell 3
        have s4 := hbox3.cell 4
        have s5 := hbox3.cell 5
        simp at g2 s0 s1 s2 s3 s4 s5
        have hbw2 : Below wr.heap.size wr w2 := hbw.trans (hb2.mono hbw.size)
        have hbw3 : Below wr.heap.size wr (w2.setCell ⟨q, 2, none⟩ (.slice A2 P2.length c2)) := hbw2.setCell (by rw [hq]; exact Nat.le_refl _) _
        have hrd3 : Rd (w2.setCell ⟨q, 2, none⟩ (.slice A2 P2.length c2)) (w2.setCell ⟨q, 2, none⟩ (.slice A2 P2.length c2)).heap.size A2 P2 := fun hn => by
          obtain ⟨b, q', e, hb, hc⟩ := hrd2 hn
          have := hbk b q' e
          have := hbox.lt
          exact ⟨b, q', e, by simpa [World.setCell] using hb, fun j u hu => (World.cell?_setCell_other w2 _ _ _ (fun e => by injection e with e _ _; omega)).trans (hc j u hu)⟩
        have hpm := playM (y := ⟨a, p, A2, c2, P2, AK, cK, K, N9, kk⟩) HI.out hbw3 (by omega) HB.out.size HUI.out.a HUI.out.k hrd3 (fun b q' e => Nat.le_trans hbw.size (hbk b q' e)) ((hK3.below (HFB.out _ hbw3)).more HB1.out.size) (by unfold maxLen at hK2 ⊢; exact Nat.le_trans hK1 hK2)
        unfold actV at hpm
        dsimp only at hpm
        have HPM := Lib.hid hpm
        clear hpm
        have HBX3 := Lib.hid hbox3
        have HBW3 := Lib.hid hbw3
        have HNQ : Hid (∀ i, i = q → wr.heap.size ≤ i) := Lib.hid (fun i e => by rw [e, hq]; exact Nat.le_refl _)
        clear hp2 hbox hbox2 hbox3 hbw hbw2 hbw3 hb2 ho hrd2 hrd3 hbk hww hW1 hq hP1 hP2 hP3 hPm
        go_wp2_with fail
        refine HPM.out.mono ?_
        rintro e w4 ⟨d4, c4, rfl, hmid, hb4, hkeep⟩
        have hbox4 : Blk w4 q 35 _ := (hkeep q (HNQ.out q rfl) HBX3.out.lt).trans HBX3.out
        have t0 := hbox4.cell 0
        have t1 := hbox4.cell 1
        have t2 := hbox4.cell 2
        have t3 := hbox4.cell 3
        have t4 := hbox4.cell 4
        have t5 := hbox4.cell 5
        simp at t0 t1 t2 t3 t4 t5
        have hB4 : Below w1.heap.size w1 w4 := (HB.out.trans (HBW3.out.mono HB.out.size)).trans hb4
        have hpx := playX hmid (by omega) (by omega) hB4.size HUI.out.k HUI.out.N (by show P2.length ≤ 1000; omega) ((hK3.below (HB1.out.trans (hB4.mono HB1.out.size))).more HB1.out.size) (by unfold maxLen at hK2 ⊢; exact Nat.le_trans hK1 hK2)
        unfold actV at hpx
        dsimp only at hpx
        have HPX := Lib.hid hpx
        clear hpx
        have HB4 := Lib.hid hB4
        clear hmid hb4 hkeep hbox4 hB4 s0 s1 s2 s3 s4 s5 HPM HBX3 f2 g2
        go_wp2_with fail
        refine HPX.out.mono ?_
        rintro e w5 ⟨x5, rfl, hi5, hb5⟩
        have HB5 := Lib.hid (HB4.out.trans hb5)
        have HI5 := Lib.hid hi5
        clear hi5 hb5 HPX HB4 t0 t1 t2 t3 t4 t5
        go_wp2_with fail
        refine (Code_errv c4 w5 (HLW.out.below ((HB1.out.trans (HB5.out.mono HB1.out.size))))).mono ?_
        rintro e w6 ⟨rfl, hb6⟩
        have HB6 := Lib.hid (HB5.out.trans (hb6.mono HB5.out.size))
        have HI6 := Lib.hid (HI5.out.below hb6)
        clear hb6 HB5 HI5
        go_wp2_with fail
        refine (likeP HI6.out (by omega) (by omega)).mono ?_
        rintro e w7 ⟨rfl, hb7⟩
        have HB7 := Lib.hid (HB6.out.trans (hb7.mono HB6.out.size))
        have HI7 := Lib.hid (HI6.out.below hb7)
        clear hb7 HB6 HI6
        go_wp2_with fail
        go_roundw
        case rel => exact ⟨k + 1, d4, x5, by omega, by omega, by go_num, rfl, rfl, HI7, HB7⟩
        case measure => simp [intOf]; omega
    · obtain rfl : k = l.length := by omega
      go_wp2_with fail
      refine (copyP HI.out (by omega) (by omega) (by omega)).mono ?_
      rintro e w5 ⟨d5, rfl, hb5, hc5⟩
      have HC5 := Lib.hid hc5
      have HB5 := Lib.hid hb5
      clear hb5 hc5
      go_wp2_with fail
      refine (HC5.out w5 (Below.refl _ _)).mono ?_
      rintro e w6 ⟨rfl, hb6⟩
      have HB6 := Lib.hid (HFB.out w6 (HB5.out.trans (hb6.mono HB5.out.size)))
      clear hb6 HC5 HB5
      go_wp2_with fail
      go_ret
      exact ⟨rfl, HB6.out⟩
end Go.Proofs.YthljcekodlbplaaDoor
