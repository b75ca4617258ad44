/-
  WideSums: the walk. Conditions: the words are there; errors.errorType is laid.
-/
import Derived.Test.YtkgadbnfaoijaabDoorWideB
import Derived.Test.YtkgadbnfaoijaabDoorCodeC
import Derived.Test.YtkgadbnfaoijaabDoorWords
import Derived.Deep.RegionWith
import Derived.Deep.RegionHeld3
import Derived.BigQuiet
import Derived.Deep.CutBlock
namespace Go.Proofs.YtkgadbnfaoijaabDoor
open Go.RowKit Go.BigFrame

/-- One of the two sums: what its error and its block say of S. -/
def Side (x : Value) (w : World) (g S : Nat) : Prop :=
  (x = .nilIface ∧ S < 340282366920938463463374607431768211456 ∧ ∃ h l : Nat, Blk w g 25 #[.int .u64 (h : Int), .int .u64 (l : Int)] ∧ S = h * 18446744073709551616 + l ∧ l < 18446744073709551616) ∨
    (x = .iface 38 (.int .i64 12) ∧ 340282366920938463463374607431768211456 ≤ S)

theorem Side.nil_ {x : Value} {w : World} {g S : Nat} (h : Side x w g S) (hx : x = .nilIface) : S < 340282366920938463463374607431768211456 ∧ ∃ h l : Nat, Blk w g 25 #[.int .u64 (h : Int), .int .u64 (l : Int)] ∧ S = h * 18446744073709551616 + l ∧ l < 18446744073709551616 := by
  rcases h with ⟨_, h⟩ | ⟨h, _⟩
  · exact h
  · rw [hx] at h; cases h
theorem Side.keep {x : Value} {w w' : World} {g S B : Nat} (h : Side x w g S) (hb : Below B w w') (hg : g < B) : Side x w' g S := by
  rcases h with ⟨e, hS, a, b, hK, hv⟩ | h
  · exact Or.inl ⟨e, hS, a, b, hK.below hb hg, hv⟩
  · exact Or.inr h

theorem far_two {w : World} {b o G x y : Nat} {v u1 u2 : Value} (h : w.cell? ⟨b, o, none⟩ = some v) (hb : b < G) : ((w.setCell ⟨G, x, none⟩ u1).setCell ⟨G, y, none⟩ u2).cell? ⟨b, o, none⟩ = some v := by
  rw [World.cell?_setCell_far _ _ _ _ (by simp; omega), World.cell?_setCell_far _ _ _ _ (by simp; omega), h]
theorem Side.far {x : Value} {w : World} {g S G : Nat} (h : Side x w g S) (hg : g ≠ G) (o : Nat) (u : Value) : Side x (w.setCell ⟨G, o, none⟩ u) g S := by
  rcases h with ⟨e, hS, a, b, hK, hv⟩ | h
  · exact Or.inl ⟨e, hS, a, b, hK.far hg u, hv⟩
  · exact Or.inr h
theorem far_row {w : World} {B G : Nat} {A : Option Addr} {l : List Value} (h : Rv w B A l) (hB : B ≤ G) (o : Nat) (u : Value) : Rv (w.setCell ⟨G, o, none⟩ u) B A l :=
  h.keep fun p hp => World.cell?_setCell_far _ _ _ _ (by show G ≠ p.block; omega)
theorem Rv.cell_at {w : World} {B b o k : Nat} {l : List Value} (h : Rv w B (some ⟨b, o, none⟩) l) (hk : k < l.length) : b < B ∧ w.cell? ⟨b, o + k, none⟩ = some (l[k]'hk) := by
  obtain ⟨b', o', e, hb, hc⟩ := h.at_ hk
  injection e with e
  injection e with e1 e2
  subst e1 e2
  exact ⟨hb, hc⟩
theorem sum_le (l : List Nat) (h : ∀ u ∈ l, u < 18446744073709551616) : l.sum ≤ l.length * 18446744073709551615 := by
  induction l with
  | nil => simp
  | cons a l ih =>
    have := ih (fun u hu => h u (List.mem_cons_of_mem _ hu))
    have ha := h a (List.mem_cons_self ..)
    simp only [List.sum_cons, List.length_cons, Nat.add_mul]
    omega
theorem add_side (h lo u g : Nat) (hh : h < 18446744073709551616) (hlo : lo < 18446744073709551616) (hu : u < 18446744073709551616) :
    ∃ (v : Value) (h' lo' : Nat), (∀ W, Calls Tryd.prog 15 #[.agg #[.int .u64 (h : Int), .int .u64 (lo : Int)], .int .u64 (u : Int)] W (Ret (.tuple #[.agg #[.int .u64 (h' : Int), .int .u64 (lo' : Int)], v]) W)) ∧
      (∀ W, Blk W g 25 #[.int .u64 (h' : Int), .int .u64 (lo' : Int)] → Side v W g (h * 18446744073709551616 + lo + u)) := by
  by_cases hs : h * 18446744073709551616 + lo + u < 340282366920938463463374607431768211456
  · obtain ⟨S, hS⟩ : ∃ S, h * 18446744073709551616 + lo + u = S := ⟨_, rfl⟩
    rw [hS] at hs ⊢
    have h1 := fun W => Add_ok h lo u S hlo hu hS hs W
    obtain ⟨sh, sl, es, e1, e2⟩ := wof_ex S
    rw [es] at h1
    exact ⟨_, sh, sl, h1, fun W hK => Or.inl ⟨rfl, hs, sh, sl, hK, e1, e2⟩⟩
  · exact ⟨_, 0, 0, fun W => Add_over h lo u hh hlo hu (by omega) W, fun W _ => Or.inr ⟨rfl, by omega⟩⟩

set_option maxHeartbeats 4000000 in
theorem Sums_any (A : Option Addr) (n c hi : Nat) (l : List Nat) (w : World) (hw : Laid w) (hR : Rv w w.heap.size A (l.map enc64)) (hn : l.length = n) (hm : n ≤ 140737488355328) (hnc : n ≤ c) (hcm : c ≤ maxLen) (hA : A = none → c = 0)
    (hl : ∀ u ∈ l, u < 18446744073709551616) (hhi : hi < 18446744073709551616) :
    Calls Tryd.prog 6 #[.slice A n c, .int .u64 hi] w (Ret (.bool true) w) := by
  have HW := Lib.hid hw
  have HR := Lib.hid hR
  have HN := Lib.hid hn
  have HA := Lib.hid hA
  have HL := Lib.hid hl
  clear hw hR hn hA hl
  unfold maxLen at hcm
  obtain ⟨m, hmm⟩ : ∃ m, min n 20 = m := ⟨_, rfl⟩
  have hm20 : m ≤ 20 := by omega
  have hmn : m ≤ n := by omega
  have imin : min (n : Int) 20 = (m : Int) := by omega
  have HLm : Hid ((l.take m).length = m) := Lib.hid (by rw [List.length_take, HN.out]; omega)
  have HLb : Hid (∀ u ∈ l.take m, u < 18446744073709551616) := Lib.hid (fun u hu => HL.out u (List.mem_of_mem_take hu))
  clear hmm
  go_enter Tryd.func6, Tryd.ntmps6
  go_wp2_with fail
  refine (awake_any _).mono ?_
  rintro e w1 ⟨rfl, hb1⟩
  have HR1 : Hid (Rv (w1.alloc (.cells #[] 22)) w.heap.size A ((l.take m).map enc64)) := Lib.hid (by
    have h := ((HR.out.below hb1).below ((Below.refl w.heap.size w1).alloc hb1.size (.cells #[] 22))).take m
    rw [← List.map_take] at h
    exact h)
  have HO : Hid (OwnW (w1.alloc (.cells #[] 22)) w1.heap.size (.slice (some ⟨w1.heap.size, 0, none⟩) 0 0) 0 []) := Lib.hid (World.ownsRow_lit w1 #[] 0 (Nat.le_refl _) (by decide) (by simp))
  obtain ⟨A0, hA0⟩ : ∃ B : Option Addr, B = A := ⟨_, rfl⟩
  have HA0 := Lib.hid hA0
  rcases A with _ | ad
  · obtain rfl : c = 0 := HA.out rfl
    obtain rfl : n = 0 := by omega
    obtain rfl : m = 0 := by omega
    clear hA0
    go_wp2_with (with_reducible refine wpList_appendW (o := ⟨some 18, _, _, _, _, _⟩) rfl (.tmp 12) (.tmp 17) rfl w1.heap.size (.slice (some ⟨w1.heap.size, 0, none⟩) 0 0) 0 [] ?h1 HO.out w.heap.size none 0 0 (l.take 0) ?h2 HR1.out HLm.out ?h3 ?h4 ?_)
    case h1 => rfl
    case h2 => rfl
    case h3 => omega
    case h4 => simp
    intro v' w2 hown hg
    obtain ⟨hl2, A', c', rfl, hc1, hc2, hrd⟩ := own_formW hown
    have hbw : Below w.heap.size w w2 := ((Below.refl _ _).trans hb1).trans (((Below.refl w.heap.size w1).alloc hb1.size _).grown hg (by have := hb1.size; simp; omega) (fun k hk => by have h := (World.ownsRow.lt HO.out k hk).1; have := hb1.size; omega))
    have HBW := Lib.hid hbw
    have hLs := fun W => Less_any hi 0 hi 0 (by decide) (by decide) W
    rw [show decide (hi * 18446744073709551616 + 0 < hi * 18446744073709551616 + 0) = false from decide_eq_false (by omega)] at hLs
    unfold wv at hLs
    clear hown hg hrd hbw hl2 hb1 HO HR1 HL HN HR HA HA0 HLm HLb imin
    go_wp2_with fail
    go_rounds 1
    have hbE := (HBW.out.alloc HBW.out.size (.cells #[.int .u64 (hi : Int), .int .u64 0] 25)).alloc (Nat.le_trans HBW.out.size (by simp)) (.cells #[.int .u64 (hi : Int), .int .u64 0] 25)
    go_quiet (fail)
    go_wp2_with fail
    refine (hLs _).mono ?_
    rintro e w5 ⟨rfl, hb5⟩
    go_wp2_with fail
    go_ret
    exact ⟨rfl, (below_drewN hbE _).trans (hb5.mono (below_drewN hbE _).size)⟩
  · clear hA0
    go_wp2_with (with_reducible refine wpList_appendW (o := ⟨some 18, _, _, _, _, _⟩) rfl (.tmp 12) (.tmp 17) rfl w1.heap.size (.slice (some ⟨w1.heap.size, 0, none⟩) 0 0) 0 [] ?h1 HO.out w.heap.size (some ad) m c (l.take m) ?h2 HR1.out HLm.out ?h3 ?h4 ?_)
    case h1 => rfl
    case h2 => rfl
    case h3 => omega
    case h4 => simp
    intro v' w2 hown hg
    obtain ⟨hl2, A', c', rfl, hc1, hc2, hrd⟩ := own_formW hown
    have hbw : Below w.heap.size w w2 := ((Below.refl _ _).trans hb1).trans (((Below.refl w.heap.size w1).alloc hb1.size _).grown hg (by have := hb1.size; simp; omega) (fun k hk => by have h := (World.ownsRow.lt HO.out k hk).1; have := hb1.size; omega))
    have HRd := Lib.hid hrd
    have HBW := Lib.hid hbw
    clear hown hg hrd hbw hl2 hb1 HO HR1
    obtain ⟨l', hl'⟩ : ∃ l', l.take m = l' := ⟨_, rfl⟩
    rw [hl'] at HRd HLm HLb
    clear hl' HL HN HR HA HA0 imin hmn hm hnc hcm
    go_wp2_with fail
    obtain ⟨G, hG⟩ : ∃ G, w2.heap.size = G := ⟨_, rfl⟩
    rw [hG]
    obtain ⟨W0, hW0⟩ : ∃ W, (w2.alloc (.cells #[.int .u64 (hi : Int), .int .u64 0] 25)).alloc (.cells #[.int .u64 (hi : Int), .int .u64 0] 25) = W := ⟨_, rfl⟩
    have HS1 : Hid (Side .nilIface W0 G (hi * 18446744073709551616 + (l'.take 0).sum)) := Lib.hid (Or.inl ⟨rfl, by simp; omega, hi, 0, by rw [← hW0, ← hG]; exact (Blk.new w2 _ _).alloc _, by simp, by decide⟩)
    have HS2 : Hid (Side .nilIface W0 (G + 1) (hi * 18446744073709551616 + (l'.reverse.take 0).sum)) := Lib.hid (Or.inl ⟨rfl, by simp; omega, hi, 0, by
      have h := Blk.new (w2.alloc (.cells #[.int .u64 (hi : Int), .int .u64 0] 25)) 25 #[.int .u64 (hi : Int), .int .u64 0]
      rw [World.size_alloc, hG, hW0] at h
      exact h, by simp, by decide⟩)
    have HR0 : Hid (Rv W0 G A' (l'.map enc64)) := Lib.hid (by
      have h := HRd.out.below (((Below.refl w2.heap.size w2).alloc (Nat.le_refl _) (.cells #[.int .u64 (hi : Int), .int .u64 0] 25)).alloc (by simp) (.cells #[.int .u64 (hi : Int), .int .u64 0] 25))
      rw [hG, hW0] at h
      exact h)
    have hwG : w.heap.size ≤ G := by have := HBW.out.size; omega
    have HB0 : Hid (Below w.heap.size w W0 ∧ G + 1 + 1 ≤ W0.heap.size) := Lib.hid ⟨by rw [← hW0]; exact (HBW.out.alloc HBW.out.size _).alloc (Nat.le_trans HBW.out.size (by simp)) _, by rw [← hW0]; simp; omega⟩
    rw [hW0]
    clear hW0 hG HRd HBW
    go_loopw [7, 8, 25] (fun x y z wr => ∃ k : Nat, k ≤ m ∧ z = .int .i64 k ∧ Side x wr G (hi * 18446744073709551616 + (l'.take k).sum) ∧ Side y wr (G + 1) (hi * 18446744073709551616 + (l'.reverse.take k).sum) ∧ Rv wr G A' (l'.map enc64) ∧ (Below w.heap.size w wr ∧ G + 1 + 1 ≤ wr.heap.size)) (fun _ _ z _ => m - (intOf z).toNat)
    case atStart => exact ⟨0, Nat.zero_le _, rfl, HS1.out, HS2.out, HR0.out, HB0.out⟩
    case round =>
      obtain ⟨k, hk, rfl, hx, hy, hR, hB⟩ := hrel
      by_cases hkm : k < m
      · have hxk : k < l'.length := by rw [HLm.out]; exact hkm
        have hyk : k < l'.reverse.length := by rw [List.length_reverse]; exact hxk
        have HX := Lib.hid hx
        have HY := Lib.hid hy
        have HR := Lib.hid hR
        have HB := Lib.hid hB
        have hB2 := hB.2
        clear hx hy hR hB HS1 HS2 HR0 HB0
        obtain ⟨b0, o0, hAe, hb0, hcu⟩ := HR.out.at_ (k := k) (by rw [List.length_map]; exact hxk)
        subst hAe
        rw [List.getElem_map] at hcu
        have hul := HLb.out l'[k] (List.getElem_mem hxk)
        have hsx : (l'.take (k + 1)).sum = (l'.take k).sum + l'[k] := by rw [List.take_succ_eq_append_getElem hxk, List.sum_append]; simp
        obtain ⟨u, hu⟩ : ∃ u, l'[k] = u := ⟨_, rfl⟩
        rw [hu] at hcu hul hsx
        replace hcu : wr.cell? ⟨b0, o0 + k, none⟩ = some (.int .u64 (u : Int)) := hcu
        have HSx := Lib.hid hsx
        have HBs := Lib.hid hb0
        clear hsx hu
        rcases HX.out with ⟨rfl, hS, h, lo, hK, hv, hlo⟩ | ⟨rfl, hS⟩
        · have hh : h < 18446744073709551616 := by omega
          have hAdd := add_side h lo u (G) hh hlo hul
          rw [← hv] at hAdd
          obtain ⟨v, h', lo', hA, hSide⟩ := hAdd
          have HSide := Lib.hid hSide
          have HK := Lib.hid hK
          have c0 : wr.cell? ⟨G, 0, none⟩ = some (.int .u64 (h : Int)) := hK.cell 0
          have c1 : wr.cell? ⟨G, 1, none⟩ = some (.int .u64 (lo : Int)) := hK.cell 1
          have HGs := Lib.hid hB2
          clear hSide hK hS hv hlo hh
          go_wp2_with fail
          go_cut [7] from 30 to 38 (fun x wx => Side x wx G (hi * 18446744073709551616 + (l'.take (k + 1)).sum) ∧ Side u8 wx (G + 1) (hi * 18446744073709551616 + (l'.reverse.take k).sum) ∧ Rv wx G (some ⟨b0, o0, none⟩) (l'.map enc64) ∧ (Below w.heap.size w wx ∧ G + 1 + 1 ≤ wx.heap.size))
          case first =>
            go_region_with ((go_at_call 15; go_must (refine (hA _).mono ?_); rintro e w3 ⟨rfl, hb3⟩; have hb4 : Below wr.heap.size wr w3 := (by first | exact hb3 | exact (Below.refl _ wr).drew.trans hb3); have HK3 : Hid (Blk w3 G 25 #[.int .u64 (h : Int), .int .u64 (lo : Int)]) := Lib.hid (HK.out.below hb4 (by have := HGs.out; omega)); have k0 : w3.cell? ⟨G, 0, none⟩ = some (.int .u64 (h : Int)) := HK3.out.cell 0; have k1 : w3.cell? ⟨G, 1, none⟩ = some (.int .u64 (lo : Int)) := HK3.out.cell 1; have f0 : w3.frozen? ⟨G, 0, none⟩ = false := HK3.out.frozen 0; have f1 : w3.frozen? ⟨G, 1, none⟩ = false := HK3.out.frozen 1; have HB4 : Hid (Below wr.heap.size wr w3) := Lib.hid hb4; clear hb3 hb4))
            all_goals
              go_wp2_with fail
              go_meet
              case rel =>
                have hGs := HGs.out
                refine ⟨?_, ((HY.out.keep HB4.out (by omega)).far (by omega) _ _).far (by omega) _ _, far_row (far_row (HR.out.below (HB4.out.mono (by omega))) (Nat.le_refl _) _ _) (Nat.le_refl _) _ _, ((HB.out.1.trans (HB4.out.mono (by omega))).setCell (by show w.heap.size ≤ G; omega) _).setCell (by show w.heap.size ≤ G; omega) _, ?_⟩
                · rw [HSx.out, ← Nat.add_assoc]
                  exact HSide.out _ ((HK3.out.set_ 0 _).set_ 1 _)
                · have := HB4.out.size
                  simp [World.setCell]
                  omega
          case rest =>
            obtain ⟨hx1, hy1, hr1, hB1⟩ := hcut
            have HX1 := Lib.hid hx1
            have HY1 := Lib.hid hy1
            have HR1 := Lib.hid hr1
            have HBB1 := Lib.hid hB1
            clear hx1 hy1 hr1 hB1 HX HY HR HB HSide HK c0 c1 HGs hcu
            have hB2 := HBB1.out.2
            obtain ⟨q, hq⟩ : ∃ q, m - 1 - k = q := ⟨_, rfl⟩
            have hqm : q < m := by omega
            have hql : q < l'.length := by rw [HLm.out]; exact hqm
            obtain ⟨hb0', hcu⟩ := HR1.out.cell_at (k := q) (by rw [List.length_map]; exact hql)
            rw [List.getElem_map] at hcu
            have hul := HLb.out l'[q] (List.getElem_mem hql)
            have hsy : (l'.reverse.take (k + 1)).sum = (l'.reverse.take k).sum + l'[q] := by
              rw [List.take_succ_eq_append_getElem hyk, List.sum_append, List.getElem_reverse]
              simp only [HLm.out, hq]
              simp
            obtain ⟨m1, hm1⟩ : ∃ m1, m - 1 = m1 := ⟨_, rfl⟩
            have i1 : (m : Int) - 1 = (m1 : Int) := by omega
            have i2 : (m1 : Int) - (k : Int) = (q : Int) := by omega
            have i3 : IntKind.i64.wrap ((m : Int) - 1) = (m1 : Int) := by rw [IntKind.wrap_i64]; omega
            have i4 : IntKind.i64.wrap ((m1 : Int) - (k : Int)) = (q : Int) := by rw [IntKind.wrap_i64]; omega
            have i5 : IntKind.i64.wrap (m1 : Int) = (m1 : Int) := by rw [IntKind.wrap_i64]; omega
            have i6 : IntKind.i64.wrap (q : Int) = (q : Int) := by rw [IntKind.wrap_i64]; omega
            obtain ⟨u, hu⟩ : ∃ u, l'[q] = u := ⟨_, rfl⟩
            rw [hu] at hcu hul hsy
            replace hcu : wc.cell? ⟨b0, o0 + q, none⟩ = some (.int .u64 (u : Int)) := hcu
            have HSy := Lib.hid hsy
            clear hsy hu hq hm1
            rcases HY1.out with ⟨rfl, hS, h, lo, hK, hv, hlo⟩ | ⟨rfl, hS⟩
            · have hh : h < 18446744073709551616 := by omega
              have hAdd := add_side h lo u (G + 1) hh hlo hul
              rw [← hv] at hAdd
              obtain ⟨v, h', lo', hA, hSide⟩ := hAdd
              have HSide := Lib.hid hSide
              have HK := Lib.hid hK
              have c0 : wc.cell? ⟨G + 1, 0, none⟩ = some (.int .u64 (h : Int)) := hK.cell 0
              have c1 : wc.cell? ⟨G + 1, 1, none⟩ = some (.int .u64 (lo : Int)) := hK.cell 1
              clear hSide hK hS hv hlo hh
              go_wp2_with fail
              go_region_with ((go_at_call 15; go_must (refine (hA _).mono ?_); rintro e w3 ⟨rfl, hb3⟩; have hb4 : Below wc.heap.size wc w3 := (by first | exact hb3 | exact (Below.refl _ wc).drew.trans hb3); have HK3 : Hid (Blk w3 (G + 1) 25 #[.int .u64 (h : Int), .int .u64 (lo : Int)]) := Lib.hid (HK.out.below hb4 (by omega)); have k0 : w3.cell? ⟨G + 1, 0, none⟩ = some (.int .u64 (h : Int)) := HK3.out.cell 0; have k1 : w3.cell? ⟨G + 1, 1, none⟩ = some (.int .u64 (lo : Int)) := HK3.out.cell 1; have f0 : w3.frozen? ⟨G + 1, 0, none⟩ = false := HK3.out.frozen 0; have f1 : w3.frozen? ⟨G + 1, 1, none⟩ = false := HK3.out.frozen 1; have HB4 : Hid (Below wc.heap.size wc w3) := Lib.hid hb4; clear hb3 hb4))
              all_goals
                have hx3 := ((HX1.out.keep HB4.out (by omega)).far (G := G + 1) (by omega) 0 (.int .u64 (h' : Int))).far (G := G + 1) (by omega) 1 (.int .u64 (lo' : Int))
                have hy3 := HSide.out _ ((HK3.out.set_ 0 (.int .u64 (h' : Int))).set_ 1 (.int .u64 (lo' : Int)))
                rw [Nat.add_assoc, ← HSy.out] at hy3
                have hr3 := far_row (far_row (HR1.out.below (HB4.out.mono (by omega))) (Nat.le_succ G) 0 (.int .u64 (h' : Int))) (Nat.le_succ G) 1 (.int .u64 (lo' : Int))
                have hB3 := ((HBB1.out.1.trans (HB4.out.mono (by omega))).setCell (p := ⟨G + 1, 0, none⟩) (by show w.heap.size ≤ G + 1; omega) (.int .u64 (h' : Int))).setCell (p := ⟨G + 1, 1, none⟩) (by show w.heap.size ≤ G + 1; omega) (.int .u64 (lo' : Int))
                have hsz3 : G + 1 + 1 ≤ ((w3.setCell ⟨G + 1, 0, none⟩ (.int .u64 (h' : Int))).setCell ⟨G + 1, 1, none⟩ (.int .u64 (lo' : Int))).heap.size := by
                  have := HB4.out.size
                  simp [World.setCell]
                  omega
                have HX3 := Lib.hid hx3
                have HY3 := Lib.hid hy3
                have HR3 := Lib.hid hr3
                have HB3 := Lib.hid hB3
                have HS3 := Lib.hid hsz3
                clear hx3 hy3 hr3 hB3 hsz3
                go_wp2_with fail
                go_roundw
                case rel => exact ⟨k + 1, by omega, by go_num, HX3.out, HY3.out, HR3.out, HB3.out, HS3.out⟩
                case measure => simp [intOf]; omega
            · have HY2 : Hid (Side (.iface 38 (.int .i64 12)) wc (G + 1) (hi * 18446744073709551616 + (l'.reverse.take (k + 1)).sum)) := Lib.hid (Or.inr ⟨rfl, by rw [HSy.out]; omega⟩)
              clear HY1 hcu
              go_wp2_with fail
              go_roundw
              case rel => exact ⟨k + 1, by omega, by go_num, HX1.out, HY2.out, HR1.out, HBB1.out⟩
              case measure => simp [intOf]; omega
        · have HX1 : Hid (Side (.iface 38 (.int .i64 12)) wr G (hi * 18446744073709551616 + (l'.take (k + 1)).sum)) := Lib.hid (Or.inr ⟨rfl, by rw [HSx.out]; omega⟩)
          have HY1 := Lib.hid HY.out
          have HR1 := Lib.hid HR.out
          have HBB1 := Lib.hid HB.out
          clear HX HY HR HB hcu
          obtain ⟨wc, hwc⟩ : ∃ W, W = wr := ⟨_, rfl⟩
          subst hwc
          have hB2 := HBB1.out.2
          obtain ⟨q, hq⟩ : ∃ q, m - 1 - k = q := ⟨_, rfl⟩
          have hqm : q < m := by omega
          have hql : q < l'.length := by rw [HLm.out]; exact hqm
          obtain ⟨hb0', hcu⟩ := HR1.out.cell_at (k := q) (by rw [List.length_map]; exact hql)
          rw [List.getElem_map] at hcu
          have hul := HLb.out l'[q] (List.getElem_mem hql)
          have hsy : (l'.reverse.take (k + 1)).sum = (l'.reverse.take k).sum + l'[q] := by
            rw [List.take_succ_eq_append_getElem hyk, List.sum_append, List.getElem_reverse]
            simp only [HLm.out, hq]
            simp
          obtain ⟨m1, hm1⟩ : ∃ m1, m - 1 = m1 := ⟨_, rfl⟩
          have i1 : (m : Int) - 1 = (m1 : Int) := by omega
          have i2 : (m1 : Int) - (k : Int) = (q : Int) := by omega
          have i3 : IntKind.i64.wrap ((m : Int) - 1) = (m1 : Int) := by rw [IntKind.wrap_i64]; omega
          have i4 : IntKind.i64.wrap ((m1 : Int) - (k : Int)) = (q : Int) := by rw [IntKind.wrap_i64]; omega
          have i5 : IntKind.i64.wrap (m1 : Int) = (m1 : Int) := by rw [IntKind.wrap_i64]; omega
          have i6 : IntKind.i64.wrap (q : Int) = (q : Int) := by rw [IntKind.wrap_i64]; omega
          obtain ⟨u, hu⟩ : ∃ u, l'[q] = u := ⟨_, rfl⟩
          rw [hu] at hcu hul hsy
          replace hcu : wc.cell? ⟨b0, o0 + q, none⟩ = some (.int .u64 (u : Int)) := hcu
          have HSy := Lib.hid hsy
          clear hsy hu hq hm1
          rcases HY1.out with ⟨rfl, hS, h, lo, hK, hv, hlo⟩ | ⟨rfl, hS⟩
          · have hh : h < 18446744073709551616 := by omega
            have hAdd := add_side h lo u (G + 1) hh hlo hul
            rw [← hv] at hAdd
            obtain ⟨v, h', lo', hA, hSide⟩ := hAdd
            have HSide := Lib.hid hSide
            have HK := Lib.hid hK
            have c0 : wc.cell? ⟨G + 1, 0, none⟩ = some (.int .u64 (h : Int)) := hK.cell 0
            have c1 : wc.cell? ⟨G + 1, 1, none⟩ = some (.int .u64 (lo : Int)) := hK.cell 1
            clear hSide hK hS hv hlo hh
            go_wp2_with fail
            go_region_with ((go_at_call 15; go_must (refine (hA _).mono ?_); rintro e w3 ⟨rfl, hb3⟩; have hb4 : Below wc.heap.size wc w3 := (by first | exact hb3 | exact (Below.refl _ wc).drew.trans hb3); have HK3 : Hid (Blk w3 (G + 1) 25 #[.int .u64 (h : Int), .int .u64 (lo : Int)]) := Lib.hid (HK.out.below hb4 (by omega)); have k0 : w3.cell? ⟨G + 1, 0, none⟩ = some (.int .u64 (h : Int)) := HK3.out.cell 0; have k1 : w3.cell? ⟨G + 1, 1, none⟩ = some (.int .u64 (lo : Int)) := HK3.out.cell 1; have f0 : w3.frozen? ⟨G + 1, 0, none⟩ = false := HK3.out.frozen 0; have f1 : w3.frozen? ⟨G + 1, 1, none⟩ = false := HK3.out.frozen 1; have HB4 : Hid (Below wc.heap.size wc w3) := Lib.hid hb4; clear hb3 hb4))
            all_goals
              have hx3 := ((HX1.out.keep HB4.out (by omega)).far (G := G + 1) (by omega) 0 (.int .u64 (h' : Int))).far (G := G + 1) (by omega) 1 (.int .u64 (lo' : Int))
              have hy3 := HSide.out _ ((HK3.out.set_ 0 (.int .u64 (h' : Int))).set_ 1 (.int .u64 (lo' : Int)))
              rw [Nat.add_assoc, ← HSy.out] at hy3
              have hr3 := far_row (far_row (HR1.out.below (HB4.out.mono (by omega))) (Nat.le_succ G) 0 (.int .u64 (h' : Int))) (Nat.le_succ G) 1 (.int .u64 (lo' : Int))
              have hB3 := ((HBB1.out.1.trans (HB4.out.mono (by omega))).setCell (p := ⟨G + 1, 0, none⟩) (by show w.heap.size ≤ G + 1; omega) (.int .u64 (h' : Int))).setCell (p := ⟨G + 1, 1, none⟩) (by show w.heap.size ≤ G + 1; omega) (.int .u64 (lo' : Int))
              have hsz3 : G + 1 + 1 ≤ ((w3.setCell ⟨G + 1, 0, none⟩ (.int .u64 (h' : Int))).setCell ⟨G + 1, 1, none⟩ (.int .u64 (lo' : Int))).heap.size := by
                have := HB4.out.size
                simp [World.setCell]
                omega
              have HX3 := Lib.hid hx3
              have HY3 := Lib.hid hy3
              have HR3 := Lib.hid hr3
              have HB3 := Lib.hid hB3
              have HS3 := Lib.hid hsz3
              clear hx3 hy3 hr3 hB3 hsz3
              go_wp2_with fail
              go_roundw
              case rel => exact ⟨k + 1, by omega, by go_num, HX3.out, HY3.out, HR3.out, HB3.out, HS3.out⟩
              case measure => simp [intOf]; omega
          · have HY2 : Hid (Side (.iface 38 (.int .i64 12)) wc (G + 1) (hi * 18446744073709551616 + (l'.reverse.take (k + 1)).sum)) := Lib.hid (Or.inr ⟨rfl, by rw [HSy.out]; omega⟩)
            clear HY1 hcu
            go_wp2_with fail
            go_roundw
            case rel => exact ⟨k + 1, by omega, by go_num, HX1.out, HY2.out, HR1.out, HBB1.out⟩
            case measure => simp [intOf]; omega
      · have hkm' : k = m := by omega
        subst hkm'
        have hr1 : (l'.take k).sum = l'.sum := by rw [List.take_of_length_le (by rw [HLm.out]; exact Nat.le_refl _)]
        have hr2 : (l'.reverse.take k).sum = l'.sum := by rw [List.take_of_length_le (by rw [List.length_reverse, HLm.out]; exact Nat.le_refl _), List.sum_reverse]
        rw [hr1] at hx
        rw [hr2] at hy
        have hsum := sum_le l' HLb.out
        rw [HLm.out] at hsum
        obtain ⟨T, hT⟩ : ∃ T, l'.sum = T := ⟨_, rfl⟩
        rw [hT] at hx hy hsum
        have HB := Lib.hid hB.1
        have HWr := Lib.hid (HW.out.below hB.1)
        clear hr1 hr2 hT hR hB HS1 HS2 HR0 HB0
        rcases hx with ⟨rfl, hS, h1, l1, hK1, hv1, hl1⟩ | ⟨rfl, hS⟩
        · rcases hy with ⟨rfl, _, h2, l2, hK2, hv2, hl2⟩ | ⟨rfl, hS2⟩
          · obtain rfl : h1 = h2 := by omega
            obtain rfl : l1 = l2 := by omega
            have hLs := fun W => Less_any h1 l1 hi 0 hl1 (by decide) W
            rw [show decide (h1 * 18446744073709551616 + l1 < hi * 18446744073709551616 + 0) = false from decide_eq_false (by omega)] at hLs
            unfold wv at hLs
            have c0 : wr.cell? ⟨G, 0, none⟩ = some (.int .u64 (h1 : Int)) := hK1.cell 0
            have c1 : wr.cell? ⟨G, 1, none⟩ = some (.int .u64 (l1 : Int)) := hK1.cell 1
            have d0 : wr.cell? ⟨G + 1, 0, none⟩ = some (.int .u64 (h1 : Int)) := hK2.cell 0
            have d1 : wr.cell? ⟨G + 1, 1, none⟩ = some (.int .u64 (l1 : Int)) := hK2.cell 1
            clear hv1 hv2 hK1 hK2 hS hsum
            go_wp2_with fail
            go_quiet (fail)
            go_wp2_with fail
            refine (hLs _).mono ?_
            rintro e w5 ⟨rfl, hb5⟩
            go_wp2_with fail
            go_ret
            exact ⟨rfl, (below_drewN HB.out _).trans (hb5.mono (below_drewN HB.out _).size)⟩
          · exfalso
            omega
        · rcases hy with ⟨rfl, hS2, _⟩ | ⟨rfl, _⟩
          · exfalso
            omega
          · have hbig : (18446744073709551595 : Int) ≤ (hi : Int) := by omega
            clear hS hsum
            go_wp2_with fail
            go_quiet (fail)
            go_wp2_with fail
            refine (Code_errno _ _ (HWr.out.drewN _)).mono ?_
            rintro e w5 ⟨rfl, hb5⟩
            go_wp2_with fail
            go_ret
            exact ⟨rfl, (below_drewN HB.out _).trans (hb5.mono (below_drewN HB.out _).size)⟩
end Go.Proofs.YtkgadbnfaoijaabDoor
