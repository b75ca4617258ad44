/-
ReelRaw, walked. Conditions: numbers of their kinds; the lists are there; errors.errorType starts as the program's text lays it.
-/
import Derived.Test.YtbaenpgjggojaaaDoorRlRaZ9
import Derived.Test.YtbaenpgjggojaaaDoorCodeCZ9
namespace Go.Proofs.YtbaenpgjggojaaaDoor
open Go.ChangeShapes Go.WideShapes Go.RowKit

theorem own_past {w : World} {base n m c : Nat} {A : Option Addr} {l : List UInt8} (h : OwnB w base (.slice A n c) m l) : ∀ b q, A = some ⟨b, q, none⟩ → base ≤ b := fun b q e => by
  subst e
  exact (World.ownsRow.lt h b rfl).1
/-- A row of bytes that was made since. -/
def qF (B m : Nat) : Flw := ⟨fun v w => ∃ (A : Option Addr) (c : Nat) (l : List UInt8), v = .slice A l.length c ∧ l.length ≤ m ∧ (∀ b q, A = some ⟨b, q, none⟩ → B ≤ b) ∧ Rd w w.heap.size A l, fun ⟨A, c, l, h1, h2, h3, h4⟩ hb => ⟨A, c, l, h1, h2, h3, (h4.below hb).more hb.size⟩⟩
def rowP (B : Nat) (u : Value) (w : World) : Prop := ∃ (A : Option Addr) (c : Nat) (l : List UInt8), u = .slice A 256 c ∧ l.length = 256 ∧ (∀ b q, A = some ⟨b, q, none⟩ → B ≤ b) ∧ Rd w w.heap.size A l
theorem rowP.below {B : Nat} {u : Value} {w w' : World} (h : rowP B u w) (hb : Below w.heap.size w w') : rowP B u w' := by
  obtain ⟨A, c, l, h1, h2, h3, h4⟩ := h
  exact ⟨A, c, l, h1, h2, h3, (h4.below hb).more hb.size⟩
def lF (B : Nat) : Flw := ⟨fun v w => ∃ q n c u, v = .slice (some ⟨q, 0, none⟩) n c ∧ n ≠ 0 ∧ q < w.heap.size ∧ w.cell? ⟨q, 0, none⟩ = some u ∧ rowP B u w, fun ⟨q, n, c, u, h1, h2, h3, h4, h5⟩ hb => ⟨q, n, c, u, h1, h2, Nat.lt_of_lt_of_le h3 hb.size, (hb.cell (p := ⟨q, 0, none⟩) h3).trans h4, h5.below hb⟩⟩
def pF (B : Nat) : Flw := ⟨fun v w => ∃ q u, v = .pointer (some ⟨q, 0, none⟩) ∧ q < w.heap.size ∧ w.cell? ⟨q, 0, none⟩ = some u ∧ rowP B u w, fun ⟨q, u, h1, h3, h4, h5⟩ hb => ⟨q, u, h1, Nat.lt_of_lt_of_le h3 hb.size, (hb.cell (p := ⟨q, 0, none⟩) h3).trans h4, h5.below hb⟩⟩
theorem qF.of_row {B : Nat} {u : Value} {w : World} (h : rowP B u w) : (qF B 256).p u w := by
  obtain ⟨A, c, l, rfl, h2, h3, h4⟩ := h
  exact ⟨A, c, l, by rw [h2], by omega, h3, h4⟩
theorem qF.of_cut {w w' : World} {B m : Nat} {l : List UInt8} {e : Ending} (h : ClW w l e w') (hB : B ≤ w.heap.size) (hl : l.length ≤ m) : ToF (qF B m) w e w' := by
  obtain ⟨v, rfl, ho, hb⟩ := h
  obtain ⟨-, A, c, rfl, -, -, hr⟩ := own_form ho
  exact ⟨_, rfl, ⟨A, c, l, rfl, hl, fun b q e => Nat.le_trans hB (own_past ho b q e), hr⟩, hb⟩
theorem lay_first {w : World} {B g i c : Nat} {A : Option Addr} {p : List UInt8} (hg : g < 4294967296) (hi : i < 4294967296) (hR : Rd w w.heap.size A p) (hm : p.length ≤ 100000) (hB : B ≤ w.heap.size) :
    Calls Tryd.prog 9 #[.int .u32 (g : Int), .int .i64 (i : Int), .slice A p.length c] w (ToF (lF B) w) := by
  refine (RLay_any hg hi hR (Nat.le_refl _) rfl hm).mono ?_
  rintro e w' ⟨A', c', vals, rfl, ⟨h1, h2, h3, h4⟩, hb⟩
  have hl : 0 < (secs (seedN g i) p).length := by rw [secs_len]; exact (pages_bounds _).2.2
  obtain ⟨v, hv⟩ : ∃ v, vals[0]? = some v := ⟨_, List.getElem?_eq_getElem (by omega)⟩
  obtain ⟨s, hs⟩ : ∃ s, (secs (seedN g i) p)[0]? = some s := ⟨_, List.getElem?_eq_getElem hl⟩
  have hs2 : s.length = 256 := by
    have := List.mem_of_getElem? hs
    unfold secs at this
    obtain ⟨j, -, rfl⟩ := List.mem_map.1 this
    exact sector_len _ _
  obtain ⟨ho, -⟩ := h4 0 v s hv hs
  obtain ⟨-, A2, c2, rfl, -, -, hr2⟩ := own_form ho
  obtain ⟨q, cap, e1, -, hlt⟩ := World.ownsRow.form h1 hl
  injection e1 with e1 e2 e3
  subst e1
  have hc := World.ownsRow.cells h1 (g := q) rfl 0 _ hv
  refine ⟨_, rfl, ⟨q, _, c', .slice A2 s.length c2, rfl, by omega, hlt, by simpa [go_sem] using hc, A2, c2, s, by rw [hs2], hs2, fun b q e => Nat.le_trans hB (own_past ho b q e), hr2⟩, hb⟩
section
variable {W : World} {base d r s g : Nat} {L : List (List UInt8)} {fl : List (List UInt8)} {ws : List (Nat × List UInt8)}
theorem Two.bounds (h : Two W base d r s g L fl ws) : L.length ≤ 1000 ∧ (∀ b ∈ L, b.length ≤ 1000000) ∧ 2 ≤ fl.length ∧ usedN L ≤ 8192 := by
  obtain ⟨-, -, ⟨h6, h0, hg, hL, hu, hk, hF, hz⟩, h1k⟩ := h
  obtain ⟨f1, f2⟩ := founds_small hF
  unfold halfN at hu
  exact ⟨by omega, fun b hb => by have := f1 b hb; omega, by omega, by omega⟩
theorem Two.swap (h : Two W base d r s g L fl ws) : Two W base d s r g L fl ws := ⟨h.2.1, h.1, h.2.2⟩
theorem Two.records (h : Two W base d r s g L fl ws) : Calls Tryd.prog 18 #[.pointer (some ⟨r, 0, none⟩)] W (RecsPost W L) := by
  obtain ⟨b1, b2, -, -⟩ := h.bounds
  obtain ⟨own, o, R, c, vals, hd, hh, hoff, ho⟩ := h.1
  exact Records_any hh hh.1.lt b1 b2
theorem Two.count (h : Two W base d r s g L fl ws) : Calls Tryd.prog 19 #[.pointer (some ⟨r, 0, none⟩)] W fun e W' => e = .returned (.int .i64 (L.length : Int)) ∧ W' = W := by
  obtain ⟨own, o, R, c, vals, hd, hh, hoff, ho⟩ := h.1
  exact Count_any hh.1
theorem Two.gen (h : Two W base d r s g L fl ws) : Calls Tryd.prog 16 #[.pointer (some ⟨r, 0, none⟩)] W fun e W' => e = .returned (.int .u32 (g : Int)) ∧ W' = W := by
  obtain ⟨own, o, R, c, vals, hd, hh, hoff, ho⟩ := h.1
  exact Gen_any hh.1
theorem Two.room (h : Two W base d r s g L fl ws) : Calls Tryd.prog 14 #[.pointer (some ⟨r, 0, none⟩)] W fun e W' => e = .returned (.int .i64 ((halfN fl.length : Nat) - (usedN L : Int))) ∧ Below W.heap.size W W' := by
  obtain ⟨-, -, b3, b4⟩ := h.bounds
  obtain ⟨own, o, R, c, vals, hd, hh, hoff, ho⟩ := h.1
  refine (Room_dr hh.1 hd b3 b4).mono ?_
  rintro e W' ⟨h1, m, rfl⟩
  exact ⟨h1, below_drewN (Below.refl _ _) _⟩
theorem Two.clean (h : Two W base d r s g L fl ws) (i : Nat) (h1 : usedN L ≤ i) (h2 : i < halfN fl.length) (x : Int) (hx : x = ((startN fl.length g + i : Nat) : Int)) :
    Calls Tryd.prog 15 #[.pointer (some ⟨d, 0, none⟩), .int .i64 x] W fun e w' => e = .returned (.bool true) ∧ w' = W := by
  obtain ⟨⟨own, o, R, c, vals, hd, -⟩, -, ⟨h6, h0, hg, hL, hu, hk, hF, hz⟩, h1k⟩ := h
  have hb := half_bounds fl.length g h6
  have k := Clean_dr hd (startN fl.length g + i) (by omega)
  rw [hz i h1 h2, decide_eq_true rfl] at k
  subst hx
  exact k
end
/-- Behind the first Open. -/
theorem open_first {w0 W : World} {base d : Nat} {o : Nat → Prop} {fl : List (List UInt8)} {ws : List (Nat × List UInt8)} (hd : Dr W base d o fl ws (-1)) (h6 : 6 ≤ fl.length) (h1k : fl.length ≤ 1000) (hws : ws.length ≤ 1000) (hbw : base ≤ W.heap.size) (hb : Below base w0 W) :
    Calls Tryd.prog 12 #[.pointer (some ⟨d, 0, none⟩)] W fun e W' =>
      (∃ k : Nat, (k = 2 ∨ k = 3 ∨ k = 5) ∧ e = .returned (.tuple #[.pointer none, .iface 38 (.int .i64 (k : Int))]) ∧ Below base w0 W') ∨
      (∃ r own g L fl' ws', e = .returned (.tuple #[.pointer (some ⟨r, 0, none⟩), .nilIface]) ∧ Rl W' base d r g own fl' ws' L ∧ Fnd fl' ws' g L ∧ fl'.length = fl.length ∧ ws'.length ≤ 700000 ∧ (∀ i, own i → base ≤ i) ∧ Below base w0 W') := by
  refine (Open_dr hd h1k (by omega)).mono ?_
  rintro e W' (⟨k, h1, rfl, hb1⟩ | ⟨r, rfl, j, L, own', fl', ws', h6', hr2, hn0, hLn, hj, hm, he, hF, hu, hRl, hk, hs, hl, hwl, hnow⟩)
  · have hk : k = 2 ∨ k = 3 ∨ k = 5 := by
      rcases h1 with ⟨-, h⟩ | ⟨h, -⟩ | ⟨h, -⟩ <;> omega
    exact .inl ⟨k, hk, by rw [errV_pos (by omega)], hb.trans (hb1.mono hbw)⟩
  · exact .inr ⟨r, own', newN fl ws, L, fl', ws', rfl, hRl, fnd_first h6 hl hd.now_len hn0 hLn hj hm hF hu hnow, hl, by omega, hRl.ge (by omega), kept_below hk hb hbw hd.ge⟩
section
variable {w : World} {N n1 c1 n2 c2 n3 c3 : Nat} {A1 A2 A3 : Option Addr} {rs1 : List Rw} {l2 l3 : List UInt8}
set_option maxRecDepth 100000 in
set_option maxHeartbeats 8000000 in
theorem RRaw_any (_hn : N < 256) (hl1 : rs1.length = n1) (hc1 : n1 ≤ maxLen) (hC1 : Cs w w.heap.size A1 (rs1.map Rw.val)) (hI1 : RwsIn w w.heap.size rs1) (hl2 : l2.length = n2) (hc2 : n2 ≤ maxLen) (hR2 : Rd w w.heap.size A2 l2) (hl3 : l3.length = n3) (hc3 : n3 ≤ maxLen) (hR3 : Rd w w.heap.size A3 l3) (hlw : Laid w) :
    Calls Tryd.prog 3 #[.int .u8 (N : Int), .slice A1 n1 c1, .slice A2 n2 c2, .slice A3 n3 c3] w fun e w' => e = .returned (.bool true) ∧ Below w.heap.size w w' := by
  have cA := awake15 w
  obtain ⟨S, hS⟩ : ∃ S, 6 + N % 20 = S := ⟨_, rfl⟩
  have hS2 : 6 ≤ S ∧ S ≤ 25 := by omega
  have hSi : (6 : Int) + (N : Int) % 20 = (S : Int) := by omega
  have hS0 : ¬ ((S : Int) = 0) := by omega
  have hSb : (S : Int) ≤ 25 := by omega
  have hSc : (6 : Int) ≤ (S : Int) := by omega
  have hnb1 : (n1 : Int) ≤ 9223372036854775807 := by unfold maxLen at hc1; omega
  have hnb2 : (n2 : Int) ≤ 9223372036854775807 := by unfold maxLen at hc2; omega
  have hnb3 : (n3 : Int) ≤ 9223372036854775807 := by unfold maxLen at hc3; omega
  have HL1 := Lib.hid (And.intro hl1 (And.intro hC1 hI1))
  have HL2 := Lib.hid (And.intro hl2 hR2)
  have HL3 := Lib.hid (And.intro hl3 hR3)
  have HL := Lib.hid hlw
  have HS := Lib.hid hS2
  clear hl1 hc1 hC1 hI1 hl2 hc2 hR2 hl3 hc3 hR3 hS hS2 hlw
  go_enter Tryd.func3, Tryd.ntmps3
  go_wp2_with fail
  refine cA.mono ?_
  rintro e w1 ⟨rfl, hb1⟩
  have HB1 := Lib.hid hb1
  have cN := New_dr S (by have := HS.out; omega) (by have := HS.out; omega) w1
  clear cA hb1
  go_wp2_with fail
  refine cN.mono ?_
  rintro e w2 ⟨d, o2, rfl, hd2, hb2⟩
  have hlen : (List.replicate S zeros).length = S := List.length_replicate
  obtain ⟨fl, hfl⟩ : ∃ f, List.replicate S zeros = f := ⟨_, rfl⟩
  rw [hfl] at hd2 hlen
  have H2 := Lib.hid (And.intro hd2 hb2)
  have HF := Lib.hid hlen
  clear cN hd2 hb2 hlen hfl
  go_wp2_with fail
  go_loopw [12, 13, 14, 35] (fun _ _ _ i wr => ∃ k : Nat, k ≤ n1 ∧ i = .int .i64 (k : Int) ∧ ∃ o ws, Dr wr w1.heap.size d o fl ws (-1) ∧ ws.length ≤ min k 8 ∧ Below w1.heap.size w1 wr) (fun _ _ _ i _ => n1 - (intOf i).toNat)
  case atStart => exact ⟨0, Nat.zero_le _, rfl, o2, [], H2.out.1, by simp, H2.out.2⟩
  case round =>
    obtain ⟨k, hk, rfl, o, ws, hd, hws, hbw⟩ := hrel
    have hkb : (k : Int) ≤ 9223372036854775807 := by omega
    by_cases hlt : k < n1
    · have hlt2 : (k : Int) < (n1 : Int) := by omega
      have hbw0 : Below w.heap.size w wr := HB1.out.trans (hbw.mono HB1.out.size)
      obtain ⟨bp, qp, hAp, hbq, hcp⟩ := (HL1.out.2.1.below hbw0).at_ (k := k) (by rw [List.length_map, HL1.out.1]; exact hlt)
      rw [List.getElem_map] at hcp
      obtain ⟨p, hp⟩ : ∃ p, rs1[k]'(by rw [HL1.out.1]; exact hlt) = p := ⟨_, rfl⟩
      obtain ⟨hpl, hpm, hpr⟩ := HL1.out.2.2 p (by rw [← hp]; exact List.getElem_mem _)
      rw [hp] at hcp
      have hcp : wr.cell? ⟨bp, qp + k, none⟩ = some (.slice p.A p.l.length p.c) := hcp
      subst hAp
      have HD := Lib.hid (And.intro hd (And.intro hws (And.intro hbw hbw0)))
      have HP := Lib.hid (And.intro hpl (And.intro hpm hpr))
      by_cases h8 : k < 8
      · have h82 : (k : Int) < 8 := by omega
        by_cases hk2 : k < n2
        · have hk22 : (k : Int) < (n2 : Int) := by omega
          obtain ⟨b2, q2, hA2, hb2, hc2⟩ := HL2.out.2.at_ (show k < l2.length by rw [HL2.out.1]; exact hk2)
          obtain ⟨u2, hu2⟩ : ∃ u, l2[k]'(by rw [HL2.out.1]; exact hk2) = u := ⟨_, rfl⟩
          rw [hu2] at hc2
          subst hA2
          have hlw2 := fun W (hW : Below w1.heap.size w1 W) => ((HB1.out.trans (hW.mono HB1.out.size)).cell (p := ⟨b2, q2 + k, none⟩) hb2).trans hc2
          have HU2 := Lib.hid hlw2
          have cC := CutW_any p.A p.l.length p.c w.heap.size 256 p.l wr (hpr.below hbw0) rfl (by unfold maxLen at hpm; omega) (by decide) hbw0.size
          have HK := Lib.hid (And.intro hlt h8)
          clear hd hws hbw hbw0 hlt h8 hk2 hp hpl hpm hpr hu2 hc2 hlw2 hb2
          go_wp2_with fail
          refine cC.mono ?_
          rintro e w5 h5
          obtain ⟨v, rfl, hq5, hb5⟩ := qF.of_cut (B := wr.heap.size) (m := 256) h5 (Nat.le_refl _) (by rw [List.length_take]; omega)
          have H5 := Lib.hid (And.intro hq5 hb5)
          clear cC h5 hq5 hb5
          by_cases hk3 : k < n3
          · have hk32 : (k : Int) < (n3 : Int) := by omega
            obtain ⟨b3, q3, hA3, hb3, hc3⟩ := HL3.out.2.at_ (show k < l3.length by rw [HL3.out.1]; exact hk3)
            obtain ⟨u3, hu3⟩ : ∃ u, l3[k]'(by rw [HL3.out.1]; exact hk3) = u := ⟨_, rfl⟩
            rw [hu3] at hc3
            subst hA3
            have hlw3 := fun W (hW : Below w.heap.size w W) => (hW.cell (p := ⟨b3, q3 + k, none⟩) hb3).trans hc3
            have HU3 := Lib.hid hlw3
            have hu3b := Crc.u8_lt u3
            obtain ⟨G, hG⟩ : ∃ G, u3.toNat = G := ⟨_, rfl⟩
            rw [hG] at hu3b HU3
            obtain ⟨GA, hGA⟩ : ∃ x, G % 4 = x := ⟨_, rfl⟩
            obtain ⟨KA, hKA⟩ : ∃ x, k % 3 = x := ⟨_, rfl⟩
            have hGA1 : (G : Int) % 4 = (GA : Int) := by omega
            have hKA1 : (k : Int) % 3 = (KA : Int) := by omega
            have hGA3 : Int.tmod (G : Int) 4 = (GA : Int) := by rw [Int.tmod_eq_emod_of_nonneg (by omega)]; exact hGA1
            have hKA3 : Int.tmod (k : Int) 3 = (KA : Int) := by rw [Int.tmod_eq_emod_of_nonneg (by omega)]; exact hKA1
            have hGA2 : IntKind.u32.wrap (GA : Int) = (GA : Int) := by rw [IntKind.wrap_u32]; omega
            have hgb : (G : Int) < 256 := by omega
            have HG := Lib.hid (And.intro hu3b (And.intro (show GA < 4294967296 by omega) (show KA < 4294967296 by omega)))
            have LG : ∀ wF, Below w5.heap.size w5 wF → (Instr.loadAt 5 (.pointer (some ⟨b3, q3 + k, none⟩))).run Tryd.prog wF = .ok (.int .u8 (G : Int)) wF := fun wF hb => by
              have c1 := HU3.out wF (HD.out.2.2.2.trans ((H5.out.2.trans (hb.mono H5.out.2.size)).mono HD.out.2.2.2.size))
              go_simp
            have cC2 : ∀ wF, Below w5.heap.size w5 wF → Calls Tryd.prog 8 #[.slice p.A p.l.length p.c, .int .i64 240] wF (ToF (qF wr.heap.size 240) wF) := fun wF hb => by
              have hb5 := H5.out.2.trans (hb.mono H5.out.2.size)
              refine (CutW_any p.A p.l.length p.c w.heap.size 240 p.l wF (HP.out.2.2.below (HD.out.2.2.2.trans (hb5.mono HD.out.2.2.2.size))) rfl (by have := HP.out; unfold maxLen at this; omega) (by decide) (Nat.le_trans HD.out.2.2.2.size hb5.size)).mono fun e w' h => ?_
              exact qF.of_cut h hb5.size (by rw [List.length_take]; omega)
            have cL : ∀ wF, Below w5.heap.size w5 wF → ∀ (A9 : Option Addr) (c9 : Nat) (l9 : List UInt8), l9.length ≤ 240 → Rd wF wF.heap.size A9 l9 → Calls Tryd.prog 9 #[.int .u32 (GA : Int), .int .i64 (KA : Int), .slice A9 l9.length c9] wF (ToF (lF wr.heap.size) wF) := fun wF hb A9 c9 l9 h1 h2 =>
              lay_first HG.out.2.1 HG.out.2.2 h2 (by omega) (H5.out.2.trans (hb.mono H5.out.2.size)).size
            clear hk3 hc3 hb3 hu3 hlw3 hG hu3b hGA hKA
            go_wp2_with fail
            refine wp_region_flow [some 54, some 55, some 56, some 57, some 58, some 59, some 60, some 61, some 62, some 63, some 64, some 65, some 66, some 14] (fun i => ([.is (.slice (some ⟨b3, q3, none⟩) n3 c3), .is (.int .i64 (k : Int)), .is (.pointer (some ⟨b3, q3 + k, none⟩)), .is (.int .u8 (G : Int)), .is (.int .u8 (GA : Int)), .is (.int .u32 (GA : Int)), .is (.int .i64 (k : Int)), .is (.int .i64 (KA : Int)), .is (.slice p.A p.l.length p.c), qF wr.heap.size 240, lF wr.heap.size, pF wr.heap.size, qF wr.heap.size 256, qF wr.heap.size 256] : List Flw).getD i .any) (by kernel_rfl) (by kernel_rfl) rfl ?_ ?_
            · skip
              refine ⟨step_free rfl (fun aF wF hs hb => ?_), ?_⟩
              · obtain ⟨x0, -⟩ := hs
                have e0 : aF.eval (.tmp 3) = .slice (some ⟨b3, q3, none⟩) n3 c3 := x0
                exact opC_move e0 ⟨rfl, below_same wF⟩
              refine ⟨step_free rfl (fun aF wF hs hb => ?_), ?_⟩
              · obtain ⟨x0, -⟩ := hs
                have e0 : aF.eval (.tmp 12) = .int .i64 (k : Int) := x0
                exact opC_move e0 ⟨rfl, below_same wF⟩
              refine ⟨step_free rfl (fun aF wF hs hb => ?_), ?_⟩
              · obtain ⟨x0, x1, -⟩ := hs
                have e0 : aF.eval (.tmp 54) = .slice (some ⟨b3, q3, none⟩) n3 c3 := x0
                have e1 : aF.eval (.tmp 55) = .int .i64 (k : Int) := x1
                refine opC_value (v := .pointer (some ⟨b3, q3 + k, none⟩)) ?_ ⟨rfl, below_same wF⟩
                have t0 := ev_of e0
                have t1 := ev_of e1
                simp [execOp, go_sem, t0, t1, hk32]
              refine ⟨step_free rfl (fun aF wF hs hb => ?_), ?_⟩
              · obtain ⟨x0, -⟩ := hs
                have e0 : aF.eval (.tmp 56) = .pointer (some ⟨b3, q3 + k, none⟩) := x0
                exact opC_load e0 (LG wF hb) ⟨rfl, below_same wF⟩
              refine ⟨step_free rfl (fun aF wF hs hb => ?_), ?_⟩
              · obtain ⟨x0, -⟩ := hs
                have e0 : aF.eval (.tmp 57) = .int .u8 (G : Int) := x0
                refine opC_value (v := .int .u8 (GA : Int)) ?_ ⟨rfl, below_same wF⟩
                have t0 := ev_of e0
                simp [execOp, go_sem, t0, hGA3]
              refine ⟨step_free rfl (fun aF wF hs hb => ?_), ?_⟩
              · obtain ⟨x0, -⟩ := hs
                have e0 : aF.eval (.tmp 58) = .int .u8 (GA : Int) := x0
                refine opC_value (v := .int .u32 (GA : Int)) ?_ ⟨rfl, below_same wF⟩
                have t0 := ev_of e0
                simp [execOp, go_sem, t0, hGA2]
              refine ⟨step_free rfl (fun aF wF hs hb => ?_), ?_⟩
              · obtain ⟨x0, -⟩ := hs
                have e0 : aF.eval (.tmp 12) = .int .i64 (k : Int) := x0
                exact opC_move e0 ⟨rfl, below_same wF⟩
              refine ⟨step_free rfl (fun aF wF hs hb => ?_), ?_⟩
              · obtain ⟨x0, -⟩ := hs
                have e0 : aF.eval (.tmp 60) = .int .i64 (k : Int) := x0
                refine opC_value (v := .int .i64 (KA : Int)) ?_ ⟨rfl, below_same wF⟩
                have t0 := ev_of e0
                simp [execOp, go_sem, t0, hKA3]
              refine ⟨step_free rfl (fun aF wF hs hb => ?_), ?_⟩
              · obtain ⟨x0, -⟩ := hs
                have e0 : aF.eval (.tmp 13) = .slice p.A p.l.length p.c := x0
                exact opC_move e0 ⟨rfl, below_same wF⟩
              refine ⟨step_free rfl (fun aF wF hs hb => ?_), ?_⟩
              · obtain ⟨x0, -⟩ := hs
                have e0 : aF.eval (.tmp 62) = .slice p.A p.l.length p.c := x0
                exact opC_callF (args := #[.slice p.A p.l.length p.c, .int .i64 240]) (enters_of Tryd.func8 (by kernel_rfl) rfl) (by simp [e0]; rfl) (F := qF wr.heap.size 240) (cC2 wF hb) (fun _ _ h1 h2 => ⟨h1, h2⟩)
              refine ⟨step_free rfl (fun aF wF hs hb => ?_), ?_⟩
              · obtain ⟨x0, x1, x2, -⟩ := hs
                have e0 : aF.eval (.tmp 59) = .int .u32 (GA : Int) := x0
                have e1 : aF.eval (.tmp 61) = .int .i64 (KA : Int) := x1
                obtain ⟨A9, c9, l9, e2, h92, -, h94⟩ : (qF wr.heap.size 240).p (aF.eval (.tmp 63)) wF := x2
                exact opC_callF (args := #[.int .u32 (GA : Int), .int .i64 (KA : Int), .slice A9 l9.length c9]) (enters_of Tryd.func9 (by kernel_rfl) rfl) (by simp [e0, e1, e2]) (F := lF wr.heap.size) (cL wF hb A9 c9 l9 h92 h94) (fun _ _ h1 h2 => ⟨h1, h2⟩)
              refine ⟨step_free rfl (fun aF wF hs hb => ?_), ?_⟩
              · obtain ⟨x0, -⟩ := hs
                obtain ⟨q9, n9, c9, u9, e0, h91, h92, h93, h94⟩ : (lF wr.heap.size).p (aF.eval (.tmp 64)) wF := x0
                refine opC_value (v := .pointer (some ⟨q9, 0, none⟩)) ?_ ⟨⟨q9, u9, rfl, h92, h93, h94⟩, below_same wF⟩
                have t0 := ev_of e0
                simp [execOp, go_sem, t0, h91]
              refine ⟨step_free rfl (fun aF wF hs hb => ?_), ?_⟩
              · obtain ⟨x0, -⟩ := hs
                obtain ⟨q9, u9, e0, h92, h93, h94⟩ : (pF wr.heap.size).p (aF.eval (.tmp 65)) wF := x0
                exact opC_load e0 (by go_simp) ⟨qF.of_row h94, below_same wF⟩
              refine ⟨step_free rfl (fun aF wF hs hb => ?_), ?_⟩
              · obtain ⟨x0, -⟩ := hs
                have y0 : (qF wr.heap.size 256).p (aF.eval (.tmp 66)) wF := x0
                exact opC_assign rfl ⟨y0, below_same wF⟩
              exact trivial
            · intro fv w9 hf hb9
              have hq9 : (qF wr.heap.size 256).p (fv 13) w9 := hf 13 14 rfl
              simp only [putF, Act.put, List.setIfInBounds_toArray, List.set_cons_zero, List.set_cons_succ]
              obtain ⟨v9, hv9⟩ : ∃ v, fv 13 = v := ⟨_, rfl⟩
              rw [hv9] at hq9 ⊢
              have hb59 := H5.out.2.trans (hb9.mono H5.out.2.size)
              have s3 := HU3.out w9 (HD.out.2.2.2.trans (hb59.mono HD.out.2.2.2.size))
              have H9 := Lib.hid (And.intro hq9 hb59)
              clear hf hb9 hv9 hq9 hb59 LG cC2 cL
              by_cases hG3 : G % 3 = 0
              · have hG31 : (G : Int) % 3 = 0 := by omega
                obtain ⟨GB, hGB⟩ : ∃ x, G % 8 = x := ⟨_, rfl⟩
                have hGB1 : (G : Int) % 8 = (GB : Int) := by omega
                have hGB2 : IntKind.u32.wrap (GB : Int) = (GB : Int) := by rw [IntKind.wrap_u32]; omega
                have cHd := RHead_any GB (by omega) w9
                clear hG3 hGB
                go_wp2_with fail
                refine cHd.mono ?_
                rintro e wH ⟨bH, rfl, hoH, hbH⟩
                have hq10 : (qF wr.heap.size 256).p (.slice (some ⟨bH, 0, none⟩) 256 256) wH := by
                  have hh := own_form hoH
                  obtain ⟨hl9, A', c', e', -, -, hr⟩ := hh
                  injection e' with e1 e2 e3
                  subst e1
                  exact ⟨_, 256, headL GB, by rw [hl9], by omega, fun b q e => Nat.le_trans H9.out.2.size (own_past hoH b q e), hr⟩
                have HX := Lib.hid (And.intro hq10 (H9.out.2.trans (hbH.mono H9.out.2.size)))
                clear cHd hoH hbH hq10 s3
                obtain ⟨vH, hvH⟩ : ∃ v, (Value.slice (some ⟨bH, 0, none⟩) 256 256) = v := ⟨_, rfl⟩
                rw [hvH] at HX ⊢
                clear hvH
                obtain ⟨Aq, cq, lq, rfl, hlq, hAq, hRq⟩ := HX.out.1
                have s2 := HU2.out wH (HD.out.2.2.1.trans (HX.out.2.mono HD.out.2.2.1.size))
                have hd5 := HD.out.1.below HX.out.2
                have hqb : (lq.length : Int) ≤ 256 := by omega
                obtain ⟨iw, hiw⟩ : ∃ i, u2.toNat % S = i := ⟨_, rfl⟩
                have hiS : iw < S := by rw [← hiw]; exact Nat.mod_lt _ (by have := HS.out; omega)
                have hmod : ((u2.toNat : Nat) : Int) % (S : Int) = (iw : Int) := by rw [← hiw]; omega
                have hmod2 : Int.tmod ((u2.toNat : Nat) : Int) (S : Int) = (iw : Int) := by rw [Int.tmod_eq_emod_of_nonneg (by omega)]; exact hmod
                have hu2b : ((u2.toNat : Nat) : Int) < 256 := by have := Crc.u8_lt u2; omega
                have cW := Write_dr (n := lq.length) hd5 (by decide) (by decide) iw cq (by rw [HF.out]; exact hiS) (RdK.of_new (B := wr.heap.size) hRq hAq HD.out.1.lt) rfl hlq (by have := HD.out.2.1; omega)
                rw [show less (-1) = -1 from rfl] at cW
                have HI := Lib.hid hlq
                clear hd5 hiw hlq hAq hRq
                go_wp2_with fail
                refine cW.mono ?_
                rintro e w6 ⟨rfl, o6, hd6, hk6, -⟩
                have hb6 : Below w1.heap.size w1 w6 := by
                  have hb5 := HD.out.2.2.1.trans (HX.out.2.mono HD.out.2.2.1.size)
                  exact kept_below hk6 hb5 hb5.size HD.out.1.ge
                have H6 := Lib.hid (And.intro hd6 hb6)
                clear cW hd6 hk6 hb6
                go_wp2_with fail
                go_roundw
                case rel => exact ⟨k + 1, by have := HK.out.1; omega, congrArg (Value.int .i64) (by omega), o6, _, H6.out.1, by have := HD.out.2.1; have := HK.out.2; simp; omega, H6.out.2⟩
                case measure => have := HK.out.1; simp [intOf]; omega
              · have hG31 : ¬ (G : Int) % 3 = 0 := by omega
                clear hG3
                obtain ⟨Aq, cq, lq, rfl, hlq, hAq, hRq⟩ := H9.out.1
                have s2 := HU2.out w9 (HD.out.2.2.1.trans (H9.out.2.mono HD.out.2.2.1.size))
                have hd5 := HD.out.1.below H9.out.2
                have hqb : (lq.length : Int) ≤ 256 := by omega
                obtain ⟨iw, hiw⟩ : ∃ i, u2.toNat % S = i := ⟨_, rfl⟩
                have hiS : iw < S := by rw [← hiw]; exact Nat.mod_lt _ (by have := HS.out; omega)
                have hmod : ((u2.toNat : Nat) : Int) % (S : Int) = (iw : Int) := by rw [← hiw]; omega
                have hmod2 : Int.tmod ((u2.toNat : Nat) : Int) (S : Int) = (iw : Int) := by rw [Int.tmod_eq_emod_of_nonneg (by omega)]; exact hmod
                have hu2b : ((u2.toNat : Nat) : Int) < 256 := by have := Crc.u8_lt u2; omega
                have cW := Write_dr (n := lq.length) hd5 (by decide) (by decide) iw cq (by rw [HF.out]; exact hiS) (RdK.of_new (B := wr.heap.size) hRq hAq HD.out.1.lt) rfl hlq (by have := HD.out.2.1; omega)
                rw [show less (-1) = -1 from rfl] at cW
                have HI := Lib.hid hlq
                clear hd5 hiw hlq hAq hRq
                go_wp2_with fail
                refine cW.mono ?_
                rintro e w6 ⟨rfl, o6, hd6, hk6, -⟩
                have hb6 : Below w1.heap.size w1 w6 := by
                  have hb5 := HD.out.2.2.1.trans (H9.out.2.mono HD.out.2.2.1.size)
                  exact kept_below hk6 hb5 hb5.size HD.out.1.ge
                have H6 := Lib.hid (And.intro hd6 hb6)
                clear cW hd6 hk6 hb6
                go_wp2_with fail
                go_roundw
                case rel => exact ⟨k + 1, by have := HK.out.1; omega, congrArg (Value.int .i64) (by omega), o6, _, H6.out.1, by have := HD.out.2.1; have := HK.out.2; simp; omega, H6.out.2⟩
                case measure => have := HK.out.1; simp [intOf]; omega
          · have hk32 : ¬ (k : Int) < (n3 : Int) := by omega
            clear hk3
            obtain ⟨Aq, cq, lq, rfl, hlq, hAq, hRq⟩ := H5.out.1
            have s2 := HU2.out w5 (HD.out.2.2.1.trans (H5.out.2.mono HD.out.2.2.1.size))
            have hd5 := HD.out.1.below H5.out.2
            have hqb : (lq.length : Int) ≤ 256 := by omega
            obtain ⟨iw, hiw⟩ : ∃ i, u2.toNat % S = i := ⟨_, rfl⟩
            have hiS : iw < S := by rw [← hiw]; exact Nat.mod_lt _ (by have := HS.out; omega)
            have hmod : ((u2.toNat : Nat) : Int) % (S : Int) = (iw : Int) := by rw [← hiw]; omega
            have hmod2 : Int.tmod ((u2.toNat : Nat) : Int) (S : Int) = (iw : Int) := by rw [Int.tmod_eq_emod_of_nonneg (by omega)]; exact hmod
            have hu2b : ((u2.toNat : Nat) : Int) < 256 := by have := Crc.u8_lt u2; omega
            have cW := Write_dr (n := lq.length) hd5 (by decide) (by decide) iw cq (by rw [HF.out]; exact hiS) (RdK.of_new (B := wr.heap.size) hRq hAq HD.out.1.lt) rfl hlq (by have := HD.out.2.1; omega)
            rw [show less (-1) = -1 from rfl] at cW
            have HI := Lib.hid hlq
            clear hd5 hiw hlq hAq hRq
            go_wp2_with fail
            refine cW.mono ?_
            rintro e w6 ⟨rfl, o6, hd6, hk6, -⟩
            have hb6 : Below w1.heap.size w1 w6 := by
              have hb5 := HD.out.2.2.1.trans (H5.out.2.mono HD.out.2.2.1.size)
              exact kept_below hk6 hb5 hb5.size HD.out.1.ge
            have H6 := Lib.hid (And.intro hd6 hb6)
            clear cW hd6 hk6 hb6
            go_wp2_with fail
            go_roundw
            case rel => exact ⟨k + 1, by have := HK.out.1; omega, congrArg (Value.int .i64) (by omega), o6, _, H6.out.1, by have := HD.out.2.1; have := HK.out.2; simp; omega, H6.out.2⟩
            case measure => have := HK.out.1; simp [intOf]; omega
        · have hk22 : ¬ (k : Int) < (n2 : Int) := by omega
          clear hd hws hbw hbw0 hlt hk2 hp hpl hpm hpr h8
          go_wp2_with fail
          go_roundw
          case rel => exact ⟨k + 1, by omega, congrArg (Value.int .i64) (by omega), o, ws, HD.out.1, by have := HD.out.2.1; omega, HD.out.2.2.1⟩
          case measure => simp [intOf]; omega
      · have h82 : ¬ (k : Int) < 8 := by omega
        clear hd hws hbw hbw0 hlt h8 hp hpl hpm hpr
        go_wp2_with fail
        go_roundw
        case rel => exact ⟨k + 1, by omega, congrArg (Value.int .i64) (by omega), o, ws, HD.out.1, by have := HD.out.2.1; omega, HD.out.2.2.1⟩
        case measure => simp [intOf]; omega
    · have hlt2 : ¬ (k : Int) < (n1 : Int) := by omega
      have cO := open_first (w0 := w1) hd (by rw [HF.out]; exact HS.out.1) (by rw [HF.out]; have := HS.out; omega) (by omega) hbw.size hbw
      clear hd hws hbw hlt
      go_wp2_with fail
      refine cO.mono ?_
      rintro e wA (⟨k9, hk9, rfl, hbA⟩ | ⟨r, own, g, L, fl', ws', rfl, hRl, hFn, hl', hws', hge, hbA⟩)
      · have HA := Lib.hid (HB1.out.trans (hbA.mono HB1.out.size))
        have cz := Code_errno k9 wA (HL.out.below HA.out)
        clear cO hbA
        go_wp2_with fail
        refine cz.mono ?_
        rintro e wB ⟨rfl, hbB⟩
        have HB := Lib.hid (HA.out.trans (hbB.mono HA.out.size))
        clear cz hbB
        rcases hk9 with rfl | rfl | rfl
        all_goals
          go_wp2_with fail
          go_ret
          exact ⟨rfl, HB.out⟩
      · have hFl : fl'.length = S := hl'.trans HF.out
        have cO2 := open_again hRl hFn (by rw [hFl]; have := HS.out; omega) hws' hge hbA.size
        have HA := Lib.hid (And.intro hbA hFl)
        clear cO hRl hFn hl' hws' hge hbA hFl
        go_wp2_with fail
        refine cO2.mono ?_
        rintro e wB ⟨s, fl2, ws2, rfl, h2, hl2, hbw2⟩
        have hbB := hbw2 w1 HA.out.1
        have cM := h2.room
        have hub := h2.2.2.1.2.2.2.2.1
        obtain ⟨H, hH⟩ : ∃ H, halfN fl2.length = H := ⟨_, rfl⟩
        have hHS : H = (S - 2) / 2 := by rw [← hH, hl2, HA.out.2]; rfl
        obtain ⟨U, hU⟩ : ∃ U, usedN L = U := ⟨_, rfl⟩
        rw [hH, hU] at cM hub
        obtain ⟨M, hM⟩ : ∃ M, H - U = M := ⟨_, rfl⟩
        have hMi : (H : Int) - (U : Int) = (M : Int) := by omega
        rw [hMi] at cM
        have hq1 : Int.tdiv ((S : Int) - 2) 2 = (H : Int) := by rw [Int.tdiv_eq_ediv_of_nonneg (by omega)]; omega
        have hq2 : ((S : Int) - 2) / 2 = (H : Int) := by omega
        have hHb : (H : Int) ≤ 11 := by omega
        have hMb : (M : Int) ≤ 11 := by omega
        have HH := Lib.hid (And.intro hH (And.intro hU (And.intro hM hub)))
        have H2B := Lib.hid (And.intro h2 hbB)
        clear cO2 h2 hl2 hbw2 hbB hH hU hM hHS hub hMi
        go_wp2_with fail
        refine cM.mono ?_
        rintro e wC ⟨rfl, hbC⟩
        have HC := Lib.hid (And.intro (H2B.out.1.below hbC) (H2B.out.2.trans (hbC.mono H2B.out.2.size)))
        clear cM hbC
        go_wp2_with fail
        go_loopw [21, 124] (fun _ i wy => ∃ k2 : Nat, k2 ≤ M ∧ i = .int .i64 (k2 : Int) ∧ Two wy w1.heap.size d r s g L fl2 ws2 ∧ Below w1.heap.size w1 wy) (fun _ i _ => M - (intOf i).toNat)
        case atStart => exact ⟨0, Nat.zero_le _, rfl, HC.out.1, HC.out.2⟩
        case round =>
          obtain ⟨k2, hk2, rfl, h2, hby⟩ := hrel
          by_cases hlk : k2 < M
          · have hlk2 : (k2 : Int) < (M : Int) := by omega
            have cG := h2.gen
            have cCl := fun x hx => h2.clean (H - 1 - k2) (by have := HH.out; omega) (by have := HH.out; omega) x hx
            have HY := Lib.hid (And.intro h2 hby)
            have hst : startN fl2.length g = 2 + H * (g % 2) := by unfold startN; rw [HH.out.1]
            have HST := Lib.hid (And.intro hst (And.intro hlk (show M ≤ H by have := HH.out; omega)))
            clear h2 hby hlk hst
            rcases Nat.mod_two_eq_zero_or_one g with hg | hg
            · have hgi : (g : Int) % 2 = 0 := by omega
              go_wp2_with fail
              refine cG.mono ?_
              rintro e wD ⟨rfl, hwD⟩
              subst hwD
              clear cG
              go_wp2_with fail
              refine (cCl _ (by have h := HST.out; rw [hg] at h; omega)).mono ?_
              rintro e wE ⟨rfl, hwE⟩
              subst hwE
              clear cCl
              go_wp2_with fail
              go_roundw
              case rel => exact ⟨k2 + 1, by have := HST.out; omega, congrArg (Value.int .i64) (by omega), HY.out.1, HY.out.2⟩
              case measure => have := HST.out; simp [intOf]; omega
            · have hgi : (g : Int) % 2 = 1 := by omega
              go_wp2_with fail
              refine cG.mono ?_
              rintro e wD ⟨rfl, hwD⟩
              subst hwD
              clear cG
              go_wp2_with fail
              refine (cCl _ (by have h := HST.out; rw [hg] at h; omega)).mono ?_
              rintro e wE ⟨rfl, hwE⟩
              subst hwE
              clear cCl
              go_wp2_with fail
              go_roundw
              case rel => exact ⟨k2 + 1, by have := HST.out; omega, congrArg (Value.int .i64) (by omega), HY.out.1, HY.out.2⟩
              case measure => have := HST.out; simp [intOf]; omega
          · have hlk2 : ¬ (k2 : Int) < (M : Int) := by omega
            have HY := Lib.hid (And.intro h2 (And.intro hby h2.bounds))
            have cR := h2.records
            have hLn : L ≠ [] := h2.2.2.1.2.2.2.1
            obtain ⟨n9, hn9⟩ : ∃ n, L.length = n := ⟨_, rfl⟩
            have hn0 : (0 : Int) < (n9 : Int) := by
              have : L.length ≠ 0 := fun e => hLn (List.eq_nil_of_length_eq_zero e)
              omega
            have hn00 : 0 < n9 := by omega
            have HN9 := Lib.hid hn9
            clear h2 hby hlk hLn hn9
            go_wp2_with fail
            refine cR.mono ?_
            rintro e wD ⟨qD, vsD, rfl, -, hrecD, hbD⟩
            rw [HN9.out]
            obtain ⟨rsD, hLD, hlsD⟩ := recs_lst hrecD HY.out.2.2.1
            have cR2 := (HY.out.1.swap.below hbD).records
            have HD9 := Lib.hid (And.intro hLD (And.intro hlsD hbD))
            clear cR hrecD hLD hlsD hbD
            go_wp2_with fail
            refine cR2.mono ?_
            rintro e wE ⟨qE, vsE, rfl, -, hrecE, hbE⟩
            rw [HN9.out]
            obtain ⟨rsE, hLE, hlsE⟩ := recs_lst hrecE HY.out.2.2.1
            have hsm : ∀ (rs : List Rw), lsOf rs = L → ∀ r ∈ rs, r.l.length ≤ 1000000 := fun rs h r hr => by
              have hm : r.l ∈ lsOf rs := List.mem_map_of_mem hr
              rw [h] at hm
              exact HY.out.2.2.2.1 _ hm
            have cS := RSame_any (HD9.out.1.below hbE) hLE (by have := HY.out.2.2.1; omega) (by have := HY.out.2.2.1; omega) (hsm _ HD9.out.2.1) (hsm _ hlsE)
            rw [decide_eq_true (HD9.out.2.1.trans hlsE.symm), HN9.out] at cS
            have HE := Lib.hid (HD9.out.2.2.trans (hbE.mono HD9.out.2.2.size))
            clear cR2 hrecE hLE hlsE hbE hsm
            go_wp2_with fail
            refine cS.mono ?_
            rintro e wF ⟨rfl, hbF⟩
            have h2F := HY.out.1.below (HE.out.trans (hbF.mono HE.out.size))
            have cG := h2F.gen
            have cG2 := h2F.swap.gen
            have cM := h2F.room
            have HF9 := Lib.hid (And.intro h2F (HY.out.2.1.trans ((HE.out.trans (hbF.mono HE.out.size)).mono HY.out.2.1.size)))
            obtain ⟨M9, hM9⟩ : ∃ M, ((halfN fl2.length : Nat) : Int) - ((usedN L : Nat) : Int) = M := ⟨_, rfl⟩
            rw [hM9] at cM
            have HM9 := Lib.hid hM9
            clear cS hbF h2F hM9
            go_wp2_with fail
            refine cG.mono ?_
            rintro e wG ⟨rfl, hwG⟩
            subst hwG
            clear cG
            go_wp2_with fail
            refine cG2.mono ?_
            rintro e wG2 ⟨rfl, hwG⟩
            subst hwG
            clear cG2
            go_wp2_with fail
            refine cM.mono ?_
            rintro e wH ⟨rfl, hbH⟩
            have h2H := HF9.out.1.below hbH
            have cM2 := h2H.swap.room
            rw [HM9.out] at cM2
            have HH9 := Lib.hid (And.intro h2H (HF9.out.2.trans (hbH.mono HF9.out.2.size)))
            clear cM hbH h2H
            go_wp2_with fail
            refine cM2.mono ?_
            rintro e wI ⟨rfl, hbI⟩
            have cN9 := (HH9.out.1.below hbI).count
            rw [HN9.out] at cN9
            have HI9 := Lib.hid (HB1.out.trans ((HH9.out.2.trans (hbI.mono HH9.out.2.size)).mono HB1.out.size))
            clear cM2 hbI
            go_wp2_with fail
            refine cN9.mono ?_
            rintro e wJ ⟨rfl, hwJ⟩
            subst hwJ
            clear cN9
            go_wp2_with fail
            go_ret
            exact ⟨rfl, HI9.out⟩
end
end Go.Proofs.YtbaenpgjggojaaaDoor
