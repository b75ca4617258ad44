/-
ReelLays, walked. Conditions: the lists are there.
-/
import Derived.Test.YtbaenpgjggojaaaRlAlZ9
import Derived.Test.YtbaenpgjggojaaaRlGoZ9
namespace Go.Proofs.Ytbaenpgjggojaaa
open Go.ChangeShapes Go.WideShapes Go.RowKit

section
variable {W : World} {base d r g : Nat} {own : Nat → Prop} {fl : List (List UInt8)} {ws : List (Nat × List UInt8)} {Ls : List (List UInt8)}
theorem Sg.kept9 {W' : World} {K : Nat → Prop} (h : Sg W base d r g own fl ws Ls) (hk : Kept K W W') (hn : ∀ i, own i → ¬ K i) : Sg W' base d r g own fl ws Ls := by
  obtain ⟨o, R, c, vals, hd, hh, hoff, e⟩ := h.rl
  subst e
  refine ⟨⟨o, R, c, vals, hd.keep hk fun i hi => hn i (.inl hi), hh.keepO hk ⟨hn r (.inr (.inl rfl)), fun q hq => hn q (.inr (.inr (.inl hq))), fun v hv q hq => hn q (.inr (.inr (.inr ⟨v, hv, hq⟩)))⟩, hoff, rfl⟩, h.good, h.far, h.few, h.cnt⟩
theorem Sg.lt9 (h : Sg W base d r g own fl ws Ls) : r < W.heap.size := by
  obtain ⟨o, R, c, vals, hd, hh, -⟩ := h.rl
  exact hh.1.lt
theorem secs_256 (g : Nat) (L : List (List UInt8)) : ∀ k, ∀ s ∈ secsL g k L, s.length = 256 := by
  induction L with
  | nil => intro k s hs; cases hs
  | cons p L ih =>
    intro k s hs
    rcases List.mem_append.1 hs with hs | hs
    · obtain ⟨i, -, rfl⟩ := List.mem_map.1 hs
      exact sector_len _ _
    · exact ih (k + 1) s hs
def ReadPost (W : World) (l : List UInt8) (e : Ending) (w' : World) : Prop := ∃ q, e = .returned (.tuple #[.slice (some ⟨q, 0, none⟩) 256 256, .nilIface]) ∧ Rd w' w'.heap.size (some ⟨q, 0, none⟩) l ∧ Below W.heap.size W w'
theorem read_post {l : List UInt8} {e : Ending} {w' : World} (h1 : e = .returned (.tuple #[.slice (some ⟨W.heap.size, 0, none⟩) 256 256, .nilIface])) (h2 : Blk w' W.heap.size 5 (l.map enc8).toArray) (h3 : Below W.heap.size W w') : ReadPost W l e w' :=
  ⟨W.heap.size, h1, Blk.rd h2 h2.lt fun j u hu => by rw [Nat.zero_add, List.getElem?_toArray, List.getElem?_map, hu]; rfl, h3⟩
theorem Sg.read (h : Sg W base d r g own fl ws Ls) (i : Nat) (hi : i < halfN fl.length) (x : Int) (hx : x = ((startN fl.length g + i : Nat) : Int)) :
    Calls Try.prog 14 #[.pointer (some ⟨d, 0, none⟩), .int .i64 x] W (ReadPost W ((secsL g 0 Ls).getD i zeros)) := by
  obtain ⟨o, hd, -⟩ := h.dr
  have hb := half_bounds fl.length g h.good.2.2.1
  have hst := h.good.2.2.2.2.2.2.2.2 i hi
  subst hx
  refine (Read_dr hd _ (by omega)).mono ?_
  rintro e w' ⟨h1, h2, h3⟩
  rw [hst] at h2
  exact read_post h1 h2 h3
theorem Sg.head (h : Sg W base d r g own fl ws Ls) (x : Int) (hx : x = ((g % 2 : Nat) : Int)) :
    Calls Try.prog 14 #[.pointer (some ⟨d, 0, none⟩), .int .i64 x] W (ReadPost W (headL g)) := by
  obtain ⟨o, hd, -⟩ := h.dr
  have h6 := h.good.2.2.1
  have hst := h.good.2.2.2.2.1
  subst hx
  refine (Read_dr hd _ (by omega)).mono ?_
  rintro e w' ⟨h1, h2, h3⟩
  rw [hst] at h2
  exact read_post h1 h2 h3
theorem Sg.clean (h : Sg W base d r g own fl ws Ls) (i : Nat) (h1 : usedN Ls ≤ i) (hi : i < halfN fl.length) (x : Int) (hx : x = ((startN fl.length g + i : Nat) : Int)) :
    Calls Try.prog 16 #[.pointer (some ⟨d, 0, none⟩), .int .i64 x] W fun e w' => e = .returned (.bool true) ∧ w' = W := by
  obtain ⟨o, hd, -⟩ := h.dr
  have hb := half_bounds fl.length g h.good.2.2.1
  have hst := h.good.2.2.2.2.2.2.2.2 i hi
  rw [List.getD_eq_getElem?_getD, List.getElem?_eq_none (by rw [secsL_len]; exact h1)] at hst
  have hst : now fl ws (startN fl.length g + i) = zeros := hst
  have k := Clean_dr hd (startN fl.length g + i) (by omega)
  rw [hst, decide_eq_true rfl] at k
  subst hx
  exact k
theorem Gath.row {B c : Nat} {own : Nat → Prop} {A : Option Addr} {vals : List Value} (h : Gath B own A c vals Ls W) (k : Nat) (b : List UInt8) (hb : Ls[k]? = some b) : ∃ q Ar cr, A = some ⟨q, 0, Option.none⟩ ∧ W.cell? ⟨q, k, Option.none⟩ = some (.slice Ar b.length cr) ∧ Rd W W.heap.size Ar b := by
  obtain ⟨h1, h2, h3, h4⟩ := h
  have hk := (List.getElem?_eq_some_iff.1 hb).1
  obtain ⟨v, hv⟩ : ∃ v, vals[k]? = some v := ⟨_, List.getElem?_eq_getElem (by omega)⟩
  obtain ⟨-, Ar, cr, rfl, -, -, hr⟩ := own_form (h4 k v b hv hb).1
  obtain ⟨q, cap, e1, -, -⟩ := World.ownsRow.form h1 (by omega)
  injection e1 with e1 e2 e3
  subst e1
  have hc := World.ownsRow.cells h1 (g := q) rfl k _ hv
  exact ⟨q, Ar, cr, rfl, by simpa [go_sem] using hc, hr⟩
/-- Records' list, as a list that is gathered. -/
theorem recs_gath {q : Nat} {vs : List Value} {W' : World} (h : Recs W.heap.size q Ls vs W') (hq : W.heap.size ≤ q) (hL : Ls.length ≤ 1000) (hlt : ∀ i, own i → i < W.heap.size) : Gath W.heap.size own (some ⟨q, 0, none⟩) Ls.length vs Ls W' := by
  obtain ⟨h1, h2, h3⟩ := h
  refine ⟨⟨by simp [h2], .inr ⟨q, Ls.length, _, rfl, hq, h1, Nat.le_refl _, by unfold maxLen; omega, by simp [h2], ?_⟩⟩, h2, fun z hz e => ?_, fun i v b hv hb => ?_⟩
  · show List.take (Ls.length * 1) vs = vs
    exact List.take_of_length_le (by omega)
  · simp [Value.ownBlock] at hz
    have := hlt z e
    omega
  · obtain ⟨g1, g2⟩ := h3 i v b hv hb
    refine ⟨g1, fun z hz => ⟨fun e => ?_, fun e => g2 (by simp [Value.ownBlock] at e; rw [hz, e])⟩⟩
    have := (World.ownsRow.lt g1 z hz).1
    have := hlt z e
    omega
end
/-- Between two rounds. -/
def LyRel (w w1 : World) (d r g S k : Nat) (va : Value) (W : World) : Prop :=
  ∃ own fl ws Ls A c vals, va = .slice A Ls.length c ∧ Sg W w1.heap.size d r g own fl ws Ls ∧ fl.length = S ∧ Ls.length ≤ 1 + min k 9 ∧ ws.length ≤ 3 * min k 9 ∧ Gath w.heap.size own A c vals Ls W ∧ Below w.heap.size w W
theorem pages_mid9 (n : Nat) (h : n ≤ 700) : pagesN n ≤ 3 ∧ 1 ≤ pagesN n := by unfold pagesN; omega
theorem ly_more {w w1 W6 W9 : World} {d r g S k : Nat} {P : List UInt8} {A5 : Option Addr} {c5 : Nat} {v9 : Value} {own6 : Nat → Prop} {fl : List (List UInt8)} {ws : List (Nat × List UInt8)} {Ls : List (List UInt8)} {A : Option Addr} {c : Nat} {vals : List Value}
    (sg6 : Sg W6 w1.heap.size d r g own6 fl ws (Ls ++ [P])) (h1 : fl.length = S) (h2 : Ls.length ≤ 1 + min k 9) (hk : k < 9) (h4 : ws.length ≤ 3 * min k 9 + 3) (hga6 : Gath w.heap.size own6 A c vals Ls W6) (hb6 : Below w.heap.size w W6) (hP6 : OwnB W6 w.heap.size (.slice A5 P.length c5) P.length P) (hPo6 : ∀ q, (Value.slice A5 P.length c5).ownBlock = some q → ¬ own6 q ∧ (Value.slice A Ls.length c).ownBlock ≠ some q)
    (hown9 : OwnR W9 w.heap.size v9 (Ls.length + 1) (vals ++ [.slice A5 P.length c5])) (hg9 : (W6.alloc (.cells #[.slice A5 P.length c5] 35)).grownBy W9 (Value.slice A Ls.length c).ownBlock)
    (hloc9 : v9.ownBlock = (Value.slice A Ls.length c).ownBlock ∨ v9.ownBlock = some (W6.alloc (.cells #[.slice A5 P.length c5] 35)).heap.size) : LyRel w w1 d r g S (k + 1) v9 W9 := by
  obtain ⟨A9, c9, rfl, hga9, hk9⟩ := hga6.more sg6.rl.lt hP6 hPo6 hown9 hg9 hloc9
  refine ⟨own6, fl, ws, Ls ++ [P], A9, c9, _, by simp, sg6.kept9 hk9 (fun i hi e => hga6.2.2.1 i e hi), h1, by simp; omega, by omega, hga9, kept_below hk9 hb6 hb6.size fun i hi => (World.ownsRow.lt hga6.1 i hi).1⟩
section
variable {w : World} {N n1 c1 n2 c2 : Nat} {A1 A2 : Option Addr} {rs1 : List Rw} {bl : List Bool} {bt : Bool}
set_option maxRecDepth 100000 in
set_option maxHeartbeats 8000000 in
theorem RLays_any (_hn : N < 256) (hl1 : rs1.length = n1) (hc1 : n1 ≤ maxLen) (hC1 : Cs w w.heap.size A1 (rs1.map Rw.val)) (hI1 : RwsIn w w.heap.size rs1) (hl2 : bl.length = n2) (hc2 : n2 ≤ maxLen) (hR2 : Rb w w.heap.size A2 bl) :
    Calls Try.prog 3 #[.int .u8 (N : Int), .slice A1 n1 c1, .slice A2 n2 c2, .bool bt] w fun e w' => e = .returned (.bool true) ∧ Below w.heap.size w w' := by
  have cA := awake15 w
  obtain ⟨S, hS⟩ : ∃ S, 20 + N % 30 = S := ⟨_, rfl⟩
  have hS2 : 20 ≤ S ∧ S ≤ 49 := by omega
  have hSi : (20 : Int) + (N : Int) % 30 = (S : Int) := by omega
  obtain ⟨H, hH⟩ : ∃ H, halfN S = H := ⟨_, rfl⟩
  have hHS : H = (S - 2) / 2 := hH.symm
  have hq1 : Int.tdiv ((S : Int) - 2) 2 = (H : Int) := by rw [Int.tdiv_eq_ediv_of_nonneg (by omega)]; omega
  have hq2 : ((S : Int) - 2) / 2 = (H : Int) := by omega
  have hHb : (H : Int) ≤ 23 := by omega
  have hSb : (S : Int) ≤ 49 := by omega
  have hSc : (20 : Int) ≤ (S : Int) := by omega
  have hnb1 : (n1 : Int) ≤ 9223372036854775807 := by unfold maxLen at hc1; omega
  have hnb2 : (n2 : Int) ≤ 9223372036854775807 := by unfold maxLen at hc2; omega
  have HL1 := Lib.hid (And.intro hl1 (And.intro hC1 hI1))
  have HL2 := Lib.hid (And.intro hl2 hR2)
  have HS := Lib.hid (And.intro hS2 (And.intro hH (show 9 ≤ H by omega)))
  clear hl1 hc1 hC1 hI1 hl2 hc2 hR2 hS hS2 hH hHS
  go_enter Try.func3, Try.ntmps3
  go_wp2_with fail
  refine cA.mono ?_
  rintro e w1 ⟨rfl, hb1⟩
  have HB1 := Lib.hid hb1
  have cN := New_dr S (by have := HS.out; omega) (by have := HS.out; omega) w1
  clear cA hb1
  go_wp2_with fail
  refine cN.mono ?_
  rintro e w2 ⟨d, o2, rfl, hd2, hb2⟩
  have hlen : (List.replicate S zeros).length = S := List.length_replicate
  have cM := make_sg (base := w1.heap.size) (o := o2) (b := []) (m := 0) (q := 0) (A := none) (av := fun _ => False) hd2 hb2.size (by rw [hlen]; have := HS.out; omega) (by rw [hlen]; have := HS.out; omega) (by decide) (rdq_nil _ _ _) (fun i hi _ => hi) rfl (Nat.le_refl _) (by decide) (by
    rw [hlen, HS.out.2.1]
    unfold fitsN
    rw [if_neg (by decide), if_neg (by rw [pages_small 0 (by decide)]; have := HS.out; omega)])
  have hge := hd2.ge
  have HB2 := Lib.hid (And.intro (HB1.out.trans (hb2.mono HB1.out.size)) (And.intro hge hlen))
  clear cN hd2 hb2 hlen hge
  go_wp2_with fail
  refine cM.mono ?_
  rintro e w3 ⟨r, own3, fl3, rfl, hr3, hl3, sg3, ks3⟩
  have hb3 : Below w.heap.size w w3 := kept_below ks3.1 HB2.out.1 HB2.out.1.size (fun i hi => Nat.le_trans HB1.out.size (HB2.out.2.1 i hi))
  have hl3 := hl3.trans HB2.out.2.2
  rcases bt with _ | _
  · have H3 := Lib.hid (And.intro sg3 (And.intro hl3 hb3))
    have cR := sg3.records
    clear cM hr3 hl3 sg3 ks3 hb3
    go_wp2_with fail
    refine cR.mono ?_
    rintro e w6 ⟨q6, vs6, rfl, hq6, hrec6, hb6⟩
    have hga := recs_gath hrec6 hq6 (by simp) H3.out.1.rl.lt
    have H6 := Lib.hid (show LyRel w w1 d r 1 S 0 (.slice (some ⟨q6, 0, none⟩) 1 1) w6 from ⟨_, _, _, [[]], _, _, _, rfl, H3.out.1.below hb6, H3.out.2.1, by simp, by simp, hga.low H3.out.2.2.size, H3.out.2.2.trans (hb6.mono H3.out.2.2.size)⟩)
    rw [show ([[]] : List (List UInt8)).length = 1 from rfl]
    clear cR hq6 hrec6 hb6 hga
    go_wp2_with fail
    go_loopw [16, 17, 18, 56] (fun va _ _ i wr => ∃ k : Nat, k ≤ n1 ∧ i = .int .i64 (k : Int) ∧ LyRel w w1 d r 1 S k va wr) (fun _ _ _ i _ => n1 - (intOf i).toNat)
    case atStart => exact ⟨0, Nat.zero_le _, rfl, H6.out⟩
    case round =>
      obtain ⟨k, hk, rfl, hly⟩ := hrel
      have hkb : (k : Int) ≤ 9223372036854775807 := by omega
      have hbw : Below w.heap.size w wr := by
        obtain ⟨own, fl, ws, Ls, A, c, vals, -, -, -, -, -, -, h⟩ := hly
        exact h
      by_cases hlt : k < n1
      · have hlt2 : (k : Int) < (n1 : Int) := by omega
        obtain ⟨bp, qp, hAp, hbq, hcp⟩ := (HL1.out.2.1.below hbw).at_ (k := k) (by rw [List.length_map, HL1.out.1]; exact hlt)
        rw [List.getElem_map] at hcp
        obtain ⟨p, hp⟩ : ∃ p, rs1[k]'(by rw [HL1.out.1]; exact hlt) = p := ⟨_, rfl⟩
        obtain ⟨hpl, hpm, hpr⟩ := HL1.out.2.2 p (by rw [← hp]; exact List.getElem_mem _)
        rw [hp] at hcp
        have hcp : wr.cell? ⟨bp, qp + k, none⟩ = some (.slice p.A p.l.length p.c) := hcp
        subst hAp
        have HLY := Lib.hid (And.intro hly (And.intro hlt hbw))
        by_cases hk2 : k < n2
        · have hk22 : (k : Int) < (n2 : Int) := by omega
          obtain ⟨bv, hbv⟩ : ∃ b, bl[k]? = some b := ⟨_, List.getElem?_eq_getElem (by rw [HL2.out.1]; exact hk2)⟩
          obtain ⟨bb, qb, hAb, hbb, hcb⟩ := HL2.out.2 (by rw [HL2.out.1]; omega)
          have hcb := (hbw.cell (p := ⟨bb, qb + k, none⟩) hbb).trans (hcb k bv hbv)
          subst hAb
          have cC := cut_any p.A p.l.length p.c w.heap.size p.l bv wr (hpr.below hbw) rfl (by unfold maxLen at hpm; omega) hbw.size
          clear hly hbw hlt hp hpl hpm hpr hk2 hbv
          go_wp2_with fail
          refine cC.mono ?_
          rintro e w5 ⟨v, rfl, hov, hb5⟩
          obtain ⟨-, A5, c5, rfl, hc5, -, -⟩ := own_form hov
          have hPl := cutLs_len p.l bv
          obtain ⟨P, hP⟩ : ∃ P, cutLs p.l bv = P := ⟨_, rfl⟩
          rw [hP] at hov hc5 hPl ⊢
          obtain ⟨own, fl, ws, Ls, A, c, vals, rfl, sg, hfl, hLs, hws, hga, hbw⟩ := HLY.out.1
          have hlt5 := fun i hi => World.ownsRow.lt hov i hi
          have HZ := Lib.hid (And.intro (sg.below hb5) (And.intro hfl (And.intro hLs (And.intro hws (And.intro (hga.below hb5) (And.intro (hbw.trans (hb5.mono hbw.size)) (And.intro (hov.low hbw.size) (And.intro (fun (i : Nat) (hi : (Value.slice A5 P.length c5).ownBlock = some i) => And.intro (fun h => by have := (hlt5 i hi).1; have := sg.rl.lt i h; omega : ¬ own i) (fun h => by have := (hlt5 i hi).1; have := (World.ownsRow.lt hga.1 i h).2; omega : (Value.slice A Ls.length c).ownBlock ≠ some i)) (And.intro hPl hc5)))))))))
          clear cC hov hb5 hc5 hPl hP hlt5
          by_cases h9 : k < 9
          · have h92 : (k : Int) < 9 := by omega
            obtain ⟨F, hF⟩ : ∃ F, fitsN P.length ((halfN fl.length : Nat) - (usedN Ls : Int)) = F := ⟨_, rfl⟩
            by_cases hF0 : F = 0
            · subst hF0
              have cAp := HZ.out.1.append (by omega) (by omega) (RdQ.of_own HZ.out.2.2.2.2.2.2.1) (fun i hi h => (HZ.out.2.2.2.2.2.2.2.1 i hi).1 h) rfl HZ.out.2.2.2.2.2.2.2.2.2 (by have := HZ.out.2.2.2.2.2.2.2.2.1; omega) hF
              have hLb : (Ls.length : Int) ≤ 10 := by omega
              have HK9 := Lib.hid h9
              clear sg hfl hLs hws hga hbw h9 hF
              go_wp2_with fail
              refine cAp.mono ?_
              rintro e w7 ⟨rfl, own7, sg7, ks7⟩
              have hb7 : Below w.heap.size w w7 := kept_below ks7.1 HZ.out.2.2.2.2.2.1 HZ.out.2.2.2.2.2.1.size (fun i hi => Nat.le_trans HB1.out.size (HZ.out.1.rl.ge HZ.out.1.far i hi))
              have hga7 := HZ.out.2.2.2.2.1.keep ks7
              have hP7 := ownB_kept HZ.out.2.2.2.2.2.2.1 ks7.1 fun i hi => (HZ.out.2.2.2.2.2.2.2.1 i hi).1
              have hPo7 : ∀ i, (Value.slice A5 P.length c5).ownBlock = some i → ¬ own7 i ∧ (Value.slice A Ls.length c).ownBlock ≠ some i := fun i hi => ⟨fun h => (HZ.out.2.2.2.2.2.2.2.1 i hi).1 (ks7.2 i (World.ownsRow.lt HZ.out.2.2.2.2.2.2.1 i hi).2 h), (HZ.out.2.2.2.2.2.2.2.1 i hi).2⟩
              have cb : (w7.alloc (.cells #[.slice A5 P.length c5] 35)).cell? ⟨w7.heap.size, 0, none⟩ = some (.slice A5 P.length c5) := (Blk.new w7 35 #[.slice A5 P.length c5]).cell 0
              have hoR := hga7.1.alloc (.cells #[.slice A5 P.length c5] 35)
              have HX := Lib.hid (And.intro sg7 (And.intro hga7 (And.intro hb7 (And.intro hP7 (And.intro hPo7 (And.intro cb hoR))))))
              clear cAp sg7 ks7 hb7 hga7 hP7 hPo7 cb hoR
              go_wp2_with (with_reducible refine wpList_appendL9 (o := ⟨some 84, _, _, _, _, _⟩) rfl (.tmp 81) (.tmp 83) rfl w.heap.size (.slice A Ls.length c) Ls.length vals ?h1 HX.out.2.2.2.2.2.2 w7.heap.size (.slice A5 P.length c5) ?h2 HX.out.2.2.2.2.2.1 rfl ?h3 ?h4 ?_)
              case h1 => rfl
              case h2 => rfl
              case h3 => have := HZ.out.2.2.1; omega
              case h4 => rw [World.size_alloc]; have := HX.out.2.2.1.size; omega
              intro v9 w9 hown9 hg9 hloc9
              have hly9 := ly_more (k := k) HX.out.1 HZ.out.2.1 HZ.out.2.2.1 HK9.out (by rw [addW_len]; have := pages_mid9 P.length HZ.out.2.2.2.2.2.2.2.2.1; have := HZ.out.2.2.2.1; omega) HX.out.2.1 HX.out.2.2.1 HX.out.2.2.2.1 HX.out.2.2.2.2.1 hown9 hg9 (by rw [World.size_alloc]; exact hloc9)
              have HR := Lib.hid hly9
              clear hown9 hg9 hloc9 hly9
              go_wp2_with fail
              go_roundw
              case rel => exact ⟨k + 1, by have := HLY.out.2.1; omega, congrArg (Value.int .i64) (by omega), HR.out⟩
              case measure => have := HLY.out.2.1; simp [intOf]; omega
            · have cAp := HZ.out.1.full (by omega) (RdQ.of_own HZ.out.2.2.2.2.2.2.1) (fun i hi h => (HZ.out.2.2.2.2.2.2.2.1 i hi).1 h) rfl HZ.out.2.2.2.2.2.2.2.2.2 (by have := HZ.out.2.2.2.2.2.2.2.2.1; omega) hF hF0
              rw [errV_pos hF0] at cAp
              clear sg hfl hLs hws hga hbw h9 hF hF0
              go_wp2_with fail
              refine cAp.mono ?_
              rintro e w7 ⟨rfl, hb7⟩
              have HR := Lib.hid (show LyRel w w1 d r 1 S (k + 1) (.slice A Ls.length c) w7 from ⟨own, fl, ws, Ls, A, c, vals, rfl, HZ.out.1.below hb7, HZ.out.2.1, by have := HZ.out.2.2.1; omega, by have := HZ.out.2.2.2.1; omega, HZ.out.2.2.2.2.1.below hb7, HZ.out.2.2.2.2.2.1.trans (hb7.mono HZ.out.2.2.2.2.2.1.size)⟩)
              clear cAp hb7
              go_wp2_with fail
              go_roundw
              case rel => exact ⟨k + 1, by have := HLY.out.2.1; omega, congrArg (Value.int .i64) (by omega), HR.out⟩
              case measure => have := HLY.out.2.1; simp [intOf]; omega
          · have h92 : ¬ (k : Int) < 9 := by omega
            have HR := Lib.hid (show LyRel w w1 d r 1 S (k + 1) (.slice A Ls.length c) w5 from ⟨own, fl, ws, Ls, A, c, vals, rfl, HZ.out.1, HZ.out.2.1, by have := HZ.out.2.2.1; omega, by have := HZ.out.2.2.2.1; omega, HZ.out.2.2.2.2.1, HZ.out.2.2.2.2.2.1⟩)
            clear sg hfl hLs hws hga hbw h9
            go_wp2_with fail
            go_roundw
            case rel => exact ⟨k + 1, by have := HLY.out.2.1; omega, congrArg (Value.int .i64) (by omega), HR.out⟩
            case measure => have := HLY.out.2.1; simp [intOf]; omega
        · have hk22 : ¬ (k : Int) < (n2 : Int) := by omega
          have cC := cut_any p.A p.l.length p.c w.heap.size p.l false wr (hpr.below hbw) rfl (by unfold maxLen at hpm; omega) hbw.size
          clear hly hbw hlt hp hpl hpm hpr hk2
          go_wp2_with fail
          refine cC.mono ?_
          rintro e w5 ⟨v, rfl, hov, hb5⟩
          obtain ⟨-, A5, c5, rfl, hc5, -, -⟩ := own_form hov
          have hPl := cutLs_len p.l false
          obtain ⟨P, hP⟩ : ∃ P, cutLs p.l false = P := ⟨_, rfl⟩
          rw [hP] at hov hc5 hPl ⊢
          obtain ⟨own, fl, ws, Ls, A, c, vals, rfl, sg, hfl, hLs, hws, hga, hbw⟩ := HLY.out.1
          have hlt5 := fun i hi => World.ownsRow.lt hov i hi
          have HZ := Lib.hid (And.intro (sg.below hb5) (And.intro hfl (And.intro hLs (And.intro hws (And.intro (hga.below hb5) (And.intro (hbw.trans (hb5.mono hbw.size)) (And.intro (hov.low hbw.size) (And.intro (fun (i : Nat) (hi : (Value.slice A5 P.length c5).ownBlock = some i) => And.intro (fun h => by have := (hlt5 i hi).1; have := sg.rl.lt i h; omega : ¬ own i) (fun h => by have := (hlt5 i hi).1; have := (World.ownsRow.lt hga.1 i h).2; omega : (Value.slice A Ls.length c).ownBlock ≠ some i)) (And.intro hPl hc5)))))))))
          clear cC hov hb5 hc5 hPl hP hlt5
          by_cases h9 : k < 9
          · have h92 : (k : Int) < 9 := by omega
            obtain ⟨F, hF⟩ : ∃ F, fitsN P.length ((halfN fl.length : Nat) - (usedN Ls : Int)) = F := ⟨_, rfl⟩
            by_cases hF0 : F = 0
            · subst hF0
              have cAp := HZ.out.1.append (by omega) (by omega) (RdQ.of_own HZ.out.2.2.2.2.2.2.1) (fun i hi h => (HZ.out.2.2.2.2.2.2.2.1 i hi).1 h) rfl HZ.out.2.2.2.2.2.2.2.2.2 (by have := HZ.out.2.2.2.2.2.2.2.2.1; omega) hF
              have hLb : (Ls.length : Int) ≤ 10 := by omega
              have HK9 := Lib.hid h9
              clear sg hfl hLs hws hga hbw h9 hF
              go_wp2_with fail
              refine cAp.mono ?_
              rintro e w7 ⟨rfl, own7, sg7, ks7⟩
              have hb7 : Below w.heap.size w w7 := kept_below ks7.1 HZ.out.2.2.2.2.2.1 HZ.out.2.2.2.2.2.1.size (fun i hi => Nat.le_trans HB1.out.size (HZ.out.1.rl.ge HZ.out.1.far i hi))
              have hga7 := HZ.out.2.2.2.2.1.keep ks7
              have hP7 := ownB_kept HZ.out.2.2.2.2.2.2.1 ks7.1 fun i hi => (HZ.out.2.2.2.2.2.2.2.1 i hi).1
              have hPo7 : ∀ i, (Value.slice A5 P.length c5).ownBlock = some i → ¬ own7 i ∧ (Value.slice A Ls.length c).ownBlock ≠ some i := fun i hi => ⟨fun h => (HZ.out.2.2.2.2.2.2.2.1 i hi).1 (ks7.2 i (World.ownsRow.lt HZ.out.2.2.2.2.2.2.1 i hi).2 h), (HZ.out.2.2.2.2.2.2.2.1 i hi).2⟩
              have cb : (w7.alloc (.cells #[.slice A5 P.length c5] 35)).cell? ⟨w7.heap.size, 0, none⟩ = some (.slice A5 P.length c5) := (Blk.new w7 35 #[.slice A5 P.length c5]).cell 0
              have hoR := hga7.1.alloc (.cells #[.slice A5 P.length c5] 35)
              have HX := Lib.hid (And.intro sg7 (And.intro hga7 (And.intro hb7 (And.intro hP7 (And.intro hPo7 (And.intro cb hoR))))))
              clear cAp sg7 ks7 hb7 hga7 hP7 hPo7 cb hoR
              go_wp2_with (with_reducible refine wpList_appendL9 (o := ⟨some 84, _, _, _, _, _⟩) rfl (.tmp 81) (.tmp 83) rfl w.heap.size (.slice A Ls.length c) Ls.length vals ?h1 HX.out.2.2.2.2.2.2 w7.heap.size (.slice A5 P.length c5) ?h2 HX.out.2.2.2.2.2.1 rfl ?h3 ?h4 ?_)
              case h1 => rfl
              case h2 => rfl
              case h3 => have := HZ.out.2.2.1; omega
              case h4 => rw [World.size_alloc]; have := HX.out.2.2.1.size; omega
              intro v9 w9 hown9 hg9 hloc9
              have hly9 := ly_more (k := k) HX.out.1 HZ.out.2.1 HZ.out.2.2.1 HK9.out (by rw [addW_len]; have := pages_mid9 P.length HZ.out.2.2.2.2.2.2.2.2.1; have := HZ.out.2.2.2.1; omega) HX.out.2.1 HX.out.2.2.1 HX.out.2.2.2.1 HX.out.2.2.2.2.1 hown9 hg9 (by rw [World.size_alloc]; exact hloc9)
              have HR := Lib.hid hly9
              clear hown9 hg9 hloc9 hly9
              go_wp2_with fail
              go_roundw
              case rel => exact ⟨k + 1, by have := HLY.out.2.1; omega, congrArg (Value.int .i64) (by omega), HR.out⟩
              case measure => have := HLY.out.2.1; simp [intOf]; omega
            · have cAp := HZ.out.1.full (by omega) (RdQ.of_own HZ.out.2.2.2.2.2.2.1) (fun i hi h => (HZ.out.2.2.2.2.2.2.2.1 i hi).1 h) rfl HZ.out.2.2.2.2.2.2.2.2.2 (by have := HZ.out.2.2.2.2.2.2.2.2.1; omega) hF hF0
              rw [errV_pos hF0] at cAp
              clear sg hfl hLs hws hga hbw h9 hF hF0
              go_wp2_with fail
              refine cAp.mono ?_
              rintro e w7 ⟨rfl, hb7⟩
              have HR := Lib.hid (show LyRel w w1 d r 1 S (k + 1) (.slice A Ls.length c) w7 from ⟨own, fl, ws, Ls, A, c, vals, rfl, HZ.out.1.below hb7, HZ.out.2.1, by have := HZ.out.2.2.1; omega, by have := HZ.out.2.2.2.1; omega, HZ.out.2.2.2.2.1.below hb7, HZ.out.2.2.2.2.2.1.trans (hb7.mono HZ.out.2.2.2.2.2.1.size)⟩)
              clear cAp hb7
              go_wp2_with fail
              go_roundw
              case rel => exact ⟨k + 1, by have := HLY.out.2.1; omega, congrArg (Value.int .i64) (by omega), HR.out⟩
              case measure => have := HLY.out.2.1; simp [intOf]; omega
          · have h92 : ¬ (k : Int) < 9 := by omega
            have HR := Lib.hid (show LyRel w w1 d r 1 S (k + 1) (.slice A Ls.length c) w5 from ⟨own, fl, ws, Ls, A, c, vals, rfl, HZ.out.1, HZ.out.2.1, by have := HZ.out.2.2.1; omega, by have := HZ.out.2.2.2.1; omega, HZ.out.2.2.2.2.1, HZ.out.2.2.2.2.2.1⟩)
            clear sg hfl hLs hws hga hbw h9
            go_wp2_with fail
            go_roundw
            case rel => exact ⟨k + 1, by have := HLY.out.2.1; omega, congrArg (Value.int .i64) (by omega), HR.out⟩
            case measure => have := HLY.out.2.1; simp [intOf]; omega
      · have hlt2 : ¬ (k : Int) < (n1 : Int) := by omega
        obtain ⟨own, fl, ws, Ls, A, c, vals, rfl, sg, hfl, hLs, hws, hga, -⟩ := hly
        obtain ⟨rs9, hL9, hls9⟩ := hga.lst
        have cAl := RAll_any (g := 1) (by decide) hL9 (by omega) (fun p hp => sg.good.2.2.2.2.2.2.2.1 p (by rw [← hls9]; exact hp))
        rw [hls9] at cAl
        have hus := sg.used
        rw [hfl, HS.out.2.1] at hus
        have hLb : (Ls.length : Int) ≤ 10 := by omega
        have HG := Lib.hid (And.intro sg (And.intro hfl (And.intro hbw hus)))
        clear sg hfl hLs hws hga hbw hlt hL9 hls9 hus
        go_wp2_with fail
        refine cAl.mono ?_
        rintro e wA ⟨AW, cW, news, rfl, hgw, hbA⟩
        obtain ⟨U, hU⟩ : ∃ U, (secsL 1 0 Ls).length = U := ⟨_, rfl⟩
        have hU2 : usedN Ls = U := by rw [← hU, secsL_len]
        rw [hU]
        have hUb : (U : Int) ≤ (H : Int) := by have := HG.out.2.2.2; omega
        have HA := Lib.hid (And.intro (HG.out.1.below hbA) (And.intro hgw (And.intro (HG.out.2.2.1.trans (hbA.mono HG.out.2.2.1.size)) (And.intro hU hU2))))
        have hst : startN S 1 = 2 + H := by unfold startN; rw [HS.out.2.1]; omega
        have HST := Lib.hid hst
        clear cAl hgw hbA hU hU2 hst
        go_wp2_with fail
        go_loopw [20, 21, 22, 90] (fun _ _ _ i wy => ∃ k2 : Nat, k2 ≤ H ∧ i = .int .i64 (k2 : Int) ∧ Below wA.heap.size wA wy) (fun _ _ _ i _ => H - (intOf i).toNat)
        case atStart => exact ⟨0, Nat.zero_le _, rfl, Below.refl _ _⟩
        case round =>
          obtain ⟨k2, hk2, rfl, hby⟩ := hrel
          have hk2b : (k2 : Int) ≤ 23 := by omega
          by_cases hlk : k2 < H
          · have hlk2 : (k2 : Int) < (H : Int) := by omega
            have cRd := fun x hx => (HA.out.1.below hby).read k2 (by rw [HG.out.2.1, HS.out.2.1]; exact hlk) x hx
            have HY := Lib.hid (And.intro hby hlk)
            clear hby hlk
            go_wp2_with fail
            refine (cRd _ (by rw [HG.out.2.1, HST.out]; omega)).mono ?_
            rintro e wD ⟨qD, rfl, hRD, hbD⟩
            have hbAD := HY.out.1.trans (hbD.mono HY.out.1.size)
            by_cases hkU : k2 < U
            · have hkU2 : (k2 : Int) < (U : Int) := by omega
              have hkU3 : ¬ (U : Int) ≤ (k2 : Int) := by omega
              obtain ⟨b9, hb9⟩ : ∃ b, (secsL 1 0 Ls)[k2]? = some b := ⟨_, List.getElem?_eq_getElem (by rw [HA.out.2.2.2.1]; exact hkU)⟩
              obtain ⟨qW, Ar, cr, hAW, hcW, hrW⟩ := (HA.out.2.1.below hbAD).row k2 b9 hb9
              have hl9 := secs_256 1 Ls 0 b9 (List.mem_of_getElem? hb9)
              rw [List.getD_eq_getElem?_getD, hb9] at hRD
              rw [hl9] at hcW
              subst hAW
              have cS := Same_any (some ⟨qD, 0, none⟩) Ar 256 256 wD.heap.size 256 cr wD.heap.size b9 b9 wD hRD hl9 (by decide) hrW hl9 (by decide)
              rw [decide_eq_true rfl] at cS
              have HE := Lib.hid hbAD
              clear cRd hRD hbD hbAD hb9 hrW hl9 hkU
              go_wp2_with fail
              refine cS.mono ?_
              rintro e wE ⟨rfl, m9, rfl⟩
              have HF := Lib.hid (below_drewN HE.out m9)
              obtain ⟨wF, hwF⟩ : ∃ W, wD.drewN m9 = W := ⟨_, rfl⟩
              rw [hwF] at HF ⊢
              clear cS hwF
              go_wp2_with fail
              go_roundw
              case rel => exact ⟨k2 + 1, by have := HY.out.2; omega, congrArg (Value.int .i64) (by omega), HF.out⟩
              case measure => have := HY.out.2; simp [intOf]; omega
            · have hkU2 : ¬ (k2 : Int) < (U : Int) := by omega
              have hkU3 : (U : Int) ≤ (k2 : Int) := by omega
              have cCl := fun x hx => (HA.out.1.below hbAD).clean k2 (by rw [HA.out.2.2.2.2]; omega) (by rw [HG.out.2.1, HS.out.2.1]; exact HY.out.2) x hx
              have HE := Lib.hid hbAD
              clear cRd hRD hbD hbAD hkU
              go_wp2_with fail
              refine (cCl _ (by rw [HG.out.2.1, HST.out]; omega)).mono ?_
              rintro e wE ⟨rfl, hwE⟩
              subst hwE
              clear cCl
              go_wp2_with fail
              go_roundw
              case rel => exact ⟨k2 + 1, by have := HY.out.2; omega, congrArg (Value.int .i64) (by omega), HE.out⟩
              case measure => have := HY.out.2; simp [intOf]; omega
          · have hlk2 : ¬ (k2 : Int) < (H : Int) := by omega
            have sgY := HA.out.1.below hby
            have cHd := fun x hx => sgY.head x hx
            have HY := Lib.hid (And.intro sgY (HA.out.2.2.1.trans (hby.mono HA.out.2.2.1.size)))
            clear sgY hby hlk
            go_wp2_with fail
            refine (cHd _ (by decide)).mono ?_
            rintro e wD ⟨qD, rfl, hRD, hbD⟩
            have cH2 := RHead_any 1 (by decide) wD
            have HD := Lib.hid (And.intro hRD hbD)
            clear cHd hRD hbD
            go_wp2_with fail
            refine cH2.mono ?_
            rintro e wE ⟨bE, rfl, hoE, hbE⟩
            have hRE : Rd wE wE.heap.size (some ⟨bE, 0, none⟩) (headL 1) := by
              obtain ⟨-, A', c', e', -, -, hr⟩ := own_form hoE
              injection e' with e1 e2 e3
              subst e1
              exact hr
            have cS := Same_any (some ⟨qD, 0, none⟩) (some ⟨bE, 0, none⟩) 256 256 wE.heap.size 256 256 wE.heap.size (headL 1) (headL 1) wE ((HD.out.1.below hbE).more hbE.size) (sector_len _ _) (by decide) hRE (sector_len _ _) (by decide)
            rw [decide_eq_true rfl] at cS
            have hbYE := HD.out.2.trans (hbE.mono HD.out.2.size)
            have HE := Lib.hid (And.intro (HY.out.1.below hbYE) (HY.out.2.trans (hbYE.mono HY.out.2.size)))
            clear cH2 hoE hbE hRE hbYE
            go_wp2_with fail
            refine cS.mono ?_
            rintro e wF ⟨rfl, m9, rfl⟩
            have sgF := HE.out.1.below (below_drewN (Below.refl _ _) m9)
            have hbF := below_drewN HE.out.2 m9
            obtain ⟨wG, hwG⟩ : ∃ W, wE.drewN m9 = W := ⟨_, rfl⟩
            rw [hwG] at sgF hbF ⊢
            have cRm := sgF.room
            rw [HG.out.2.1, HS.out.2.1, HA.out.2.2.2.2] at cRm
            have HF := Lib.hid (And.intro sgF hbF)
            clear cS hwG sgF hbF
            go_wp2_with fail
            refine cRm.mono ?_
            rintro e wH ⟨rfl, m8, rfl⟩
            have cCt := (HF.out.1.below (below_drewN (Below.refl _ _) m8)).count
            have HH := Lib.hid (below_drewN HF.out.2 m8)
            clear cRm
            go_wp2_with fail
            refine cCt.mono ?_
            rintro e wI ⟨rfl, hwI⟩
            subst hwI
            clear cCt
            go_wp2_with fail
            go_ret
            exact ⟨rfl, HH.out⟩
  · have kc := fun (w : World) (C : Array Value) (n c : Nat) => Lib.run_convert_bytes_const (P := Try.prog) w 35 5 C n c Try.underlying35 Try.underlying5
    have HT3 := Lib.hid (And.intro sg3 (And.intro hl3 hb3))
    have hq4 := rdq_lit w3 [116] 5 (1, 2)
    have hb4 : Below w3.heap.size w3 (w3.alloc (.cells #[.int .u8 116] 5 (1, 2))) := (Below.refl _ _).alloc (Nat.le_refl _) _
    clear cM hr3 hl3 sg3 ks3 hb3
    go_wp2_with fail
    obtain ⟨w4, hw4⟩ : ∃ W, w3.alloc (.cells #[.int .u8 116] 5 (1, 2)) = W := ⟨_, rfl⟩
    have hq4 : RdQ w4 (fun i => i = w3.heap.size) (some ⟨w3.heap.size, 0, none⟩) [116] := by rw [← hw4]; exact hq4
    rw [hw4] at hb4 ⊢
    have cT := (HT3.out.1.below hb4).turn (by decide) (by simp) hq4 (fun i hi h => by have := HT3.out.1.rl.lt i h; omega) (m := 1) (q := 1) rfl (by decide) (by decide) (by
      rw [HT3.out.2.1, HS.out.2.1]
      unfold fitsN
      rw [if_neg (by decide), if_neg (by rw [pages_small 1 (by decide)]; have := HS.out; omega)])
    have HB4 := Lib.hid hb4
    clear hw4 hq4 hb4 kc
    refine cT.mono ?_
    rintro e w5 ⟨rfl, own5, fl5, hl5, sg5, ks5⟩
    have hb45 : Below w.heap.size w w4 := HT3.out.2.2.trans (HB4.out.mono HT3.out.2.2.size)
    have hb5 : Below w.heap.size w w5 := kept_below ks5.1 hb45 hb45.size (fun i hi => Nat.le_trans HB1.out.size (HT3.out.1.rl.ge HT3.out.1.far i hi))
    have H3 := Lib.hid (And.intro sg5 (And.intro (hl5.trans HT3.out.2.1) hb5))
    have cR := sg5.records
    clear cT hl5 sg5 ks5 hb45 hb5
    go_wp2_with fail
    refine cR.mono ?_
    rintro e w6 ⟨q6, vs6, rfl, hq6, hrec6, hb6⟩
    have hga := recs_gath hrec6 hq6 (by simp) H3.out.1.rl.lt
    have H6 := Lib.hid (show LyRel w w1 d r 2 S 0 (.slice (some ⟨q6, 0, none⟩) 1 1) w6 from ⟨_, _, _, [[116]], _, _, _, rfl, H3.out.1.below hb6, H3.out.2.1, by simp, by simp, hga.low H3.out.2.2.size, H3.out.2.2.trans (hb6.mono H3.out.2.2.size)⟩)
    rw [show ([[116]] : List (List UInt8)).length = 1 from rfl]
    clear cR hq6 hrec6 hb6 hga
    go_wp2_with fail
    go_loopw [16, 17, 18, 56] (fun va _ _ i wr => ∃ k : Nat, k ≤ n1 ∧ i = .int .i64 (k : Int) ∧ LyRel w w1 d r 2 S k va wr) (fun _ _ _ i _ => n1 - (intOf i).toNat)
    case atStart => exact ⟨0, Nat.zero_le _, rfl, H6.out⟩
    case round =>
      obtain ⟨k, hk, rfl, hly⟩ := hrel
      have hkb : (k : Int) ≤ 9223372036854775807 := by omega
      have hbw : Below w.heap.size w wr := by
        obtain ⟨own, fl, ws, Ls, A, c, vals, -, -, -, -, -, -, h⟩ := hly
        exact h
      by_cases hlt : k < n1
      · have hlt2 : (k : Int) < (n1 : Int) := by omega
        obtain ⟨bp, qp, hAp, hbq, hcp⟩ := (HL1.out.2.1.below hbw).at_ (k := k) (by rw [List.length_map, HL1.out.1]; exact hlt)
        rw [List.getElem_map] at hcp
        obtain ⟨p, hp⟩ : ∃ p, rs1[k]'(by rw [HL1.out.1]; exact hlt) = p := ⟨_, rfl⟩
        obtain ⟨hpl, hpm, hpr⟩ := HL1.out.2.2 p (by rw [← hp]; exact List.getElem_mem _)
        rw [hp] at hcp
        have hcp : wr.cell? ⟨bp, qp + k, none⟩ = some (.slice p.A p.l.length p.c) := hcp
        subst hAp
        have HLY := Lib.hid (And.intro hly (And.intro hlt hbw))
        by_cases hk2 : k < n2
        · have hk22 : (k : Int) < (n2 : Int) := by omega
          obtain ⟨bv, hbv⟩ : ∃ b, bl[k]? = some b := ⟨_, List.getElem?_eq_getElem (by rw [HL2.out.1]; exact hk2)⟩
          obtain ⟨bb, qb, hAb, hbb, hcb⟩ := HL2.out.2 (by rw [HL2.out.1]; omega)
          have hcb := (hbw.cell (p := ⟨bb, qb + k, none⟩) hbb).trans (hcb k bv hbv)
          subst hAb
          have cC := cut_any p.A p.l.length p.c w.heap.size p.l bv wr (hpr.below hbw) rfl (by unfold maxLen at hpm; omega) hbw.size
          clear hly hbw hlt hp hpl hpm hpr hk2 hbv
          go_wp2_with fail
          refine cC.mono ?_
          rintro e w5 ⟨v, rfl, hov, hb5⟩
          obtain ⟨-, A5, c5, rfl, hc5, -, -⟩ := own_form hov
          have hPl := cutLs_len p.l bv
          obtain ⟨P, hP⟩ : ∃ P, cutLs p.l bv = P := ⟨_, rfl⟩
          rw [hP] at hov hc5 hPl ⊢
          obtain ⟨own, fl, ws, Ls, A, c, vals, rfl, sg, hfl, hLs, hws, hga, hbw⟩ := HLY.out.1
          have hlt5 := fun i hi => World.ownsRow.lt hov i hi
          have HZ := Lib.hid (And.intro (sg.below hb5) (And.intro hfl (And.intro hLs (And.intro hws (And.intro (hga.below hb5) (And.intro (hbw.trans (hb5.mono hbw.size)) (And.intro (hov.low hbw.size) (And.intro (fun (i : Nat) (hi : (Value.slice A5 P.length c5).ownBlock = some i) => And.intro (fun h => by have := (hlt5 i hi).1; have := sg.rl.lt i h; omega : ¬ own i) (fun h => by have := (hlt5 i hi).1; have := (World.ownsRow.lt hga.1 i h).2; omega : (Value.slice A Ls.length c).ownBlock ≠ some i)) (And.intro hPl hc5)))))))))
          clear cC hov hb5 hc5 hPl hP hlt5
          by_cases h9 : k < 9
          · have h92 : (k : Int) < 9 := by omega
            obtain ⟨F, hF⟩ : ∃ F, fitsN P.length ((halfN fl.length : Nat) - (usedN Ls : Int)) = F := ⟨_, rfl⟩
            by_cases hF0 : F = 0
            · subst hF0
              have cAp := HZ.out.1.append (by omega) (by omega) (RdQ.of_own HZ.out.2.2.2.2.2.2.1) (fun i hi h => (HZ.out.2.2.2.2.2.2.2.1 i hi).1 h) rfl HZ.out.2.2.2.2.2.2.2.2.2 (by have := HZ.out.2.2.2.2.2.2.2.2.1; omega) hF
              have hLb : (Ls.length : Int) ≤ 10 := by omega
              have HK9 := Lib.hid h9
              clear sg hfl hLs hws hga hbw h9 hF
              go_wp2_with fail
              refine cAp.mono ?_
              rintro e w7 ⟨rfl, own7, sg7, ks7⟩
              have hb7 : Below w.heap.size w w7 := kept_below ks7.1 HZ.out.2.2.2.2.2.1 HZ.out.2.2.2.2.2.1.size (fun i hi => Nat.le_trans HB1.out.size (HZ.out.1.rl.ge HZ.out.1.far i hi))
              have hga7 := HZ.out.2.2.2.2.1.keep ks7
              have hP7 := ownB_kept HZ.out.2.2.2.2.2.2.1 ks7.1 fun i hi => (HZ.out.2.2.2.2.2.2.2.1 i hi).1
              have hPo7 : ∀ i, (Value.slice A5 P.length c5).ownBlock = some i → ¬ own7 i ∧ (Value.slice A Ls.length c).ownBlock ≠ some i := fun i hi => ⟨fun h => (HZ.out.2.2.2.2.2.2.2.1 i hi).1 (ks7.2 i (World.ownsRow.lt HZ.out.2.2.2.2.2.2.1 i hi).2 h), (HZ.out.2.2.2.2.2.2.2.1 i hi).2⟩
              have cb : (w7.alloc (.cells #[.slice A5 P.length c5] 35)).cell? ⟨w7.heap.size, 0, none⟩ = some (.slice A5 P.length c5) := (Blk.new w7 35 #[.slice A5 P.length c5]).cell 0
              have hoR := hga7.1.alloc (.cells #[.slice A5 P.length c5] 35)
              have HX := Lib.hid (And.intro sg7 (And.intro hga7 (And.intro hb7 (And.intro hP7 (And.intro hPo7 (And.intro cb hoR))))))
              clear cAp sg7 ks7 hb7 hga7 hP7 hPo7 cb hoR
              go_wp2_with (with_reducible refine wpList_appendL9 (o := ⟨some 84, _, _, _, _, _⟩) rfl (.tmp 81) (.tmp 83) rfl w.heap.size (.slice A Ls.length c) Ls.length vals ?h1 HX.out.2.2.2.2.2.2 w7.heap.size (.slice A5 P.length c5) ?h2 HX.out.2.2.2.2.2.1 rfl ?h3 ?h4 ?_)
              case h1 => rfl
              case h2 => rfl
              case h3 => have := HZ.out.2.2.1; omega
              case h4 => rw [World.size_alloc]; have := HX.out.2.2.1.size; omega
              intro v9 w9 hown9 hg9 hloc9
              have hly9 := ly_more (k := k) HX.out.1 HZ.out.2.1 HZ.out.2.2.1 HK9.out (by rw [addW_len]; have := pages_mid9 P.length HZ.out.2.2.2.2.2.2.2.2.1; have := HZ.out.2.2.2.1; omega) HX.out.2.1 HX.out.2.2.1 HX.out.2.2.2.1 HX.out.2.2.2.2.1 hown9 hg9 (by rw [World.size_alloc]; exact hloc9)
              have HR := Lib.hid hly9
              clear hown9 hg9 hloc9 hly9
              go_wp2_with fail
              go_roundw
              case rel => exact ⟨k + 1, by have := HLY.out.2.1; omega, congrArg (Value.int .i64) (by omega), HR.out⟩
              case measure => have := HLY.out.2.1; simp [intOf]; omega
            · have cAp := HZ.out.1.full (by omega) (RdQ.of_own HZ.out.2.2.2.2.2.2.1) (fun i hi h => (HZ.out.2.2.2.2.2.2.2.1 i hi).1 h) rfl HZ.out.2.2.2.2.2.2.2.2.2 (by have := HZ.out.2.2.2.2.2.2.2.2.1; omega) hF hF0
              rw [errV_pos hF0] at cAp
              clear sg hfl hLs hws hga hbw h9 hF hF0
              go_wp2_with fail
              refine cAp.mono ?_
              rintro e w7 ⟨rfl, hb7⟩
              have HR := Lib.hid (show LyRel w w1 d r 2 S (k + 1) (.slice A Ls.length c) w7 from ⟨own, fl, ws, Ls, A, c, vals, rfl, HZ.out.1.below hb7, HZ.out.2.1, by have := HZ.out.2.2.1; omega, by have := HZ.out.2.2.2.1; omega, HZ.out.2.2.2.2.1.below hb7, HZ.out.2.2.2.2.2.1.trans (hb7.mono HZ.out.2.2.2.2.2.1.size)⟩)
              clear cAp hb7
              go_wp2_with fail
              go_roundw
              case rel => exact ⟨k + 1, by have := HLY.out.2.1; omega, congrArg (Value.int .i64) (by omega), HR.out⟩
              case measure => have := HLY.out.2.1; simp [intOf]; omega
          · have h92 : ¬ (k : Int) < 9 := by omega
            have HR := Lib.hid (show LyRel w w1 d r 2 S (k + 1) (.slice A Ls.length c) w5 from ⟨own, fl, ws, Ls, A, c, vals, rfl, HZ.out.1, HZ.out.2.1, by have := HZ.out.2.2.1; omega, by have := HZ.out.2.2.2.1; omega, HZ.out.2.2.2.2.1, HZ.out.2.2.2.2.2.1⟩)
            clear sg hfl hLs hws hga hbw h9
            go_wp2_with fail
            go_roundw
            case rel => exact ⟨k + 1, by have := HLY.out.2.1; omega, congrArg (Value.int .i64) (by omega), HR.out⟩
            case measure => have := HLY.out.2.1; simp [intOf]; omega
        · have hk22 : ¬ (k : Int) < (n2 : Int) := by omega
          have cC := cut_any p.A p.l.length p.c w.heap.size p.l false wr (hpr.below hbw) rfl (by unfold maxLen at hpm; omega) hbw.size
          clear hly hbw hlt hp hpl hpm hpr hk2
          go_wp2_with fail
          refine cC.mono ?_
          rintro e w5 ⟨v, rfl, hov, hb5⟩
          obtain ⟨-, A5, c5, rfl, hc5, -, -⟩ := own_form hov
          have hPl := cutLs_len p.l false
          obtain ⟨P, hP⟩ : ∃ P, cutLs p.l false = P := ⟨_, rfl⟩
          rw [hP] at hov hc5 hPl ⊢
          obtain ⟨own, fl, ws, Ls, A, c, vals, rfl, sg, hfl, hLs, hws, hga, hbw⟩ := HLY.out.1
          have hlt5 := fun i hi => World.ownsRow.lt hov i hi
          have HZ := Lib.hid (And.intro (sg.below hb5) (And.intro hfl (And.intro hLs (And.intro hws (And.intro (hga.below hb5) (And.intro (hbw.trans (hb5.mono hbw.size)) (And.intro (hov.low hbw.size) (And.intro (fun (i : Nat) (hi : (Value.slice A5 P.length c5).ownBlock = some i) => And.intro (fun h => by have := (hlt5 i hi).1; have := sg.rl.lt i h; omega : ¬ own i) (fun h => by have := (hlt5 i hi).1; have := (World.ownsRow.lt hga.1 i h).2; omega : (Value.slice A Ls.length c).ownBlock ≠ some i)) (And.intro hPl hc5)))))))))
          clear cC hov hb5 hc5 hPl hP hlt5
          by_cases h9 : k < 9
          · have h92 : (k : Int) < 9 := by omega
            obtain ⟨F, hF⟩ : ∃ F, fitsN P.length ((halfN fl.length : Nat) - (usedN Ls : Int)) = F := ⟨_, rfl⟩
            by_cases hF0 : F = 0
            · subst hF0
              have cAp := HZ.out.1.append (by omega) (by omega) (RdQ.of_own HZ.out.2.2.2.2.2.2.1) (fun i hi h => (HZ.out.2.2.2.2.2.2.2.1 i hi).1 h) rfl HZ.out.2.2.2.2.2.2.2.2.2 (by have := HZ.out.2.2.2.2.2.2.2.2.1; omega) hF
              have hLb : (Ls.length : Int) ≤ 10 := by omega
              have HK9 := Lib.hid h9
              clear sg hfl hLs hws hga hbw h9 hF
              go_wp2_with fail
              refine cAp.mono ?_
              rintro e w7 ⟨rfl, own7, sg7, ks7⟩
              have hb7 : Below w.heap.size w w7 := kept_below ks7.1 HZ.out.2.2.2.2.2.1 HZ.out.2.2.2.2.2.1.size (fun i hi => Nat.le_trans HB1.out.size (HZ.out.1.rl.ge HZ.out.1.far i hi))
              have hga7 := HZ.out.2.2.2.2.1.keep ks7
              have hP7 := ownB_kept HZ.out.2.2.2.2.2.2.1 ks7.1 fun i hi => (HZ.out.2.2.2.2.2.2.2.1 i hi).1
              have hPo7 : ∀ i, (Value.slice A5 P.length c5).ownBlock = some i → ¬ own7 i ∧ (Value.slice A Ls.length c).ownBlock ≠ some i := fun i hi => ⟨fun h => (HZ.out.2.2.2.2.2.2.2.1 i hi).1 (ks7.2 i (World.ownsRow.lt HZ.out.2.2.2.2.2.2.1 i hi).2 h), (HZ.out.2.2.2.2.2.2.2.1 i hi).2⟩
              have cb : (w7.alloc (.cells #[.slice A5 P.length c5] 35)).cell? ⟨w7.heap.size, 0, none⟩ = some (.slice A5 P.length c5) := (Blk.new w7 35 #[.slice A5 P.length c5]).cell 0
              have hoR := hga7.1.alloc (.cells #[.slice A5 P.length c5] 35)
              have HX := Lib.hid (And.intro sg7 (And.intro hga7 (And.intro hb7 (And.intro hP7 (And.intro hPo7 (And.intro cb hoR))))))
              clear cAp sg7 ks7 hb7 hga7 hP7 hPo7 cb hoR
              go_wp2_with (with_reducible refine wpList_appendL9 (o := ⟨some 84, _, _, _, _, _⟩) rfl (.tmp 81) (.tmp 83) rfl w.heap.size (.slice A Ls.length c) Ls.length vals ?h1 HX.out.2.2.2.2.2.2 w7.heap.size (.slice A5 P.length c5) ?h2 HX.out.2.2.2.2.2.1 rfl ?h3 ?h4 ?_)
              case h1 => rfl
              case h2 => rfl
              case h3 => have := HZ.out.2.2.1; omega
              case h4 => rw [World.size_alloc]; have := HX.out.2.2.1.size; omega
              intro v9 w9 hown9 hg9 hloc9
              have hly9 := ly_more (k := k) HX.out.1 HZ.out.2.1 HZ.out.2.2.1 HK9.out (by rw [addW_len]; have := pages_mid9 P.length HZ.out.2.2.2.2.2.2.2.2.1; have := HZ.out.2.2.2.1; omega) HX.out.2.1 HX.out.2.2.1 HX.out.2.2.2.1 HX.out.2.2.2.2.1 hown9 hg9 (by rw [World.size_alloc]; exact hloc9)
              have HR := Lib.hid hly9
              clear hown9 hg9 hloc9 hly9
              go_wp2_with fail
              go_roundw
              case rel => exact ⟨k + 1, by have := HLY.out.2.1; omega, congrArg (Value.int .i64) (by omega), HR.out⟩
              case measure => have := HLY.out.2.1; simp [intOf]; omega
            · have cAp := HZ.out.1.full (by omega) (RdQ.of_own HZ.out.2.2.2.2.2.2.1) (fun i hi h => (HZ.out.2.2.2.2.2.2.2.1 i hi).1 h) rfl HZ.out.2.2.2.2.2.2.2.2.2 (by have := HZ.out.2.2.2.2.2.2.2.2.1; omega) hF hF0
              rw [errV_pos hF0] at cAp
              clear sg hfl hLs hws hga hbw h9 hF hF0
              go_wp2_with fail
              refine cAp.mono ?_
              rintro e w7 ⟨rfl, hb7⟩
              have HR := Lib.hid (show LyRel w w1 d r 2 S (k + 1) (.slice A Ls.length c) w7 from ⟨own, fl, ws, Ls, A, c, vals, rfl, HZ.out.1.below hb7, HZ.out.2.1, by have := HZ.out.2.2.1; omega, by have := HZ.out.2.2.2.1; omega, HZ.out.2.2.2.2.1.below hb7, HZ.out.2.2.2.2.2.1.trans (hb7.mono HZ.out.2.2.2.2.2.1.size)⟩)
              clear cAp hb7
              go_wp2_with fail
              go_roundw
              case rel => exact ⟨k + 1, by have := HLY.out.2.1; omega, congrArg (Value.int .i64) (by omega), HR.out⟩
              case measure => have := HLY.out.2.1; simp [intOf]; omega
          · have h92 : ¬ (k : Int) < 9 := by omega
            have HR := Lib.hid (show LyRel w w1 d r 2 S (k + 1) (.slice A Ls.length c) w5 from ⟨own, fl, ws, Ls, A, c, vals, rfl, HZ.out.1, HZ.out.2.1, by have := HZ.out.2.2.1; omega, by have := HZ.out.2.2.2.1; omega, HZ.out.2.2.2.2.1, HZ.out.2.2.2.2.2.1⟩)
            clear sg hfl hLs hws hga hbw h9
            go_wp2_with fail
            go_roundw
            case rel => exact ⟨k + 1, by have := HLY.out.2.1; omega, congrArg (Value.int .i64) (by omega), HR.out⟩
            case measure => have := HLY.out.2.1; simp [intOf]; omega
      · have hlt2 : ¬ (k : Int) < (n1 : Int) := by omega
        obtain ⟨own, fl, ws, Ls, A, c, vals, rfl, sg, hfl, hLs, hws, hga, -⟩ := hly
        obtain ⟨rs9, hL9, hls9⟩ := hga.lst
        have cAl := RAll_any (g := 2) (by decide) hL9 (by omega) (fun p hp => sg.good.2.2.2.2.2.2.2.1 p (by rw [← hls9]; exact hp))
        rw [hls9] at cAl
        have hus := sg.used
        rw [hfl, HS.out.2.1] at hus
        have hLb : (Ls.length : Int) ≤ 10 := by omega
        have HG := Lib.hid (And.intro sg (And.intro hfl (And.intro hbw hus)))
        clear sg hfl hLs hws hga hbw hlt hL9 hls9 hus
        go_wp2_with fail
        refine cAl.mono ?_
        rintro e wA ⟨AW, cW, news, rfl, hgw, hbA⟩
        obtain ⟨U, hU⟩ : ∃ U, (secsL 2 0 Ls).length = U := ⟨_, rfl⟩
        have hU2 : usedN Ls = U := by rw [← hU, secsL_len]
        rw [hU]
        have hUb : (U : Int) ≤ (H : Int) := by have := HG.out.2.2.2; omega
        have HA := Lib.hid (And.intro (HG.out.1.below hbA) (And.intro hgw (And.intro (HG.out.2.2.1.trans (hbA.mono HG.out.2.2.1.size)) (And.intro hU hU2))))
        have hst : startN S 2 = 2 := by unfold startN; rw [HS.out.2.1]; omega
        have HST := Lib.hid hst
        clear cAl hgw hbA hU hU2 hst
        go_wp2_with fail
        go_loopw [20, 21, 22, 90] (fun _ _ _ i wy => ∃ k2 : Nat, k2 ≤ H ∧ i = .int .i64 (k2 : Int) ∧ Below wA.heap.size wA wy) (fun _ _ _ i _ => H - (intOf i).toNat)
        case atStart => exact ⟨0, Nat.zero_le _, rfl, Below.refl _ _⟩
        case round =>
          obtain ⟨k2, hk2, rfl, hby⟩ := hrel
          have hk2b : (k2 : Int) ≤ 23 := by omega
          by_cases hlk : k2 < H
          · have hlk2 : (k2 : Int) < (H : Int) := by omega
            have cRd := fun x hx => (HA.out.1.below hby).read k2 (by rw [HG.out.2.1, HS.out.2.1]; exact hlk) x hx
            have HY := Lib.hid (And.intro hby hlk)
            clear hby hlk
            go_wp2_with fail
            refine (cRd _ (by rw [HG.out.2.1, HST.out]; omega)).mono ?_
            rintro e wD ⟨qD, rfl, hRD, hbD⟩
            have hbAD := HY.out.1.trans (hbD.mono HY.out.1.size)
            by_cases hkU : k2 < U
            · have hkU2 : (k2 : Int) < (U : Int) := by omega
              have hkU3 : ¬ (U : Int) ≤ (k2 : Int) := by omega
              obtain ⟨b9, hb9⟩ : ∃ b, (secsL 2 0 Ls)[k2]? = some b := ⟨_, List.getElem?_eq_getElem (by rw [HA.out.2.2.2.1]; exact hkU)⟩
              obtain ⟨qW, Ar, cr, hAW, hcW, hrW⟩ := (HA.out.2.1.below hbAD).row k2 b9 hb9
              have hl9 := secs_256 2 Ls 0 b9 (List.mem_of_getElem? hb9)
              rw [List.getD_eq_getElem?_getD, hb9] at hRD
              rw [hl9] at hcW
              subst hAW
              have cS := Same_any (some ⟨qD, 0, none⟩) Ar 256 256 wD.heap.size 256 cr wD.heap.size b9 b9 wD hRD hl9 (by decide) hrW hl9 (by decide)
              rw [decide_eq_true rfl] at cS
              have HE := Lib.hid hbAD
              clear cRd hRD hbD hbAD hb9 hrW hl9 hkU
              go_wp2_with fail
              refine cS.mono ?_
              rintro e wE ⟨rfl, m9, rfl⟩
              have HF := Lib.hid (below_drewN HE.out m9)
              obtain ⟨wF, hwF⟩ : ∃ W, wD.drewN m9 = W := ⟨_, rfl⟩
              rw [hwF] at HF ⊢
              clear cS hwF
              go_wp2_with fail
              go_roundw
              case rel => exact ⟨k2 + 1, by have := HY.out.2; omega, congrArg (Value.int .i64) (by omega), HF.out⟩
              case measure => have := HY.out.2; simp [intOf]; omega
            · have hkU2 : ¬ (k2 : Int) < (U : Int) := by omega
              have hkU3 : (U : Int) ≤ (k2 : Int) := by omega
              have cCl := fun x hx => (HA.out.1.below hbAD).clean k2 (by rw [HA.out.2.2.2.2]; omega) (by rw [HG.out.2.1, HS.out.2.1]; exact HY.out.2) x hx
              have HE := Lib.hid hbAD
              clear cRd hRD hbD hbAD hkU
              go_wp2_with fail
              refine (cCl _ (by rw [HG.out.2.1, HST.out]; omega)).mono ?_
              rintro e wE ⟨rfl, hwE⟩
              subst hwE
              clear cCl
              go_wp2_with fail
              go_roundw
              case rel => exact ⟨k2 + 1, by have := HY.out.2; omega, congrArg (Value.int .i64) (by omega), HE.out⟩
              case measure => have := HY.out.2; simp [intOf]; omega
          · have hlk2 : ¬ (k2 : Int) < (H : Int) := by omega
            have sgY := HA.out.1.below hby
            have cHd := fun x hx => sgY.head x hx
            have HY := Lib.hid (And.intro sgY (HA.out.2.2.1.trans (hby.mono HA.out.2.2.1.size)))
            clear sgY hby hlk
            go_wp2_with fail
            refine (cHd _ (by decide)).mono ?_
            rintro e wD ⟨qD, rfl, hRD, hbD⟩
            have cH2 := RHead_any 2 (by decide) wD
            have HD := Lib.hid (And.intro hRD hbD)
            clear cHd hRD hbD
            go_wp2_with fail
            refine cH2.mono ?_
            rintro e wE ⟨bE, rfl, hoE, hbE⟩
            have hRE : Rd wE wE.heap.size (some ⟨bE, 0, none⟩) (headL 2) := by
              obtain ⟨-, A', c', e', -, -, hr⟩ := own_form hoE
              injection e' with e1 e2 e3
              subst e1
              exact hr
            have cS := Same_any (some ⟨qD, 0, none⟩) (some ⟨bE, 0, none⟩) 256 256 wE.heap.size 256 256 wE.heap.size (headL 2) (headL 2) wE ((HD.out.1.below hbE).more hbE.size) (sector_len _ _) (by decide) hRE (sector_len _ _) (by decide)
            rw [decide_eq_true rfl] at cS
            have hbYE := HD.out.2.trans (hbE.mono HD.out.2.size)
            have HE := Lib.hid (And.intro (HY.out.1.below hbYE) (HY.out.2.trans (hbYE.mono HY.out.2.size)))
            clear cH2 hoE hbE hRE hbYE
            go_wp2_with fail
            refine cS.mono ?_
            rintro e wF ⟨rfl, m9, rfl⟩
            have sgF := HE.out.1.below (below_drewN (Below.refl _ _) m9)
            have hbF := below_drewN HE.out.2 m9
            obtain ⟨wG, hwG⟩ : ∃ W, wE.drewN m9 = W := ⟨_, rfl⟩
            rw [hwG] at sgF hbF ⊢
            have cRm := sgF.room
            rw [HG.out.2.1, HS.out.2.1, HA.out.2.2.2.2] at cRm
            have HF := Lib.hid (And.intro sgF hbF)
            clear cS hwG sgF hbF
            go_wp2_with fail
            refine cRm.mono ?_
            rintro e wH ⟨rfl, m8, rfl⟩
            have cCt := (HF.out.1.below (below_drewN (Below.refl _ _) m8)).count
            have HH := Lib.hid (below_drewN HF.out.2 m8)
            clear cRm
            go_wp2_with fail
            refine cCt.mono ?_
            rintro e wI ⟨rfl, hwI⟩
            subst hwI
            clear cCt
            go_wp2_with fail
            go_ret
            exact ⟨rfl, HH.out⟩
end
end Go.Proofs.Ytbaenpgjggojaaa
