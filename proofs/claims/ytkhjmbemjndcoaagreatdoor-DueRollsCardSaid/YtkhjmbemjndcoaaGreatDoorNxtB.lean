/-
  Days in their order; the first open day from one on: the program's. Conditions: the days are there.
-/
import Derived.Test.YtkhjmbemjndcoaaGreatDoorNxtA
import Derived.IntWalk
namespace Go.Proofs.YtkhjmbemjndcoaaGreatDoor
open Go.RowKit
open Go.Sort (putRow Holds swp ltInt PermIn SortedIn)

set_option maxRecDepth 100000 in
set_option maxHeartbeats 1000000 in
theorem CloneH_any (ad : Addr) (n c : Nat) (X : List Value) (w : World) (hn : X.length = n * 1) (hX : ∀ j u, X[j]? = some u → w.cell? (ad.add j) = some u) (h1 : ∀ u ∈ X, u.oneCell' = true) (hm : n ≤ 1000000) :
    Calls Tryz.prog 43 #[.slice (some ad) n c] w fun e w' => ∃ g cap, e = .returned (.slice (some ⟨g, 0, none⟩) n cap) ∧ w'.ownsRow w.heap.size 23 1 (.slice (some ⟨g, 0, none⟩) n cap) n X ∧ Below w.heap.size w w' := by
  have heq := fun W : World => Lib.run_eql_slice_nil W 26 23 (some ad) n c 0 0 Tryz.underlying26
  obtain ⟨i0, hi, hz0, hz1, hz2⟩ := info_parts infoH
  have HO : Hid ((w.alloc (.cells #[] 23)).ownsRow w.heap.size 23 1 (.slice (some ⟨w.heap.size, 0, none⟩) 0 0) 0 []) := Lib.hid (World.ownsRow_lit w #[] 0 (Nat.le_refl _) (by decide) (by simp))
  have HX : Hid (∀ j u, X[j]? = some u → (w.alloc (.cells #[] 23)).cell? (ad.add j) = some u) := Lib.hid fun j u hu => by
    have h := hX j u hu
    rw [World.cell?_alloc_lt _ _ _ (World.block_lt_of_cell? w _ h)]
    exact h
  have H1 := Lib.hid h1
  have HN := Lib.hid hn
  have HI := Lib.hid (And.intro hi (And.intro hz0 (And.intro hz1 hz2)))
  clear hX h1 hn hi hz0 hz1 hz2
  go_enter Tryz.func43, Tryz.ntmps43
  go_wp2_with (with_reducible refine wpList_append_own_at _ (o := ⟨some 7, _, _, _, _, _⟩) rfl (.tmp 5) (.tmp 6) 26 rfl w.heap.size 23 i0 (.int .i32 0) 1 4 Tryz.underlying26 HI.out.1 HI.out.2.1 HI.out.2.2.1 HI.out.2.2.2 ?hz (by decide) (.slice (some ⟨w.heap.size, 0, none⟩) 0 0) 0 [] ?h1 HO.out ad n c X ?h2 HN.out HX.out H1.out ?h3 ?h4 ?h5 ?_)
  case hz => rfl
  case h1 => rfl
  case h2 => rfl
  case h3 => unfold maxLen; omega
  case h4 => omega
  case h5 => simp
  intro v' w1 hown hg hnil hloc
  have hb : Below w.heap.size w w1 := ((Below.refl _ w).alloc (Nat.le_refl _) _).grown hg (by simp) (fun k hk => by have hk : some w.heap.size = some k := hk; injection hk with hk; omega)
  have hform : ∃ g cap, v' = .slice (some ⟨g, 0, none⟩) n cap := by
    rcases hown.2 with ⟨hv, _⟩ | ⟨g, cap, cur, hv, _⟩
    · exact absurd hv hnil
    · exact ⟨g, cap, hv⟩
  obtain ⟨g, cap, rfl⟩ := hform
  have HOW := Lib.hid hown
  have HB := Lib.hid hb
  clear hown hg hnil hloc hb heq HX HO HI
  go_wp2
  go_ret
  exact ⟨g, cap, rfl, HOW.out, HB.out⟩
theorem own_blkH {w : World} {base k n cap g : Nat} {e : TypeId} {X : List Value} (h : w.ownsRow base e k (.slice (some ⟨g, 0, none⟩) n cap) n X) : ∃ tl, Blk w g e (X.toArray ++ tl) ∧ base ≤ g ∧ n ≤ cap := by
  rcases h.2 with ⟨hv, _⟩ | ⟨g', cap', cur, hv, hb, hg, hnc, _, _, ht⟩
  · cases hv
  · injection hv with hv _ hcp
    injection hv with hv
    injection hv with hv _ _
    subst hv hcp
    refine ⟨(cur.toList.drop (n * k)).toArray, ?_, hb, hnc⟩
    have e : cur = X.toArray ++ (cur.toList.drop (n * k)).toArray := by
      apply Array.toList_inj.1
      rw [Array.toList_append, ← ht]
      exact (List.take_append_drop _ _).symm
    rw [← e]
    exact hg
theorem holds_blk {w : World} {g : Nat} {e : TypeId} {l : List Int} {tl : Array Value} (h : Blk w g e ((l.map encH).toArray ++ tl)) : Holds eD w g 0 l.toArray := fun j hj => by
  have hj' : j < l.length := by simpa using hj
  refine ⟨?_, h.frozen _⟩
  rw [h.cell, Nat.zero_add, Array.getElem?_append_left (by simpa using hj')]
  simp [hj', encH]
theorem at_below {w w' : World} {g off B : Nat} {d : Array Int} (h : At9 w g off d w') (hB : B ≤ g) (hw : B ≤ w.heap.size) : Below B w w' := by
  obtain ⟨n, os, rfl⟩ := h
  refine ⟨rfl, rfl, rfl, by simp [Go.Sort.grow], fun i hi => ?_⟩
  have hi2 : i < w.heap.size := by omega
  simp only [Go.Sort.grow, Go.Sort.putRow, Go.Sort.mapBlock, Go.Sort.ahead]
  rw [Array.getElem?_append_left (by simpa using hi2), Array.getElem?_modify, if_neg (by omega)]
theorem holds_rv {w : World} {g B : Nat} {d : Array Int} (h : Holds eD w g 0 d) (hg : g < B) : Rv w B (some ⟨g, 0, none⟩) (d.toList.map encH) := fun _ => ⟨g, 0, rfl, hg, fun j u hu => by
  rw [List.getElem?_map] at hu
  cases hx : d.toList[j]? with
  | none => rw [hx] at hu; cases hu
  | some x =>
    rw [hx] at hu
    injection hu with hu
    subst hu
    have hj : j < d.size := by
      rcases Nat.lt_or_ge j d.size with h' | h'
      · exact h'
      · rw [Array.getElem?_toList, Array.getElem?_eq_none h'] at hx; cases hx
    rw [(h j hj).1]
    rw [Array.getElem?_toList, Array.getElem?_eq_getElem hj] at hx
    injection hx with hx
    rw [getElem!_pos d j hj, hx]
    rfl⟩
theorem sorted_ris {n : Nat} {d : Array Int} (hs : d.size = n) (h : SortedIn ltInt 0 n d) : Ris d.toList := fun i hi => by
  have hi' : i + 1 < d.size := by simpa using hi
  have := h i (i + 1) (Nat.zero_le _) (by omega) (by omega)
  have e := of_decide_eq_false this
  rw [getElem!_pos d (i + 1) hi', getElem!_pos d i (by omega)] at e
  rw [List.getD_eq_getElem?_getD, List.getD_eq_getElem?_getD, Array.getElem?_toList, Array.getElem?_toList, Array.getElem?_eq_getElem hi', Array.getElem?_eq_getElem (show i < d.size by omega)]
  simp only [Option.getD_some]
  omega
theorem perm_mem {n : Nat} {d d' : Array Int} (hs : d.size = n) (h : PermIn 0 n d d') : ∀ x, x ∈ d'.toList ↔ x ∈ d.toList := fun x => by
  have h3 := h.2.2
  have e1 : d'.extract 0 n = d' := by rw [← hs, ← h.1]; simp
  have e2 : d.extract 0 n = d := by rw [← hs]; simp
  rw [e1, e2] at h3
  exact h3.mem_iff
set_option maxRecDepth 20000 in
set_option maxHeartbeats 1000000 in
theorem Rising9 (A : Option Addr) (n c : Nat) (l : List Int) (w : World) (hR : Rv w w.heap.size A (l.map encH)) (hn : l.length = n) (hnc : n ≤ c) (hm : n ≤ 1000) :
    Calls Tryz.prog 29 #[.slice A n c] w fun e w' => ∃ A' c' s, e = .returned (.slice A' n c') ∧ n ≤ c' ∧ s.length = n ∧ (∀ x, x ∈ s ↔ x ∈ l) ∧ Ris s ∧ Rv w' w'.heap.size A' (s.map encH) ∧ Below w.heap.size w w' := by
  have hI := IsS9 A n c w.heap.size l w hR hn (by omega)
  have HR := Lib.hid hR
  have HN := Lib.hid hn
  clear hR hn
  go_enter Tryz.func29, Tryz.ntmps29
  go_wp2_with fail
  refine hI.mono ?_
  rintro e w1 ⟨b, rfl, hb, hb0, q, rfl⟩
  have HB := Lib.hid hb
  have HB0 := Lib.hid hb0
  clear hb hb0 hI
  rcases b with _ | _
  · by_cases h0 : 0 < n
    · obtain ⟨b0, o0, hA, _, hc⟩ := HR.out (by rw [List.length_map, HN.out]; exact h0)
      subst hA
      obtain ⟨w2, hw2⟩ : ∃ W, W = w.drewN q := ⟨_, rfl⟩
      have hb2 : Below w.heap.size w w2 := by rw [hw2]; exact below_drewN (Below.refl _ w) q
      have hC := CloneH_any ⟨b0, o0, none⟩ n c (l.map encH) w2 (by rw [List.length_map, HN.out, Nat.mul_one]) (fun j u hu => by
        rw [hw2]
        have := hc j u hu
        simpa [go_sem] using this) (encH_one l) (by omega)
      rw [← hw2]
      have HB2 := Lib.hid hb2
      have HC := Lib.hid hC
      clear hw2 hb2 hC hc
      go_wp2_with fail
      refine HC.out.mono ?_
      rintro e w3 ⟨g, cap, rfl, ho, hb3⟩
      obtain ⟨tl, hbk, hg, hnc3⟩ := own_blkH ho
      have hS := Sort9 n g 0 cap l.toArray w3 (by simpa using HN.out) (holds_blk hbk) hbk.lt (by omega)
      have HS := Lib.hid hS
      have HBK := Lib.hid hbk
      have HB3 := Lib.hid (HB2.out.trans (hb3.mono HB2.out.size))
      have hgw : w.heap.size ≤ g := Nat.le_trans HB2.out.size hg
      have HG := Lib.hid hgw
      clear ho hb3 hbk hS hg HC hgw
      go_wp2_with fail
      refine HS.out.mono ?_
      rintro e w4 ⟨rfl, d', hp, hs, hA⟩
      have hsz : d'.size = n := hp.1.trans (by simpa using HN.out)
      have hlz : (l.toArray).size = n := by simpa using HN.out
      obtain ⟨hH4, hg4⟩ := At9.lies (show At9 w3 g 0 d' w4 from hA) (holds_blk HBK.out) hlz hsz HBK.out.lt
      have HRES : Hid (n ≤ cap ∧ d'.toList.length = n ∧ (∀ x, x ∈ d'.toList ↔ x ∈ l) ∧ Ris d'.toList ∧ Rv w4 w4.heap.size (some ⟨g, 0, none⟩) (d'.toList.map encH) ∧ Below w.heap.size w w4) := Lib.hid ⟨hnc3, by simpa using hsz, fun x => by rw [perm_mem hlz hp x], sorted_ris hsz hs, holds_rv hH4 hg4, HB3.out.trans (at_below (show At9 w3 g 0 d' w4 from hA) HG.out HB3.out.size)⟩
      clear hp hs hA hsz hlz hH4 hg4 HS HBK HB3 HG
      go_wp2_with fail
      go_ret
      exact ⟨_, cap, d'.toList, rfl, HRES.out⟩
    · exfalso
      have := (by first | exact HB0.out rfl | exact HB0.out trivial : 2 ≤ l.length)
      rw [HN.out] at this
      omega
  · go_wp2_with fail
    go_ret
    exact ⟨A, c, l, rfl, hnc, HN.out, fun x => Iff.rfl, (by first | exact HB.out rfl | exact HB.out trivial), HR.out, below_drewN (Below.refl _ w) q⟩
end Go.Proofs.YtkhjmbemjndcoaaGreatDoor
