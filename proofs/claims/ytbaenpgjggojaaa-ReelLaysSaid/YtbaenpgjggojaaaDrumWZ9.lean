/-
drum.Fall: the drum that a stop of power leaves. Conditions: the drum is known whole, the Bools are there.
-/
import Derived.Test.YtbaenpgjggojaaaDrumVZ9
namespace Go.Proofs.Ytbaenpgjggojaaa
open Go.RowKit

theorem flatS_len (fl : List (List UInt8)) (h : ∀ s ∈ fl, s.length = 256) : (flatS fl).toList.length = fl.length * 256 := Array.length_toList.trans (flatS_size _ h)
theorem splice_all {α : Type} (cur L : List α) (h : cur.length = L.length) : splice cur 0 L = L := by
  unfold splice
  rw [List.take_zero, List.nil_append, List.drop_of_length_le (by omega), List.append_nil]
/-- A copy of elements of k cells each into a block that is known whole. -/
theorem run_copyRow {P : Program} (w : World) (dT sT ty elem : TypeId) (g o dLen dCap : Nat) (a : Addr) (sLen sCap k : Nat) (cur : Array Value) (t : TypeId) (cs : List Value)
    (hu : P.underlying dT = some (.slice elem)) (hs : (P.info? elem).map (·.size) = some k)
    (hg : w.heap[g]? = some (.cells cur t (0, 0))) (hn : cs.length = Nat.min sLen dLen * k)
    (hsrc : ∀ j v, cs[j]? = some v → w.cell? (a.add j) = some v) (hfit : o + cs.length ≤ cur.size) (h1 : ∀ v ∈ cs, v.oneCell' = true) :
    (Builtin.copy_ #[dT, sT] ty #[.slice (some ⟨g, o, none⟩) dLen dCap, .slice (some a) sLen sCap]).run P w = .ok (goInt (Nat.min sLen dLen)) (w.setRow g (splice cur.toList o cs).toArray) := by
  have hl := run_loadCells_list (P := P) w a cs hsrc
  have hst := run_storeCells_at P g o t cs 0 cur w hg (by simpa using hfit) h1
  have e : splice cur.toList o cs = cur.toList.take o ++ cs ++ cur.toList.drop (o + cs.length) := by unfold splice; rw [List.append_assoc]
  rw [e]
  cases hq : P.info? elem with
  | none => simp [hq] at hs
  | some i =>
    have hi : i.size = k := by simpa [hq] using hs
    simp [Builtin.copy_, run_underlying hu, Builtin.lenOf, Builtin.firstCells, sizeOf, typeInfo, hq, hi, ← hn, hl, hst]
theorem opC_copyRow {P : Program} {dst : Option Tmp} {x y : Operand} {dT sT ty elem : TypeId} {pos : String} {af : Array Edge} {a : Act} {w : World} {K : Value → World → Prop} {g o dLen dCap sLen sCap k : Nat} {ad : Addr} {cur : Array Value} {t : TypeId} {cs : List Value}
    (hx : a.eval x = .slice (some ⟨g, o, none⟩) dLen dCap) (hy : a.eval y = .slice (some ad) sLen sCap) (hu : P.underlying dT = some (.slice elem)) (hs : (P.info? elem).map (·.size) = some k)
    (hg : w.heap[g]? = some (.cells cur t (0, 0))) (hn : cs.length = Nat.min sLen dLen * k) (hsrc : ∀ j v, cs[j]? = some v → w.cell? (ad.add j) = some v) (hfit : o + cs.length ≤ cur.size) (h1 : ∀ v ∈ cs, v.oneCell' = true)
    (hk : K (goInt (Nat.min sLen dLen)) (w.setRow g (splice cur.toList o cs).toArray)) : opC P ⟨dst, .call { callee := .builtin .copy, args := #[x, y], argTypes := #[dT, sT] }, ty, pos, af, none⟩ a w K := by
  have hrun := run_copyRow (P := P) w dT sT ty elem g o dLen dCap ad sLen sCap k cur t cs hu hs hg hn hsrc hfit h1
  constructor
  rw [show (execOp a.eval ⟨dst, .call { callee := .builtin .copy, args := #[x, y], argTypes := #[dT, sT] }, ty, pos, af, none⟩).run P w = .ok (.value (goInt (Nat.min sLen dLen))) (w.setRow g (splice cur.toList o cs).toArray) by
    simp [execOp, resolve, invoke, builtin, hx, hy, hrun, Result.andThen]]
  exact hk

section
variable {w : World} {base d f g : Nat} {V : Option Addr} {cv : Nat} {T : Tails} {fl : List (List UInt8)} {ws : List (Nat × List UInt8)} {ls : List Nat} {left : Int}
/-- The sectors that a fall leaves. -/
def fallOf (fl : List (List UInt8)) (ws : List (Nat × List UInt8)) (keep : List Bool) (torn : Int) : List (List UInt8) := fallK fl ws keep torn (lastOf keep (min ws.length keep.length)) (lastOf keep (min ws.length keep.length))

set_option maxRecDepth 20000 in
set_option maxHeartbeats 8000000 in
theorem Fall_any (h : Dru w base d f g V cv T fl ws ls left) (hr : Ri fl.length ws ls) (A : Option Addr) (n c B : Nat) (keep : List Bool) (hK : Rb w B A keep) (hB : B ≤ w.heap.size) (hn : keep.length = n) (hm : n ≤ maxLen) (torn : Int) :
    Calls Try.prog 25 #[.pointer (some ⟨d, 0, none⟩), .slice A n c, .int .i64 torn] w fun e w' =>
      ∃ d' f' g', e = .returned (.pointer (some ⟨d', 0, none⟩)) ∧ Dru w' w.heap.size d' f' g' none 0 ⟨fl.length, fl.length, #[], #[]⟩ (fallOf fl ws keep torn) [] (List.replicate fl.length 0) (-1) ∧ Below w.heap.size w w' := by
  subst hn
  obtain ⟨c0, c1, -, -, -, -, -⟩ := dhead_cells h.head
  have hfw := h.few
  have hwm := h.fewW
  go_enter Try.func25, Try.ntmps25
  go_wp2_with fail
  refine (dblank_any fl.length hfw w).mono ?_
  rintro e w1 ⟨d', f', g', rfl, hbw1, hd1, hd2, hd3, hne1, hne2, hne3, hBd, hBf, hBg⟩
  rw [void_flat] at hBf
  rw [nones_flat] at hBg
  have H := Lib.hid (h.below hbw1)
  have H0 := Lib.hid h
  have HR := Lib.hid hr
  have HB1 := Lib.hid hbw1
  have HBD := Lib.hid hBd
  have HBF := Lib.hid hBf
  have HBG := Lib.hid hBg
  have HNE := Lib.hid (And.intro hne1 (And.intro hne2 hne3))
  have HGE := Lib.hid (And.intro hd1 (And.intro hd2 hd3))
  have L22 : ∀ W', Below w1.heap.size w1 W' → (Instr.loadAt 82 (.pointer (some ⟨d', 0, none⟩))).run Try.prog W' = .ok (.slice (some ⟨f', 0, none⟩) fl.length fl.length) W' := fun W' hb => by
    obtain ⟨c0, -⟩ := dhead_cells (HBD.out.below hb HBD.out.lt)
    go_simp
  have L26 : ∀ W', Below w1.heap.size w1 W' → (Instr.loadAt 82 (.pointer (some ⟨d, 0, none⟩))).run Try.prog W' = .ok (.slice (some ⟨f, 0, none⟩) fl.length T.cf) W' := fun W' hb => by
    obtain ⟨c0, -⟩ := dhead_cells (H.out.head.below hb H.out.head.lt)
    go_simp
  clear h hr hbw1 hBd hBf hBg c0 c1 hd1 hd2 hd3 hne1 hne2 hne3
  go_wp2_with fail
  refine wp_region_flow_last (l := [_, _, _, _, _, _, _, _]) (ol := _) rfl [some 20, some 21, some 22, some 23, some 24, some 25, some 26, some 27] (fun i => ([.is (.pointer (some ⟨d', 0, none⟩)), .is (.pointer (some ⟨d', 0, none⟩)), .is (.pointer (some ⟨d', 0, none⟩)), .is (.slice (some ⟨f', 0, none⟩) fl.length fl.length), .is (.pointer (some ⟨d, 0, none⟩)), .is (.pointer (some ⟨d, 0, none⟩)), .is (.pointer (some ⟨d, 0, none⟩)), .is (.slice (some ⟨f, 0, none⟩) fl.length T.cf)] : List Flw).getD i .any) (by kernel_rfl) (by kernel_rfl) (by kernel_rfl) rfl rfl ?_ ?_
  · skip
    refine ⟨step_free rfl (fun aF wF hs hb => ?_), ?_⟩
    · obtain ⟨x0, -⟩ := hs
      have e0 : aF.eval (.tmp 7) = .pointer (some ⟨d', 0, none⟩) := x0
      exact opC_move e0 ⟨rfl, below_same wF⟩
    refine ⟨step_free rfl (fun aF wF hs hb => ?_), ?_⟩
    · obtain ⟨x0, -⟩ := hs
      have e0 : aF.eval (.tmp 20) = .pointer (some ⟨d', 0, none⟩) := x0
      refine opC_value (v := .pointer (some ⟨d', 0, none⟩)) ?_ ⟨rfl, below_same wF⟩
      have t0 := ev_of e0
      simp [execOp, go_sem, t0]
    refine ⟨step_free rfl (fun aF wF hs hb => ?_), ?_⟩
    · obtain ⟨x0, -⟩ := hs
      have e0 : aF.eval (.tmp 21) = .pointer (some ⟨d', 0, none⟩) := x0
      refine opC_value (v := .pointer (some ⟨d', 0, none⟩)) ?_ ⟨rfl, below_same wF⟩
      have t0 := ev_of e0
      simp [execOp, go_sem, t0]
    refine ⟨step_free rfl (fun aF wF hs hb => ?_), ?_⟩
    · obtain ⟨x0, -⟩ := hs
      have e0 : aF.eval (.tmp 22) = .pointer (some ⟨d', 0, none⟩) := x0
      exact opC_load e0 (L22 wF hb) ⟨rfl, below_same wF⟩
    refine ⟨step_free rfl (fun aF wF hs hb => ?_), ?_⟩
    · obtain ⟨x0, -⟩ := hs
      have e0 : aF.eval (.tmp 0) = .pointer (some ⟨d, 0, none⟩) := x0
      exact opC_move e0 ⟨rfl, below_same wF⟩
    refine ⟨step_free rfl (fun aF wF hs hb => ?_), ?_⟩
    · obtain ⟨x0, -⟩ := hs
      have e0 : aF.eval (.tmp 24) = .pointer (some ⟨d, 0, none⟩) := x0
      refine opC_value (v := .pointer (some ⟨d, 0, none⟩)) ?_ ⟨rfl, below_same wF⟩
      have t0 := ev_of e0
      simp [execOp, go_sem, t0]
    refine ⟨step_free rfl (fun aF wF hs hb => ?_), ?_⟩
    · obtain ⟨x0, -⟩ := hs
      have e0 : aF.eval (.tmp 25) = .pointer (some ⟨d, 0, none⟩) := x0
      refine opC_value (v := .pointer (some ⟨d, 0, none⟩)) ?_ ⟨rfl, below_same wF⟩
      have t0 := ev_of e0
      simp [execOp, go_sem, t0]
    refine ⟨step_free rfl (fun aF wF hs hb => ?_), ?_⟩
    · obtain ⟨x0, -⟩ := hs
      have e0 : aF.eval (.tmp 26) = .pointer (some ⟨d, 0, none⟩) := x0
      exact opC_load e0 (L26 wF hb) ⟨rfl, below_same wF⟩
    exact trivial
  · intro fv w6 hf hb6
    have h3 : fv 3 = .slice (some ⟨f', 0, none⟩) fl.length fl.length := hf 3 23 rfl
    have h7 : fv 7 = .slice (some ⟨f, 0, none⟩) fl.length T.cf := hf 7 27 rfl
    have hf6 := HBF.out.below hb6 HBF.out.lt
    have hx6 := H.out.rows.below hb6 H.out.rows.lt
    have hfl := H.out.full
    clear hf L22 L26
    simp only [putF, Act.put, List.setIfInBounds_toArray, List.set_cons_zero, List.set_cons_succ]
    refine opC_copyRow (P := Try.prog) (k := 256) (cs := (flatS fl).toList) h3 h7 Try.underlying82 infoSec hf6 ?_ (fun j v hv => ?_) ?_ ?_ ?_
    · rw [Array.length_toList, flatS_size _ hfl]
      show _ = min fl.length fl.length * 256
      rw [Nat.min_self]
    · rw [Addr.add_mid, Nat.zero_add, hx6.cell]
      rw [Array.getElem?_toList] at hv
      have hj : j < (flatS fl).size := (Array.getElem?_eq_some_iff.1 hv).1
      rw [Array.getElem?_append_left hj]
      exact hv
    · rw [Array.length_toList, flatS_size _ hfl, flatS_size _ (fun s hs => by rw [(List.mem_replicate.1 hs).2]; exact List.length_replicate ..), List.length_replicate]
      omega
    · intro u hu
      unfold flatS at hu
      rw [List.mem_flatten] at hu
      obtain ⟨s, hs, hu⟩ := hu
      obtain ⟨x, _, rfl⟩ := List.mem_map.1 hs
      exact enc8_one x u hu
    have e7 : (splice (flatS (List.replicate fl.length zeros)).toList 0 (flatS fl).toList).toArray = flatS fl ++ #[] := by
      rw [splice_all _ _ ((flatS_len _ (fun s hs => by rw [(List.mem_replicate.1 hs).2]; exact List.length_replicate ..)).trans (by rw [List.length_replicate]; exact (flatS_len _ hfl).symm)), Array.toArray_toList, Array.append_empty]
    rw [e7]
    obtain ⟨w2, hw2⟩ : ∃ w2, w2 = w6.setRow f' (flatS fl ++ #[]) := ⟨_, rfl⟩
    have hf7 : Blk w2 f' 78 (flatS fl ++ #[]) := by rw [hw2]; exact setRow_heap w6 f' _ _ _ _ hf6
    have hb2 : Below w.heap.size w w2 := by rw [hw2]; exact below_setRow (HB1.out.trans (hb6.mono HB1.out.size)) HGE.out.2.1 _
    have hd7 : Blk w2 d' 86 (dhead (some ⟨f', 0, none⟩) fl.length fl.length none 0 0 (some ⟨g', 0, none⟩) fl.length fl.length (-1)) := by rw [hw2]; exact (setRow_other w6 f' d' _ HNE.out.1).trans (HBD.out.below hb6 HBD.out.lt)
    have hg7 : Blk w2 g' 3 (encI (List.replicate fl.length 0)) := by rw [hw2]; exact (setRow_other w6 f' g' _ (Ne.symm HNE.out.2.2)).trans (HBG.out.below hb6 HBG.out.lt)
    have h2 := H0.out.below hb2
    have hK2 := hK.below (hb2.mono hB)
    rw [← hw2]
    have HF2 := Lib.hid hf7
    have HD2 := Lib.hid hd7
    have HG2 := Lib.hid hg7
    have HB2 := Lib.hid hb2
    have H2 := Lib.hid h2
    have HK2 := Lib.hid hK2
    obtain ⟨-, c1, -, -, -, -, -⟩ := dhead_cells h2.head
    clear hw2 hf7 hd7 hg7 hb2 h2 hK2 e7 h3 h7 hf6 hx6 hfl hb6 HB1 HBD HBF HBG H
    go_wp2_with fail
    refine (lastKept_any A keep.length c B ws.length keep w2 HK2.out rfl hm (by unfold maxLen; omega)).mono ?_
    rintro e w3 ⟨rfl, rfl⟩
    obtain ⟨t, ht⟩ : ∃ t, t = lastOf keep (min ws.length keep.length) := ⟨_, rfl⟩
    rw [← ht]
    have htl : t ≤ min ws.length keep.length := by rw [ht]; exact lastOf_le _ _
    have HT := Lib.hid ht
    have t1 : ((t : Nat) : Int) - 1 + 1 = (t : Int) := by omega
    have t2 : (t : Int) ≤ (ws.length : Int) := by omega
    have t3 : t ≤ ws.length := by omega
    have t4 : t ≤ keep.length := by omega
    have hcv : t ≤ cv := by
      rcases H2.out.row.2 with ⟨hv, hn⟩ | ⟨q, cap, cur, hv, _, _, hnc, _⟩
      · omega
      · injection hv with _ _ e; omega
    have t5 : (t : Int) ≤ (cv : Int) := by omega
    clear ht htl
    go_wp2
    go_loopw [9, 10, 11, 44] (fun _ _ _ z wr => ∃ k : Nat, k ≤ t ∧ z = .int .i64 k ∧ Blk wr f' 78 (flatS (fallK fl ws keep torn t k) ++ #[]) ∧ Kept (fun i => i = f') w3 wr) (fun _ _ _ z _ => t - (intOf z).toNat)
    case atStart => exact ⟨0, Nat.zero_le _, rfl, HF2.out, Kept.refl _ _⟩
    case round =>
      obtain ⟨k, hk, rfl, hb1, hk1⟩ := hrel
      by_cases hlt : k < t
      · have hkw : k < ws.length := by omega
        obtain ⟨v, hV, hv, hrg⟩ := H2.out.rowAt k hkw
        obtain ⟨⟨s0, X⟩, hx⟩ : ∃ x, x = ws[k] := ⟨_, rfl⟩
        have hil : s0 < fl.length := by have := HR.out.at_ _ (List.getElem_mem hkw); rw [← hx] at this; exact this
        have hXl : X.length = 256 := by have := H2.out.fullW _ (List.getElem_mem hkw); rw [← hx] at this; exact this
        have hgk : ws.getD k (0, []) = (s0, X) := by rw [hx, List.getD_eq_getElem?_getD, List.getElem?_eq_getElem hkw]; rfl
        have hf2 : w.heap.size ≤ f' := HGE.out.2.1
        have hvf : v ≠ f' := by have := H0.out.vlt _ hV; exact fun e => by subst e; exact absurd this (by show ¬ v < _; omega)
        have HRG : Hid (wr.rangeAt v (k * 257) (encW (s0, X))) := Lib.hid (by rw [hx]; exact fun j u hu => (World.cell?_of_block (hk1.block v hv hvf)).trans (hrg j u hu))
        have HAF : Hid (∀ s ∈ fallK fl ws keep torn t k, s.length = 256) := Lib.hid (fallK_full keep torn t H2.out.full H2.out.fullW HR.out.at_ k (by omega))
        obtain ⟨kb, ko, hA, hkb, hkc⟩ := HK2.out.at_ (k := k) (by omega)
        have hkc1 : wr.cell? ⟨kb, ko + k, none⟩ = some (.bool keep[k]) := (World.cell?_of_block (hk1.block kb (by have := HB2.out.size; omega) (by omega))).trans hkc
        have hd : Blk wr d' 86 (dhead (some ⟨f', 0, none⟩) fl.length fl.length none 0 0 (some ⟨g', 0, none⟩) fl.length fl.length (-1)) := (hk1.block d' HD2.out.lt HNE.out.1).trans HD2.out
        have hkg : keep.getD k false = keep[k] := by rw [List.getD_eq_getElem?_getD, List.getElem?_eq_getElem (by omega)]; rfl
        have HSN : Hid (keep[k] = false → fallK fl ws keep torn t (k + 1) = fallK fl ws keep torn t k) := Lib.hid fun e => by rw [fallK, hkg, e]; rfl
        have HSY : Hid (keep[k] = true → (fallK fl ws keep torn t k).set s0 (tear (howM torn t k) X ((fallK fl ws keep torn t k).getD s0 [])) = fallK fl ws keep torn t (k + 1)) := Lib.hid fun e => by rw [fallK, hkg, e, hgk]; rfl
        have HF1 := Lib.hid hb1
        have HK1 := Lib.hid hk1
        have HD := Lib.hid hd
        have HFS : Hid (f' < wr.heap.size) := Lib.hid hb1.lt
        have hkbs : kb < wr.heap.size := by have := hk1.size; have := HB2.out.size; omega
        have i0 : (0 : Int) ≤ (k : Int) := by omega
        have i1 : (k : Int) < (t : Int) := by omega
        have i2 : (k : Int) < (keep.length : Int) := by omega
        obtain ⟨cs, hcs⟩ : ∃ cs, cs = encW (s0, X) := ⟨_, rfl⟩
        rw [← hcs] at HRG
        have HCL : Hid (cs.length = 257) := Lib.hid (by rw [hcs]; exact encW_length _ hXl)
        have HCO : Hid (∀ u ∈ cs, u.oneCell' = true) := Lib.hid (by rw [hcs]; exact encW_one _)
        have HCS := Lib.hid hcs
        generalize keep[k] = KB at hkc1 HSN HSY
        subst hV hA
        clear hb1 hk1 hd hx hrg hcs hkc hkg hgk hvf hf2 hkb
        cases KB with
        | false =>
          have HSZ := Lib.hid (HSN.out rfl)
          clear HSN HSY
          go_wp2_with (first | (with_reducible refine wpl_loadW (o := ⟨some 48, _, _, _, _, _⟩) rfl (.tmp 47) rfl v (k * 257) rfl cs HCL.out HRG.out ?_) | (with_reducible refine wpl_alloc (o := ⟨some 10, _, _, _, _, _⟩) rfl rfl ?_) | (with_reducible refine wpl_store2 (o := ⟨none, _, _, _, _, _⟩) rfl (.tmp 10) (.tmp 48) rfl cs HCL.out HCO.out rfl rfl ?_))
          go_roundw
          case rel => exact ⟨k + 1, by omega, by go_num, by rw [HSZ.out]; exact HF1.out.alloc _, HK1.out.trans (Kept.of_below (own := fun _ => False) ((Below.refl _ wr).alloc (Nat.le_refl _) _)) (fun _ _ h => h.elim)⟩
          case measure => simp [intOf]; omega
        | true =>
          have HSZ := Lib.hid (HSY.out rfl)
          clear HSN HSY
          go_wp2_with (first | (with_reducible refine wpl_loadW (o := ⟨some 48, _, _, _, _, _⟩) rfl (.tmp 47) rfl v (k * 257) rfl cs HCL.out HRG.out ?_) | (with_reducible refine wpl_alloc (o := ⟨some 10, _, _, _, _, _⟩) rfl rfl ?_) | (with_reducible refine wpl_store2 (o := ⟨none, _, _, _, _, _⟩) rfl (.tmp 10) (.tmp 48) rfl cs HCL.out HCO.out rfl rfl ?_))
          · have HSTEP : Hid ((fallK fl ws keep torn t k).set s0 (tear (torn.toNat) X ((fallK fl ws keep torn t k).getD s0 [])) = fallK fl ws keep torn t (k + 1)) := Lib.hid (by rw [← HSZ.out, howM, if_pos ⟨by omega, by omega, by omega⟩])
            have m0 : (0 : Int) ≤ torn := by omega
            have m1 : torn ≤ (256 : Int) := by omega
            have mn : torn.toNat ≤ 256 := by omega
            obtain ⟨B5, hB5⟩ : ∃ B, B = wr.heap.size := ⟨_, rfl⟩
            have HBE := Lib.hid hB5
            have hbox : Blk (wr.alloc (.cells cs.toArray 89)) B5 89 cs.toArray := by rw [hB5]; exact Blk.new wr _ _
            have hbw : Below wr.heap.size wr (wr.alloc (.cells cs.toArray 89)) := (Below.refl _ wr).alloc (Nat.le_refl _) _
            obtain ⟨W1, hW1⟩ : ∃ W, W = wr.alloc (.cells cs.toArray 89) := ⟨_, rfl⟩
            rw [← hB5]
            rw [← hW1] at hbox hbw ⊢
            clear hW1 hB5
            have HW1 := Lib.hid hbw
            have hd1 := HD.out.below hbw HD.out.lt
            have hf1 := HF1.out.below hbw HFS.out
            have L69 : ∀ W', Below W1.heap.size W1 W' → (Instr.loadAt 82 (.pointer (some ⟨d', 0, none⟩))).run Try.prog W' = .ok (.slice (some ⟨f', 0, none⟩) fl.length fl.length) W' := fun W' hb => by
              obtain ⟨c0, -⟩ := dhead_cells (hd1.below hb hd1.lt)
              go_simp
            have L71 : ∀ W', Below W1.heap.size W1 W' → (Instr.loadAt 3 (.pointer (some ⟨B5, 0, none⟩))).run Try.prog W' = .ok (.int .i64 (s0 : Int)) W' := fun W' hb => by
              have c0 := (hbox.below hb hbox.lt).cell 0
              rw [HCS.out] at c0
              have c1 : W'.cell? ⟨B5, 0, none⟩ = some (.int .i64 (s0 : Int)) := c0
              clear c0
              go_simp
            have q0 : (0 : Int) ≤ (s0 : Int) := by omega
            have q1 : (s0 : Int) < (fl.length : Int) := by omega
            refine wp_region_flow_last (l := [_, _, _, _, _, _, _, _, _, _, _]) (ol := _) rfl [some 67, some 68, some 69, some 70, some 71, some 72, some 73, some 74, some 75, some 76, some 77] (fun i => ([.is (.pointer (some ⟨d', 0, none⟩)), .is (.pointer (some ⟨d', 0, none⟩)), .is (.pointer (some ⟨d', 0, none⟩)), .is (.slice (some ⟨f', 0, none⟩) fl.length fl.length), .is (.pointer (some ⟨B5, 0, none⟩)), .is (.int .i64 (s0 : Int)), .is ((.pointer (some ⟨f', s0 * 256, none⟩))), .is (.int .i64 torn), .is ((.slice (some ⟨f', s0 * 256, none⟩) (torn.toNat) 256)), .is (.pointer (some ⟨B5, 1, none⟩)), .is ((.slice (some ⟨B5, 1, none⟩) 256 256))] : List Flw).getD i .any) (by kernel_rfl) (by kernel_rfl) (by kernel_rfl) rfl rfl ?_ ?_
            · skip
              refine ⟨step_free rfl (fun aF wF hs hb => ?_), ?_⟩
              · obtain ⟨x0, -⟩ := hs
                have e0 : aF.eval (.tmp 7) = .pointer (some ⟨d', 0, none⟩) := x0
                exact opC_move e0 ⟨rfl, below_same wF⟩
              refine ⟨step_free rfl (fun aF wF hs hb => ?_), ?_⟩
              · obtain ⟨x0, -⟩ := hs
                have e0 : aF.eval (.tmp 67) = .pointer (some ⟨d', 0, none⟩) := x0
                refine opC_value (v := .pointer (some ⟨d', 0, none⟩)) ?_ ⟨rfl, below_same wF⟩
                have t0 := ev_of e0
                simp [execOp, go_sem, t0]
              refine ⟨step_free rfl (fun aF wF hs hb => ?_), ?_⟩
              · obtain ⟨x0, -⟩ := hs
                have e0 : aF.eval (.tmp 68) = .pointer (some ⟨d', 0, none⟩) := x0
                refine opC_value (v := .pointer (some ⟨d', 0, none⟩)) ?_ ⟨rfl, below_same wF⟩
                have t0 := ev_of e0
                simp [execOp, go_sem, t0]
              refine ⟨step_free rfl (fun aF wF hs hb => ?_), ?_⟩
              · obtain ⟨x0, -⟩ := hs
                have e0 : aF.eval (.tmp 69) = .pointer (some ⟨d', 0, none⟩) := x0
                exact opC_load e0 (L69 wF hb) ⟨rfl, below_same wF⟩
              refine ⟨step_free rfl (fun aF wF hs hb => ?_), ?_⟩
              · obtain ⟨x0, -⟩ := hs
                have e0 : aF.eval (.tmp 10) = .pointer (some ⟨B5, 0, none⟩) := x0
                refine opC_value (v := .pointer (some ⟨B5, 0, none⟩)) ?_ ⟨rfl, below_same wF⟩
                have t0 := ev_of e0
                simp [execOp, go_sem, t0]
              refine ⟨step_free rfl (fun aF wF hs hb => ?_), ?_⟩
              · obtain ⟨x0, -⟩ := hs
                have e0 : aF.eval (.tmp 71) = .pointer (some ⟨B5, 0, none⟩) := x0
                exact opC_load e0 (L71 wF hb) ⟨rfl, below_same wF⟩
              refine ⟨step_free rfl (fun aF wF hs hb => ?_), ?_⟩
              · obtain ⟨x0, x1, -⟩ := hs
                have e0 : aF.eval (.tmp 70) = .slice (some ⟨f', 0, none⟩) fl.length fl.length := x0
                have e1 : aF.eval (.tmp 72) = .int .i64 (s0 : Int) := x1
                refine opC_value (v := (.pointer (some ⟨f', s0 * 256, none⟩))) ?_ ⟨rfl, below_same wF⟩
                simp [execOp, go_sem, ev_of e0, ev_of e1, q0, q1]
              refine ⟨step_free rfl (fun aF wF hs hb => ?_), ?_⟩
              · obtain ⟨x0, -⟩ := hs
                have e0 : aF.eval (.tmp 11) = .int .i64 torn := x0
                exact opC_move e0 ⟨rfl, below_same wF⟩
              refine ⟨step_free rfl (fun aF wF hs hb => ?_), ?_⟩
              · obtain ⟨x0, x1, -⟩ := hs
                have e0 : aF.eval (.tmp 73) = (.pointer (some ⟨f', s0 * 256, none⟩)) := x0
                have e1 : aF.eval (.tmp 74) = .int .i64 torn := x1
                refine opC_value (v := (.slice (some ⟨f', s0 * 256, none⟩) (torn.toNat) 256)) ?_ ⟨rfl, below_same wF⟩
                simp [execOp, go_sem, ev_of e0, ev_of e1, m0, m1]
              refine ⟨step_free rfl (fun aF wF hs hb => ?_), ?_⟩
              · obtain ⟨x0, -⟩ := hs
                have e0 : aF.eval (.tmp 10) = .pointer (some ⟨B5, 0, none⟩) := x0
                refine opC_value (v := .pointer (some ⟨B5, 1, none⟩)) ?_ ⟨rfl, below_same wF⟩
                have t0 := ev_of e0
                simp [execOp, go_sem, t0]
              refine ⟨step_free rfl (fun aF wF hs hb => ?_), ?_⟩
              · obtain ⟨x0, -⟩ := hs
                have e0 : aF.eval (.tmp 76) = .pointer (some ⟨B5, 1, none⟩) := x0
                refine opC_value (v := (.slice (some ⟨B5, 1, none⟩) 256 256)) ?_ ⟨rfl, below_same wF⟩
                simp [execOp, go_sem, ev_of e0]
              exact trivial
            · intro fv w6 hf hb6
              have h8 : fv 8 = .slice (some ⟨f', s0 * 256, none⟩) (torn.toNat) 256 := hf 8 75 rfl
              have h10 : fv 10 = .slice (some ⟨B5, 1, none⟩) 256 256 := hf 10 77 rfl
              have hf6 := hf1.below hb6 hf1.lt
              have hx6 := hbox.below hb6 hbox.lt
              have hBf : B5 ≠ f' := fun e => by rw [HBE.out] at e; exact absurd HFS.out (by omega)
              have hk6 : Kept (fun i => i = f') w3 w6 := HK1.out.trans (Kept.of_below (own := fun _ => False) (HW1.out.trans (hb6.mono HW1.out.size))) (fun _ _ h => h.elim)
              clear hf L69 L71 hf1 hbox
              simp only [putF, Act.put, List.setIfInBounds_toArray, List.set_cons_zero, List.set_cons_succ]
              refine opC_copyRow (P := Try.prog) (k := 1) (cs := (X.take (torn.toNat)).map enc8) h8 h10 Try.underlying35 sizeB hf6 (by rw [List.length_map, List.length_take, hXl, Nat.mul_one]; first | done | exact Nat.min_comm _ _) (fun j v hv => ?_) (by rw [Array.size_append, flatS_size _ HAF.out, fallK_length, List.length_map, List.length_take]; have := Nat.mul_le_mul_right 256 hil; rw [Nat.succ_mul] at this; omega) (enc8_one _) ?_
              · rw [Addr.add_mid, hx6.cell, HCS.out, List.getElem?_toArray, encW, Nat.add_comm 1 j, List.getElem?_cons_succ]
                rw [List.getElem?_map, List.getElem?_take] at hv
                rw [List.getElem?_map]
                split at hv
                · exact hv
                · cases hv
              have e7 := flatS_splice (fallK fl ws keep torn t k) HAF.out #[] s0 (torn.toNat) X (by rw [fallK_length]; exact hil) hXl (by omega)
              rw [HSTEP.out] at e7
              rw [e7]
              obtain ⟨w7, hw7⟩ : ∃ w7, w7 = w6.setRow f' (flatS (fallK fl ws keep torn t (k + 1)) ++ #[]) := ⟨_, rfl⟩
              have HF8 : Hid (Blk w7 f' 78 (flatS (fallK fl ws keep torn t (k + 1)) ++ #[])) := Lib.hid (by rw [hw7]; exact setRow_heap w6 f' _ _ _ _ hf6)
              have HK8 : Hid (Kept (fun i => i = f') w3 w7) := Lib.hid (hk6.trans (b := w6) (own' := fun i => i = f') (by rw [hw7]; exact ⟨rfl, rfl, rfl, by simp [World.setRow], fun j _ hj => setRow_other w6 f' j _ hj⟩) (fun i _ h => h))
              rw [← hw7]
              clear hw7 hk6 e7 h8 h10 hf6 hx6 hBf hb6
              go_wp2
              go_roundw
              case rel => exact ⟨k + 1, by omega, by go_num, HF8.out, HK8.out⟩
              case measure => simp [intOf]; omega
          · have HSTEP : Hid ((fallK fl ws keep torn t k).set s0 (tear (256) X ((fallK fl ws keep torn t k).getD s0 [])) = fallK fl ws keep torn t (k + 1)) := Lib.hid (by rw [← HSZ.out, howM, if_neg (by omega)])
            have m0 : (0 : Int) ≤ 256 := by omega
            have m1 : 256 ≤ (256 : Int) := by omega
            have mn : 256 ≤ 256 := by omega
            obtain ⟨B5, hB5⟩ : ∃ B, B = wr.heap.size := ⟨_, rfl⟩
            have HBE := Lib.hid hB5
            have hbox : Blk (wr.alloc (.cells cs.toArray 89)) B5 89 cs.toArray := by rw [hB5]; exact Blk.new wr _ _
            have hbw : Below wr.heap.size wr (wr.alloc (.cells cs.toArray 89)) := (Below.refl _ wr).alloc (Nat.le_refl _) _
            obtain ⟨W1, hW1⟩ : ∃ W, W = wr.alloc (.cells cs.toArray 89) := ⟨_, rfl⟩
            rw [← hB5]
            rw [← hW1] at hbox hbw ⊢
            clear hW1 hB5
            have HW1 := Lib.hid hbw
            have hd1 := HD.out.below hbw HD.out.lt
            have hf1 := HF1.out.below hbw HFS.out
            have L69 : ∀ W', Below W1.heap.size W1 W' → (Instr.loadAt 82 (.pointer (some ⟨d', 0, none⟩))).run Try.prog W' = .ok (.slice (some ⟨f', 0, none⟩) fl.length fl.length) W' := fun W' hb => by
              obtain ⟨c0, -⟩ := dhead_cells (hd1.below hb hd1.lt)
              go_simp
            have L71 : ∀ W', Below W1.heap.size W1 W' → (Instr.loadAt 3 (.pointer (some ⟨B5, 0, none⟩))).run Try.prog W' = .ok (.int .i64 (s0 : Int)) W' := fun W' hb => by
              have c0 := (hbox.below hb hbox.lt).cell 0
              rw [HCS.out] at c0
              have c1 : W'.cell? ⟨B5, 0, none⟩ = some (.int .i64 (s0 : Int)) := c0
              clear c0
              go_simp
            have q0 : (0 : Int) ≤ (s0 : Int) := by omega
            have q1 : (s0 : Int) < (fl.length : Int) := by omega
            refine wp_region_flow_last (l := [_, _, _, _, _, _, _, _, _, _, _]) (ol := _) rfl [some 67, some 68, some 69, some 70, some 71, some 72, some 73, some 74, some 75, some 76, some 77] (fun i => ([.is (.pointer (some ⟨d', 0, none⟩)), .is (.pointer (some ⟨d', 0, none⟩)), .is (.pointer (some ⟨d', 0, none⟩)), .is (.slice (some ⟨f', 0, none⟩) fl.length fl.length), .is (.pointer (some ⟨B5, 0, none⟩)), .is (.int .i64 (s0 : Int)), .is ((.pointer (some ⟨f', s0 * 256, none⟩))), .is (.int .i64 256), .is ((.slice (some ⟨f', s0 * 256, none⟩) (256) 256)), .is (.pointer (some ⟨B5, 1, none⟩)), .is ((.slice (some ⟨B5, 1, none⟩) 256 256))] : List Flw).getD i .any) (by kernel_rfl) (by kernel_rfl) (by kernel_rfl) rfl rfl ?_ ?_
            · skip
              refine ⟨step_free rfl (fun aF wF hs hb => ?_), ?_⟩
              · obtain ⟨x0, -⟩ := hs
                have e0 : aF.eval (.tmp 7) = .pointer (some ⟨d', 0, none⟩) := x0
                exact opC_move e0 ⟨rfl, below_same wF⟩
              refine ⟨step_free rfl (fun aF wF hs hb => ?_), ?_⟩
              · obtain ⟨x0, -⟩ := hs
                have e0 : aF.eval (.tmp 67) = .pointer (some ⟨d', 0, none⟩) := x0
                refine opC_value (v := .pointer (some ⟨d', 0, none⟩)) ?_ ⟨rfl, below_same wF⟩
                have t0 := ev_of e0
                simp [execOp, go_sem, t0]
              refine ⟨step_free rfl (fun aF wF hs hb => ?_), ?_⟩
              · obtain ⟨x0, -⟩ := hs
                have e0 : aF.eval (.tmp 68) = .pointer (some ⟨d', 0, none⟩) := x0
                refine opC_value (v := .pointer (some ⟨d', 0, none⟩)) ?_ ⟨rfl, below_same wF⟩
                have t0 := ev_of e0
                simp [execOp, go_sem, t0]
              refine ⟨step_free rfl (fun aF wF hs hb => ?_), ?_⟩
              · obtain ⟨x0, -⟩ := hs
                have e0 : aF.eval (.tmp 69) = .pointer (some ⟨d', 0, none⟩) := x0
                exact opC_load e0 (L69 wF hb) ⟨rfl, below_same wF⟩
              refine ⟨step_free rfl (fun aF wF hs hb => ?_), ?_⟩
              · obtain ⟨x0, -⟩ := hs
                have e0 : aF.eval (.tmp 10) = .pointer (some ⟨B5, 0, none⟩) := x0
                refine opC_value (v := .pointer (some ⟨B5, 0, none⟩)) ?_ ⟨rfl, below_same wF⟩
                have t0 := ev_of e0
                simp [execOp, go_sem, t0]
              refine ⟨step_free rfl (fun aF wF hs hb => ?_), ?_⟩
              · obtain ⟨x0, -⟩ := hs
                have e0 : aF.eval (.tmp 71) = .pointer (some ⟨B5, 0, none⟩) := x0
                exact opC_load e0 (L71 wF hb) ⟨rfl, below_same wF⟩
              refine ⟨step_free rfl (fun aF wF hs hb => ?_), ?_⟩
              · obtain ⟨x0, x1, -⟩ := hs
                have e0 : aF.eval (.tmp 70) = .slice (some ⟨f', 0, none⟩) fl.length fl.length := x0
                have e1 : aF.eval (.tmp 72) = .int .i64 (s0 : Int) := x1
                refine opC_value (v := (.pointer (some ⟨f', s0 * 256, none⟩))) ?_ ⟨rfl, below_same wF⟩
                simp [execOp, go_sem, ev_of e0, ev_of e1, q0, q1]
              refine ⟨step_free rfl (fun aF wF hs hb => ?_), ?_⟩
              · obtain ⟨x0, -⟩ := hs
                have e0 : aF.eval (.tmp 11) = .int .i64 256 := x0
                exact opC_move e0 ⟨rfl, below_same wF⟩
              refine ⟨step_free rfl (fun aF wF hs hb => ?_), ?_⟩
              · obtain ⟨x0, x1, -⟩ := hs
                have e0 : aF.eval (.tmp 73) = (.pointer (some ⟨f', s0 * 256, none⟩)) := x0
                have e1 : aF.eval (.tmp 74) = .int .i64 256 := x1
                refine opC_value (v := (.slice (some ⟨f', s0 * 256, none⟩) (256) 256)) ?_ ⟨rfl, below_same wF⟩
                simp [execOp, go_sem, ev_of e0, ev_of e1, m0]
              refine ⟨step_free rfl (fun aF wF hs hb => ?_), ?_⟩
              · obtain ⟨x0, -⟩ := hs
                have e0 : aF.eval (.tmp 10) = .pointer (some ⟨B5, 0, none⟩) := x0
                refine opC_value (v := .pointer (some ⟨B5, 1, none⟩)) ?_ ⟨rfl, below_same wF⟩
                have t0 := ev_of e0
                simp [execOp, go_sem, t0]
              refine ⟨step_free rfl (fun aF wF hs hb => ?_), ?_⟩
              · obtain ⟨x0, -⟩ := hs
                have e0 : aF.eval (.tmp 76) = .pointer (some ⟨B5, 1, none⟩) := x0
                refine opC_value (v := (.slice (some ⟨B5, 1, none⟩) 256 256)) ?_ ⟨rfl, below_same wF⟩
                simp [execOp, go_sem, ev_of e0]
              exact trivial
            · intro fv w6 hf hb6
              have h8 : fv 8 = .slice (some ⟨f', s0 * 256, none⟩) (256) 256 := hf 8 75 rfl
              have h10 : fv 10 = .slice (some ⟨B5, 1, none⟩) 256 256 := hf 10 77 rfl
              have hf6 := hf1.below hb6 hf1.lt
              have hx6 := hbox.below hb6 hbox.lt
              have hBf : B5 ≠ f' := fun e => by rw [HBE.out] at e; exact absurd HFS.out (by omega)
              have hk6 : Kept (fun i => i = f') w3 w6 := HK1.out.trans (Kept.of_below (own := fun _ => False) (HW1.out.trans (hb6.mono HW1.out.size))) (fun _ _ h => h.elim)
              clear hf L69 L71 hf1 hbox
              simp only [putF, Act.put, List.setIfInBounds_toArray, List.set_cons_zero, List.set_cons_succ]
              refine opC_copyRow (P := Try.prog) (k := 1) (cs := (X.take (256)).map enc8) h8 h10 Try.underlying35 sizeB hf6 (by rw [List.length_map, List.length_take, hXl, Nat.mul_one]; first | done | exact Nat.min_comm _ _) (fun j v hv => ?_) (by rw [Array.size_append, flatS_size _ HAF.out, fallK_length, List.length_map, List.length_take]; have := Nat.mul_le_mul_right 256 hil; rw [Nat.succ_mul] at this; omega) (enc8_one _) ?_
              · rw [Addr.add_mid, hx6.cell, HCS.out, List.getElem?_toArray, encW, Nat.add_comm 1 j, List.getElem?_cons_succ]
                rw [List.getElem?_map, List.getElem?_take] at hv
                rw [List.getElem?_map]
                split at hv
                · exact hv
                · cases hv
              have e7 := flatS_splice (fallK fl ws keep torn t k) HAF.out #[] s0 (256) X (by rw [fallK_length]; exact hil) hXl (by omega)
              rw [HSTEP.out] at e7
              rw [e7]
              obtain ⟨w7, hw7⟩ : ∃ w7, w7 = w6.setRow f' (flatS (fallK fl ws keep torn t (k + 1)) ++ #[]) := ⟨_, rfl⟩
              have HF8 : Hid (Blk w7 f' 78 (flatS (fallK fl ws keep torn t (k + 1)) ++ #[])) := Lib.hid (by rw [hw7]; exact setRow_heap w6 f' _ _ _ _ hf6)
              have HK8 : Hid (Kept (fun i => i = f') w3 w7) := Lib.hid (hk6.trans (b := w6) (own' := fun i => i = f') (by rw [hw7]; exact ⟨rfl, rfl, rfl, by simp [World.setRow], fun j _ hj => setRow_other w6 f' j _ hj⟩) (fun i _ h => h))
              rw [← hw7]
              clear hw7 hk6 e7 h8 h10 hf6 hx6 hBf hb6
              go_wp2
              go_roundw
              case rel => exact ⟨k + 1, by omega, by go_num, HF8.out, HK8.out⟩
              case measure => simp [intOf]; omega
          · have HSTEP : Hid ((fallK fl ws keep torn t k).set s0 (tear (256) X ((fallK fl ws keep torn t k).getD s0 [])) = fallK fl ws keep torn t (k + 1)) := Lib.hid (by rw [← HSZ.out, howM, if_neg (by omega)])
            have m0 : (0 : Int) ≤ 256 := by omega
            have m1 : 256 ≤ (256 : Int) := by omega
            have mn : 256 ≤ 256 := by omega
            obtain ⟨B5, hB5⟩ : ∃ B, B = wr.heap.size := ⟨_, rfl⟩
            have HBE := Lib.hid hB5
            have hbox : Blk (wr.alloc (.cells cs.toArray 89)) B5 89 cs.toArray := by rw [hB5]; exact Blk.new wr _ _
            have hbw : Below wr.heap.size wr (wr.alloc (.cells cs.toArray 89)) := (Below.refl _ wr).alloc (Nat.le_refl _) _
            obtain ⟨W1, hW1⟩ : ∃ W, W = wr.alloc (.cells cs.toArray 89) := ⟨_, rfl⟩
            rw [← hB5]
            rw [← hW1] at hbox hbw ⊢
            clear hW1 hB5
            have HW1 := Lib.hid hbw
            have hd1 := HD.out.below hbw HD.out.lt
            have hf1 := HF1.out.below hbw HFS.out
            have L69 : ∀ W', Below W1.heap.size W1 W' → (Instr.loadAt 82 (.pointer (some ⟨d', 0, none⟩))).run Try.prog W' = .ok (.slice (some ⟨f', 0, none⟩) fl.length fl.length) W' := fun W' hb => by
              obtain ⟨c0, -⟩ := dhead_cells (hd1.below hb hd1.lt)
              go_simp
            have L71 : ∀ W', Below W1.heap.size W1 W' → (Instr.loadAt 3 (.pointer (some ⟨B5, 0, none⟩))).run Try.prog W' = .ok (.int .i64 (s0 : Int)) W' := fun W' hb => by
              have c0 := (hbox.below hb hbox.lt).cell 0
              rw [HCS.out] at c0
              have c1 : W'.cell? ⟨B5, 0, none⟩ = some (.int .i64 (s0 : Int)) := c0
              clear c0
              go_simp
            have q0 : (0 : Int) ≤ (s0 : Int) := by omega
            have q1 : (s0 : Int) < (fl.length : Int) := by omega
            refine wp_region_flow_last (l := [_, _, _, _, _, _, _, _, _, _, _]) (ol := _) rfl [some 67, some 68, some 69, some 70, some 71, some 72, some 73, some 74, some 75, some 76, some 77] (fun i => ([.is (.pointer (some ⟨d', 0, none⟩)), .is (.pointer (some ⟨d', 0, none⟩)), .is (.pointer (some ⟨d', 0, none⟩)), .is (.slice (some ⟨f', 0, none⟩) fl.length fl.length), .is (.pointer (some ⟨B5, 0, none⟩)), .is (.int .i64 (s0 : Int)), .is ((.pointer (some ⟨f', s0 * 256, none⟩))), .is (.int .i64 256), .is ((.slice (some ⟨f', s0 * 256, none⟩) (256) 256)), .is (.pointer (some ⟨B5, 1, none⟩)), .is ((.slice (some ⟨B5, 1, none⟩) 256 256))] : List Flw).getD i .any) (by kernel_rfl) (by kernel_rfl) (by kernel_rfl) rfl rfl ?_ ?_
            · skip
              refine ⟨step_free rfl (fun aF wF hs hb => ?_), ?_⟩
              · obtain ⟨x0, -⟩ := hs
                have e0 : aF.eval (.tmp 7) = .pointer (some ⟨d', 0, none⟩) := x0
                exact opC_move e0 ⟨rfl, below_same wF⟩
              refine ⟨step_free rfl (fun aF wF hs hb => ?_), ?_⟩
              · obtain ⟨x0, -⟩ := hs
                have e0 : aF.eval (.tmp 67) = .pointer (some ⟨d', 0, none⟩) := x0
                refine opC_value (v := .pointer (some ⟨d', 0, none⟩)) ?_ ⟨rfl, below_same wF⟩
                have t0 := ev_of e0
                simp [execOp, go_sem, t0]
              refine ⟨step_free rfl (fun aF wF hs hb => ?_), ?_⟩
              · obtain ⟨x0, -⟩ := hs
                have e0 : aF.eval (.tmp 68) = .pointer (some ⟨d', 0, none⟩) := x0
                refine opC_value (v := .pointer (some ⟨d', 0, none⟩)) ?_ ⟨rfl, below_same wF⟩
                have t0 := ev_of e0
                simp [execOp, go_sem, t0]
              refine ⟨step_free rfl (fun aF wF hs hb => ?_), ?_⟩
              · obtain ⟨x0, -⟩ := hs
                have e0 : aF.eval (.tmp 69) = .pointer (some ⟨d', 0, none⟩) := x0
                exact opC_load e0 (L69 wF hb) ⟨rfl, below_same wF⟩
              refine ⟨step_free rfl (fun aF wF hs hb => ?_), ?_⟩
              · obtain ⟨x0, -⟩ := hs
                have e0 : aF.eval (.tmp 10) = .pointer (some ⟨B5, 0, none⟩) := x0
                refine opC_value (v := .pointer (some ⟨B5, 0, none⟩)) ?_ ⟨rfl, below_same wF⟩
                have t0 := ev_of e0
                simp [execOp, go_sem, t0]
              refine ⟨step_free rfl (fun aF wF hs hb => ?_), ?_⟩
              · obtain ⟨x0, -⟩ := hs
                have e0 : aF.eval (.tmp 71) = .pointer (some ⟨B5, 0, none⟩) := x0
                exact opC_load e0 (L71 wF hb) ⟨rfl, below_same wF⟩
              refine ⟨step_free rfl (fun aF wF hs hb => ?_), ?_⟩
              · obtain ⟨x0, x1, -⟩ := hs
                have e0 : aF.eval (.tmp 70) = .slice (some ⟨f', 0, none⟩) fl.length fl.length := x0
                have e1 : aF.eval (.tmp 72) = .int .i64 (s0 : Int) := x1
                refine opC_value (v := (.pointer (some ⟨f', s0 * 256, none⟩))) ?_ ⟨rfl, below_same wF⟩
                simp [execOp, go_sem, ev_of e0, ev_of e1, q0, q1]
              refine ⟨step_free rfl (fun aF wF hs hb => ?_), ?_⟩
              · obtain ⟨x0, -⟩ := hs
                have e0 : aF.eval (.tmp 11) = .int .i64 256 := x0
                exact opC_move e0 ⟨rfl, below_same wF⟩
              refine ⟨step_free rfl (fun aF wF hs hb => ?_), ?_⟩
              · obtain ⟨x0, x1, -⟩ := hs
                have e0 : aF.eval (.tmp 73) = (.pointer (some ⟨f', s0 * 256, none⟩)) := x0
                have e1 : aF.eval (.tmp 74) = .int .i64 256 := x1
                refine opC_value (v := (.slice (some ⟨f', s0 * 256, none⟩) (256) 256)) ?_ ⟨rfl, below_same wF⟩
                simp [execOp, go_sem, ev_of e0, ev_of e1, m0]
              refine ⟨step_free rfl (fun aF wF hs hb => ?_), ?_⟩
              · obtain ⟨x0, -⟩ := hs
                have e0 : aF.eval (.tmp 10) = .pointer (some ⟨B5, 0, none⟩) := x0
                refine opC_value (v := .pointer (some ⟨B5, 1, none⟩)) ?_ ⟨rfl, below_same wF⟩
                have t0 := ev_of e0
                simp [execOp, go_sem, t0]
              refine ⟨step_free rfl (fun aF wF hs hb => ?_), ?_⟩
              · obtain ⟨x0, -⟩ := hs
                have e0 : aF.eval (.tmp 76) = .pointer (some ⟨B5, 1, none⟩) := x0
                refine opC_value (v := (.slice (some ⟨B5, 1, none⟩) 256 256)) ?_ ⟨rfl, below_same wF⟩
                simp [execOp, go_sem, ev_of e0]
              exact trivial
            · intro fv w6 hf hb6
              have h8 : fv 8 = .slice (some ⟨f', s0 * 256, none⟩) (256) 256 := hf 8 75 rfl
              have h10 : fv 10 = .slice (some ⟨B5, 1, none⟩) 256 256 := hf 10 77 rfl
              have hf6 := hf1.below hb6 hf1.lt
              have hx6 := hbox.below hb6 hbox.lt
              have hBf : B5 ≠ f' := fun e => by rw [HBE.out] at e; exact absurd HFS.out (by omega)
              have hk6 : Kept (fun i => i = f') w3 w6 := HK1.out.trans (Kept.of_below (own := fun _ => False) (HW1.out.trans (hb6.mono HW1.out.size))) (fun _ _ h => h.elim)
              clear hf L69 L71 hf1 hbox
              simp only [putF, Act.put, List.setIfInBounds_toArray, List.set_cons_zero, List.set_cons_succ]
              refine opC_copyRow (P := Try.prog) (k := 1) (cs := (X.take (256)).map enc8) h8 h10 Try.underlying35 sizeB hf6 (by rw [List.length_map, List.length_take, hXl, Nat.mul_one]; first | done | exact Nat.min_comm _ _) (fun j v hv => ?_) (by rw [Array.size_append, flatS_size _ HAF.out, fallK_length, List.length_map, List.length_take]; have := Nat.mul_le_mul_right 256 hil; rw [Nat.succ_mul] at this; omega) (enc8_one _) ?_
              · rw [Addr.add_mid, hx6.cell, HCS.out, List.getElem?_toArray, encW, Nat.add_comm 1 j, List.getElem?_cons_succ]
                rw [List.getElem?_map, List.getElem?_take] at hv
                rw [List.getElem?_map]
                split at hv
                · exact hv
                · cases hv
              have e7 := flatS_splice (fallK fl ws keep torn t k) HAF.out #[] s0 (256) X (by rw [fallK_length]; exact hil) hXl (by omega)
              rw [HSTEP.out] at e7
              rw [e7]
              obtain ⟨w7, hw7⟩ : ∃ w7, w7 = w6.setRow f' (flatS (fallK fl ws keep torn t (k + 1)) ++ #[]) := ⟨_, rfl⟩
              have HF8 : Hid (Blk w7 f' 78 (flatS (fallK fl ws keep torn t (k + 1)) ++ #[])) := Lib.hid (by rw [hw7]; exact setRow_heap w6 f' _ _ _ _ hf6)
              have HK8 : Hid (Kept (fun i => i = f') w3 w7) := Lib.hid (hk6.trans (b := w6) (own' := fun i => i = f') (by rw [hw7]; exact ⟨rfl, rfl, rfl, by simp [World.setRow], fun j _ hj => setRow_other w6 f' j _ hj⟩) (fun i _ h => h))
              rw [← hw7]
              clear hw7 hk6 e7 h8 h10 hf6 hx6 hBf hb6
              go_wp2
              go_roundw
              case rel => exact ⟨k + 1, by omega, by go_num, HF8.out, HK8.out⟩
              case measure => simp [intOf]; omega
          · have HSTEP : Hid ((fallK fl ws keep torn t k).set s0 (tear (256) X ((fallK fl ws keep torn t k).getD s0 [])) = fallK fl ws keep torn t (k + 1)) := Lib.hid (by rw [← HSZ.out, howM, if_neg (by omega)])
            have m0 : (0 : Int) ≤ 256 := by omega
            have m1 : 256 ≤ (256 : Int) := by omega
            have mn : 256 ≤ 256 := by omega
            obtain ⟨B5, hB5⟩ : ∃ B, B = wr.heap.size := ⟨_, rfl⟩
            have HBE := Lib.hid hB5
            have hbox : Blk (wr.alloc (.cells cs.toArray 89)) B5 89 cs.toArray := by rw [hB5]; exact Blk.new wr _ _
            have hbw : Below wr.heap.size wr (wr.alloc (.cells cs.toArray 89)) := (Below.refl _ wr).alloc (Nat.le_refl _) _
            obtain ⟨W1, hW1⟩ : ∃ W, W = wr.alloc (.cells cs.toArray 89) := ⟨_, rfl⟩
            rw [← hB5]
            rw [← hW1] at hbox hbw ⊢
            clear hW1 hB5
            have HW1 := Lib.hid hbw
            have hd1 := HD.out.below hbw HD.out.lt
            have hf1 := HF1.out.below hbw HFS.out
            have L69 : ∀ W', Below W1.heap.size W1 W' → (Instr.loadAt 82 (.pointer (some ⟨d', 0, none⟩))).run Try.prog W' = .ok (.slice (some ⟨f', 0, none⟩) fl.length fl.length) W' := fun W' hb => by
              obtain ⟨c0, -⟩ := dhead_cells (hd1.below hb hd1.lt)
              go_simp
            have L71 : ∀ W', Below W1.heap.size W1 W' → (Instr.loadAt 3 (.pointer (some ⟨B5, 0, none⟩))).run Try.prog W' = .ok (.int .i64 (s0 : Int)) W' := fun W' hb => by
              have c0 := (hbox.below hb hbox.lt).cell 0
              rw [HCS.out] at c0
              have c1 : W'.cell? ⟨B5, 0, none⟩ = some (.int .i64 (s0 : Int)) := c0
              clear c0
              go_simp
            have q0 : (0 : Int) ≤ (s0 : Int) := by omega
            have q1 : (s0 : Int) < (fl.length : Int) := by omega
            refine wp_region_flow_last (l := [_, _, _, _, _, _, _, _, _, _, _]) (ol := _) rfl [some 67, some 68, some 69, some 70, some 71, some 72, some 73, some 74, some 75, some 76, some 77] (fun i => ([.is (.pointer (some ⟨d', 0, none⟩)), .is (.pointer (some ⟨d', 0, none⟩)), .is (.pointer (some ⟨d', 0, none⟩)), .is (.slice (some ⟨f', 0, none⟩) fl.length fl.length), .is (.pointer (some ⟨B5, 0, none⟩)), .is (.int .i64 (s0 : Int)), .is ((.pointer (some ⟨f', s0 * 256, none⟩))), .is (.int .i64 256), .is ((.slice (some ⟨f', s0 * 256, none⟩) (256) 256)), .is (.pointer (some ⟨B5, 1, none⟩)), .is ((.slice (some ⟨B5, 1, none⟩) 256 256))] : List Flw).getD i .any) (by kernel_rfl) (by kernel_rfl) (by kernel_rfl) rfl rfl ?_ ?_
            · skip
              refine ⟨step_free rfl (fun aF wF hs hb => ?_), ?_⟩
              · obtain ⟨x0, -⟩ := hs
                have e0 : aF.eval (.tmp 7) = .pointer (some ⟨d', 0, none⟩) := x0
                exact opC_move e0 ⟨rfl, below_same wF⟩
              refine ⟨step_free rfl (fun aF wF hs hb => ?_), ?_⟩
              · obtain ⟨x0, -⟩ := hs
                have e0 : aF.eval (.tmp 67) = .pointer (some ⟨d', 0, none⟩) := x0
                refine opC_value (v := .pointer (some ⟨d', 0, none⟩)) ?_ ⟨rfl, below_same wF⟩
                have t0 := ev_of e0
                simp [execOp, go_sem, t0]
              refine ⟨step_free rfl (fun aF wF hs hb => ?_), ?_⟩
              · obtain ⟨x0, -⟩ := hs
                have e0 : aF.eval (.tmp 68) = .pointer (some ⟨d', 0, none⟩) := x0
                refine opC_value (v := .pointer (some ⟨d', 0, none⟩)) ?_ ⟨rfl, below_same wF⟩
                have t0 := ev_of e0
                simp [execOp, go_sem, t0]
              refine ⟨step_free rfl (fun aF wF hs hb => ?_), ?_⟩
              · obtain ⟨x0, -⟩ := hs
                have e0 : aF.eval (.tmp 69) = .pointer (some ⟨d', 0, none⟩) := x0
                exact opC_load e0 (L69 wF hb) ⟨rfl, below_same wF⟩
              refine ⟨step_free rfl (fun aF wF hs hb => ?_), ?_⟩
              · obtain ⟨x0, -⟩ := hs
                have e0 : aF.eval (.tmp 10) = .pointer (some ⟨B5, 0, none⟩) := x0
                refine opC_value (v := .pointer (some ⟨B5, 0, none⟩)) ?_ ⟨rfl, below_same wF⟩
                have t0 := ev_of e0
                simp [execOp, go_sem, t0]
              refine ⟨step_free rfl (fun aF wF hs hb => ?_), ?_⟩
              · obtain ⟨x0, -⟩ := hs
                have e0 : aF.eval (.tmp 71) = .pointer (some ⟨B5, 0, none⟩) := x0
                exact opC_load e0 (L71 wF hb) ⟨rfl, below_same wF⟩
              refine ⟨step_free rfl (fun aF wF hs hb => ?_), ?_⟩
              · obtain ⟨x0, x1, -⟩ := hs
                have e0 : aF.eval (.tmp 70) = .slice (some ⟨f', 0, none⟩) fl.length fl.length := x0
                have e1 : aF.eval (.tmp 72) = .int .i64 (s0 : Int) := x1
                refine opC_value (v := (.pointer (some ⟨f', s0 * 256, none⟩))) ?_ ⟨rfl, below_same wF⟩
                simp [execOp, go_sem, ev_of e0, ev_of e1, q0, q1]
              refine ⟨step_free rfl (fun aF wF hs hb => ?_), ?_⟩
              · obtain ⟨x0, -⟩ := hs
                have e0 : aF.eval (.tmp 11) = .int .i64 256 := x0
                exact opC_move e0 ⟨rfl, below_same wF⟩
              refine ⟨step_free rfl (fun aF wF hs hb => ?_), ?_⟩
              · obtain ⟨x0, x1, -⟩ := hs
                have e0 : aF.eval (.tmp 73) = (.pointer (some ⟨f', s0 * 256, none⟩)) := x0
                have e1 : aF.eval (.tmp 74) = .int .i64 256 := x1
                refine opC_value (v := (.slice (some ⟨f', s0 * 256, none⟩) (256) 256)) ?_ ⟨rfl, below_same wF⟩
                simp [execOp, go_sem, ev_of e0, ev_of e1, m0]
              refine ⟨step_free rfl (fun aF wF hs hb => ?_), ?_⟩
              · obtain ⟨x0, -⟩ := hs
                have e0 : aF.eval (.tmp 10) = .pointer (some ⟨B5, 0, none⟩) := x0
                refine opC_value (v := .pointer (some ⟨B5, 1, none⟩)) ?_ ⟨rfl, below_same wF⟩
                have t0 := ev_of e0
                simp [execOp, go_sem, t0]
              refine ⟨step_free rfl (fun aF wF hs hb => ?_), ?_⟩
              · obtain ⟨x0, -⟩ := hs
                have e0 : aF.eval (.tmp 76) = .pointer (some ⟨B5, 1, none⟩) := x0
                refine opC_value (v := (.slice (some ⟨B5, 1, none⟩) 256 256)) ?_ ⟨rfl, below_same wF⟩
                simp [execOp, go_sem, ev_of e0]
              exact trivial
            · intro fv w6 hf hb6
              have h8 : fv 8 = .slice (some ⟨f', s0 * 256, none⟩) (256) 256 := hf 8 75 rfl
              have h10 : fv 10 = .slice (some ⟨B5, 1, none⟩) 256 256 := hf 10 77 rfl
              have hf6 := hf1.below hb6 hf1.lt
              have hx6 := hbox.below hb6 hbox.lt
              have hBf : B5 ≠ f' := fun e => by rw [HBE.out] at e; exact absurd HFS.out (by omega)
              have hk6 : Kept (fun i => i = f') w3 w6 := HK1.out.trans (Kept.of_below (own := fun _ => False) (HW1.out.trans (hb6.mono HW1.out.size))) (fun _ _ h => h.elim)
              clear hf L69 L71 hf1 hbox
              simp only [putF, Act.put, List.setIfInBounds_toArray, List.set_cons_zero, List.set_cons_succ]
              refine opC_copyRow (P := Try.prog) (k := 1) (cs := (X.take (256)).map enc8) h8 h10 Try.underlying35 sizeB hf6 (by rw [List.length_map, List.length_take, hXl, Nat.mul_one]; first | done | exact Nat.min_comm _ _) (fun j v hv => ?_) (by rw [Array.size_append, flatS_size _ HAF.out, fallK_length, List.length_map, List.length_take]; have := Nat.mul_le_mul_right 256 hil; rw [Nat.succ_mul] at this; omega) (enc8_one _) ?_
              · rw [Addr.add_mid, hx6.cell, HCS.out, List.getElem?_toArray, encW, Nat.add_comm 1 j, List.getElem?_cons_succ]
                rw [List.getElem?_map, List.getElem?_take] at hv
                rw [List.getElem?_map]
                split at hv
                · exact hv
                · cases hv
              have e7 := flatS_splice (fallK fl ws keep torn t k) HAF.out #[] s0 (256) X (by rw [fallK_length]; exact hil) hXl (by omega)
              rw [HSTEP.out] at e7
              rw [e7]
              obtain ⟨w7, hw7⟩ : ∃ w7, w7 = w6.setRow f' (flatS (fallK fl ws keep torn t (k + 1)) ++ #[]) := ⟨_, rfl⟩
              have HF8 : Hid (Blk w7 f' 78 (flatS (fallK fl ws keep torn t (k + 1)) ++ #[])) := Lib.hid (by rw [hw7]; exact setRow_heap w6 f' _ _ _ _ hf6)
              have HK8 : Hid (Kept (fun i => i = f') w3 w7) := Lib.hid (hk6.trans (b := w6) (own' := fun i => i = f') (by rw [hw7]; exact ⟨rfl, rfl, rfl, by simp [World.setRow], fun j _ hj => setRow_other w6 f' j _ hj⟩) (fun i _ h => h))
              rw [← hw7]
              clear hw7 hk6 e7 h8 h10 hf6 hx6 hBf hb6
              go_wp2
              go_roundw
              case rel => exact ⟨k + 1, by omega, by go_num, HF8.out, HK8.out⟩
              case measure => simp [intOf]; omega
      · obtain rfl : t = k := by omega
        have hd : Blk wr d' 86 (dhead (some ⟨f', 0, none⟩) fl.length fl.length none 0 0 (some ⟨g', 0, none⟩) fl.length fl.length (-1)) := (hk1.block d' HD2.out.lt HNE.out.1).trans HD2.out
        have hg : Blk wr g' 3 (encI (List.replicate fl.length 0)) := (hk1.block g' HG2.out.lt (Ne.symm HNE.out.2.2)).trans HG2.out
        have HB1 := Lib.hid hb1
        have HD := Lib.hid hd
        have HG := Lib.hid hg
        have HK1 := Lib.hid hk1
        clear hb1 hk1 hd hg
        go_wp2
        go_ret
        have e : fallOf fl ws keep torn = fallK fl ws keep torn t t := by unfold fallOf; rw [← HT.out]
        rw [e]
        refine ⟨d', f', g', rfl, ⟨?_, ?_, ?_, ?_, ?_, ?_, ?_, ?_, ?_, ?_, ?_⟩, HB2.out.trans (HK1.out.below HB2.out.size (fun i hi e => by have := HGE.out.2.1; omega))⟩
        · rw [fallK_length]; exact HD.out
        · exact HB1.out
        · rw [Array.append_empty]; exact HG.out
        · exact World.ownsRow_nil _ _ _ _
        · exact ⟨HGE.out.1, HGE.out.2.1, HGE.out.2.2, HNE.out.1, HNE.out.2.1, HNE.out.2.2, fun a e => by cases e⟩
        · rw [List.length_replicate, fallK_length]
        · exact fallK_full keep torn t H2.out.full H2.out.fullW HR.out.at_ t t3
        · intro x hx; cases hx
        · intro q hq; rw [(List.mem_replicate.1 hq).2]; exact Nat.zero_le _
        · rw [fallK_length]; exact hfw
        · exact Nat.zero_le _
end
end Go.Proofs.Ytbaenpgjggojaaa
