/-
Append. Conditions: a reel on a drum that isn't armed, of a thousand sectors at most; a record that lies off both; room for the writes.
-/
import Derived.Test.YtbaenpgjggojaaaRlU2Z9
import Derived.Test.YtbaenpgjggojaaaFlowRZ9
namespace Go.Proofs.Ytbaenpgjggojaaa
open Go.ChangeShapes Go.WideShapes Go.RowKit
attribute [local go_sem] Oper.semAt_some

/-- A clone of nil, too. -/
theorem CloneL_any (A : Option Addr) (n c B : Nat) (l : List UInt8) (w : World) (hR : Rd w B A l) (hn : l.length = n) (hm : n ≤ 140737488355328) (hB : B ≤ w.heap.size) :
    Calls Try.prog 36 #[.slice A n c] w (CutL w.heap.size w l) := by
  cases A with
  | some ad => exact Clone_own ad n c B l w hR hn hm hB
  | none =>
    have h0 : l = [] := by
      rcases Nat.eq_zero_or_pos l.length with h | h
      · exact List.eq_nil_of_length_eq_zero h
      · obtain ⟨b, o, e, -⟩ := hR h
        cases e
    subst h0
    subst hn
    have heq := fun W : World => Lib.run_eql_slice_nil W 35 5 none 0 c 0 0 Try.underlying35
    go_enter Try.func36, Try.ntmps36
    go_wp2
    go_ret
    exact ⟨none, 0, rfl, Nat.le_refl _, Nat.zero_le _, OwnB.nil_ _ _, Below.refl _ _⟩
/-- What a reel and its drum are behind an act. -/
def RlK (w : World) (own0 : Nat → Prop) (base d r g : Nat) (fl : List (List UInt8)) (ws : List (Nat × List UInt8)) (Ls : List (List UInt8)) (w' : World) : Prop :=
  ∃ own, Rl w' base d r g own fl ws Ls ∧ Kept own0 w w' ∧ ∀ i, i < w.heap.size → own i → own0 i
/-- The writes of a record. -/
def addW (fl : List (List UInt8)) (ws : List (Nat × List UInt8)) (g : Nat) (Ls : List (List UInt8)) (b : List UInt8) : List (Nat × List UInt8) :=
  ws ++ putsW (startN fl.length g + usedN Ls) (secs (seedN g Ls.length) b)
def AppPost (w : World) (own : Nat → Prop) (base d r g : Nat) (fl : List (List UInt8)) (ws : List (Nat × List UInt8)) (Ls : List (List UInt8)) (b : List UInt8) (F : Nat) (e : Ending) (w' : World) : Prop :=
  (F ≠ 0 ∧ e = .returned (errV F) ∧ Below w.heap.size w w') ∨
  (F = 0 ∧ e = .returned .nilIface ∧ RlK w own base d r g fl (addW fl ws g Ls b) (Ls ++ [b]) w')
/-- A sector's bytes in a slot. -/
def secF (B : Nat) (s : List UInt8) : Flw := ⟨fun v w => ∃ q, v = .slice (some ⟨q, 0, none⟩) 256 256 ∧ B ≤ q ∧ Blk w q 5 (s.map enc8).toArray, fun ⟨q, h1, h2, h3⟩ hb => ⟨q, h1, h2, h3.below hb h3.lt⟩⟩
/-- Cloned bytes in a slot. -/
def cloF (B : Nat) (b : List UInt8) : Flw := ⟨fun v w => ∃ A c, v = .slice A b.length c ∧ OwnB w B (.slice A b.length c) b.length b, fun ⟨A, c, h1, h2⟩ hb => ⟨A, c, h1, OwnB.below h2 hb⟩⟩
section
variable {w : World} {base d r g q m : Nat} {own av : Nat → Prop} {fl : List (List UInt8)} {ws : List (Nat × List UInt8)} {Ls : List (List UInt8)} {A : Option Addr} {b : List UInt8}
theorem results_cellB (W : World) (T : Array Value) (g : Nat) (v : Value) (h : T[4]? = some (.pointer (some ⟨g, 0, none⟩))) (hc : W.cell? ⟨g, 0, none⟩ = some v) : (results Try.f12 T).run Try.prog W = .ok v W := by
  have hT2 : T[4]?.getD undef = .pointer (some ⟨g, 0, none⟩) := by rw [h]; rfl
  simp [results, Try.f12, go_sem, hT2, hc, Result.andThen]
set_option maxRecDepth 100000 in
set_option maxHeartbeats 4000000 in
theorem Append_dr (h : Rl w base d r g own fl ws Ls) (hg : g < 4294967296) (h6 : 6 ≤ fl.length) (h1k : fl.length ≤ 1000) (hL : Ls.length ≤ 1000) (hu : usedN Ls ≤ halfN fl.length) (hws : ws.length ≤ 900000)
    (hb : RdQ w av A b) (hav : ∀ i, av i → ¬ own i) (hm : b.length = m) (hmq : m ≤ q) (hqx : m ≤ 140737488355328) :
    Calls Try.prog 12 #[.pointer (some ⟨r, 0, none⟩), .slice A m q] w (AppPost w own base d r g fl ws Ls b (fitsN m ((halfN fl.length : Nat) - (usedN Ls : Int)))) := by
  obtain ⟨o, R, c, vals, hd, hh, hoff, rfl⟩ := h
  have hrlt := hh.1.lt
  have cR := fun W (hW : Below w.heap.size w W) => Room_dr (hh.1.below hW hrlt) (hd.below hW) (by omega) (by have := hd.few; unfold halfN at hu; omega)
  have cF := fun W => fits_any A m q (by omega) ((halfN fl.length : Nat) - (usedN Ls : Int)) W
  obtain ⟨F, hF⟩ : ∃ F, fitsN m ((halfN fl.length : Nat) - (usedN Ls : Int)) = F := ⟨_, rfl⟩
  simp only [hF] at cF ⊢
  have hFb : F = 0 → m ≤ 100000 ∧ usedN Ls + pagesN m ≤ halfN fl.length := by
    intro h
    rw [h] at hF
    unfold fitsN at hF
    split at hF
    · cases hF
    · split at hF
      · cases hF
      · omega
  have HFB := Lib.hid hFb
  have HD := Lib.hid (And.intro hd (And.intro hh hoff))
  have HN := Lib.hid (And.intro hg (And.intro h6 (And.intro h1k (And.intro hL (And.intro hu hws)))))
  have HP := Lib.hid (And.intro hb (And.intro hav (And.intro hm (And.intro hmq hqx))))
  have hu1 : (usedN Ls : Int) ≤ 500 := by unfold halfN at hu; omega
  have hN1 : (halfN fl.length : Int) ≤ 500 := by unfold halfN; omega
  obtain ⟨U, hU⟩ : ∃ U, usedN Ls = U := ⟨_, rfl⟩
  obtain ⟨N, hN⟩ : ∃ N, halfN fl.length = N := ⟨_, rfl⟩
  rw [hU] at cR cF hu1
  rw [hN] at cR cF hN1
  have HUN := Lib.hid (And.intro hU hN)
  have HR9 := Lib.hid hrlt
  clear hF hd hh hoff hg h6 h1k hL hu hws hb hav hm hmq hqx hU hN hFb
  refine (callsIn_wide (n := 6)).1 ?_
  refine callsIn_of_wp_marks Try.func12 rfl trivial ?_ rfl
  simp only [Try.ntmps12, List.size_toArray, List.length_cons, List.length_nil, Nat.reduceAdd, Nat.reduceSub, Array.replicate_succ, Array.replicate_zero, List.push_toArray, List.append_toArray, List.nil_append, List.cons_append]
  refine wpIn_wide.2 ?_
  have hw2 : Below w.heap.size w ((w.alloc (.cells #[.pointer (some ⟨r, 0, none⟩)] 30)).alloc (.cells #[.nilIface] 27)) := ((Below.refl _ w).alloc (Nat.le_refl _) _).alloc (by simp) _
  have k2 : Blk ((w.alloc (.cells #[.pointer (some ⟨r, 0, none⟩)] 30)).alloc (.cells #[.nilIface] 27)) w.heap.size 30 #[.pointer (some ⟨r, 0, none⟩)] := (Blk.new w _ _).alloc _
  have k4 : Blk ((w.alloc (.cells #[.pointer (some ⟨r, 0, none⟩)] 30)).alloc (.cells #[.nilIface] 27)) (w.heap.size + 1) 27 #[.nilIface] := by
    have h := Blk.new (w.alloc (.cells #[.pointer (some ⟨r, 0, none⟩)] 30)) 27 #[.nilIface]
    rwa [World.size_alloc] at h
  go_wp2_with fail
  obtain ⟨W2, hW2⟩ : ∃ W2, ((w.alloc (.cells #[.pointer (some ⟨r, 0, none⟩)] 30)).alloc (.cells #[.nilIface] 27)) = W2 := ⟨_, rfl⟩
  rw [hW2] at hw2 k2 k4 ⊢
  clear hW2
  refine (cR W2 hw2).mono ?_
  rintro e w1 ⟨rfl, n1, rfl⟩
  have hw3 := below_drewN hw2 n1
  replace k2 := k2.drewN n1
  replace k4 := k4.drewN n1
  obtain ⟨W3, hW3⟩ : ∃ W3, W2.drewN n1 = W3 := ⟨_, rfl⟩
  rw [hW3] at hw3 k2 k4 ⊢
  clear hW3 cR hw2
  have b2 := k2.cell 0
  have b4 := k4.cell 0
  have f4 := k4.frozen 0
  simp only [List.getElem?_toArray, List.getElem?_cons_zero] at b2 b4
  have HW3 := Lib.hid hw3
  clear hw3
  go_wp2_with fail
  refine (cF W3).mono ?_
  rintro e W4 ⟨rfl, rfl⟩
  clear cF
  by_cases hF0 : F = 0
  · subst hF0
    have eF : errV 0 = .nilIface := rfl
    rw [eF]
    have HK2 := Lib.hid (And.intro k2 k4)
    have hx := HFB.out rfl
    have HX := Lib.hid hx
    have hh := HD.out.2.1
    have L0 : ∀ W, Below W4.heap.size W4 W → (Instr.loadAt 30 (.pointer (some ⟨w.heap.size, 0, none⟩))).run Try.prog W = .ok (.pointer (some ⟨r, 0, none⟩)) W := fun W hb => by
      have c1 := (HK2.out.1.below hb HK2.out.1.lt).cell 0
      simp only [List.getElem?_toArray, List.getElem?_cons_zero] at c1
      go_simp
    have L3 : ∀ W, Below W4.heap.size W4 W → (Instr.loadAt 3 (.pointer (some ⟨r, 3, none⟩))).run Try.prog W = .ok (.int .i64 (U : Int)) W := fun W hb => by
      have c1 := (rhead_cells (hh.1.below (HW3.out.trans (hb.mono HW3.out.size)) HR9.out)).2.2.2
      rw [HUN.out.1] at c1
      go_simp
    obtain ⟨S, hS⟩ : ∃ S, startN fl.length g = S := ⟨_, rfl⟩
    have cS : ∀ W, Below W4.heap.size W4 W → Calls Try.prog 38 #[.pointer (some ⟨r, 0, none⟩)] W fun e w' => e = .returned (.int .i64 (S : Nat)) ∧ Below W.heap.size W w' := fun W hb =>
      (start_dr (hh.1.below (HW3.out.trans (hb.mono HW3.out.size)) HR9.out) (HD.out.1.below (HW3.out.trans (hb.mono HW3.out.size))) (by have := HN.out; omega)).mono fun e w' ⟨h1, m, h2⟩ => ⟨by rw [h1, hS], by rw [h2]; exact below_drewN (Below.refl _ _) _⟩
    have hSN : S + N ≤ fl.length := by
      rw [← hS, ← HUN.out.2]
      unfold startN halfN
      have := HN.out
      rcases Nat.mod_two_eq_zero_or_one g with h | h <;> rw [h] <;> omega
    obtain ⟨T, hT⟩ : ∃ T, S + U = T := ⟨_, rfl⟩
    have hST : IntKind.i64.wrap ((S : Int) + (U : Int)) = (T : Int) := by rw [IntKind.wrap_i64]; have := HN.out; omega
    have HS := Lib.hid (And.intro hS (And.intro hSN hT))
    clear hS hSN hT hx hh
    go_wp2_with fail
    refine wp_region_flow_last (l := [_, _, _, _, _, _, _, _]) (ol := _) rfl [some 19, some 20, some 21, some 22, some 23, some 24, some 25, some 6] (fun i => ([.is (.pointer (some ⟨r, 0, none⟩)), .is (.int .i64 (S : Nat)), .is (.pointer (some ⟨r, 0, none⟩)), .is (.pointer (some ⟨r, 0, none⟩)), .is (.pointer (some ⟨r, 3, none⟩)), .is (.int .i64 (U : Int)), .is (.int .i64 (T : Int)), boxF W4.heap.size 3 #[.int .i64 0]] : List Flw).getD i .any) (by kernel_rfl) (by kernel_rfl) (by kernel_rfl) rfl rfl ?_ ?_
    · skip
      refine ⟨step_free rfl (fun aF wF hs hb => ?_), ?_⟩
      · obtain ⟨x0, -⟩ := hs
        have e0 : aF.eval (.tmp 2) = .pointer (some ⟨w.heap.size, 0, none⟩) := x0
        exact opC_load e0 (L0 wF hb) ⟨rfl, below_same wF⟩
      refine ⟨step_free rfl (fun aF wF hs hb => ?_), ?_⟩
      · obtain ⟨x0, -⟩ := hs
        have e0 : aF.eval (.tmp 19) = .pointer (some ⟨r, 0, none⟩) := x0
        exact opC_call (args := #[.pointer (some ⟨r, 0, none⟩)]) (enters_of Try.func38 (by kernel_rfl) rfl) (by simp [e0]) (cS wF hb) (fun _ h => ⟨rfl, h⟩)
      refine ⟨step_free rfl (fun aF wF hs hb => ?_), ?_⟩
      · obtain ⟨x0, -⟩ := hs
        have e0 : aF.eval (.tmp 2) = .pointer (some ⟨w.heap.size, 0, none⟩) := x0
        exact opC_load e0 (L0 wF hb) ⟨rfl, below_same wF⟩
      refine ⟨step_free rfl (fun aF wF hs hb => ?_), ?_⟩
      · obtain ⟨x0, -⟩ := hs
        have e0 : aF.eval (.tmp 21) = .pointer (some ⟨r, 0, none⟩) := x0
        refine opC_value (v := .pointer (some ⟨r, 0, none⟩)) ?_ ⟨rfl, below_same wF⟩
        have t0 := ev_of e0
        simp [execOp, go_sem, t0]
      refine ⟨step_free rfl (fun aF wF hs hb => ?_), ?_⟩
      · obtain ⟨x0, -⟩ := hs
        have e0 : aF.eval (.tmp 22) = .pointer (some ⟨r, 0, none⟩) := x0
        refine opC_value (v := .pointer (some ⟨r, 3, none⟩)) ?_ ⟨rfl, below_same wF⟩
        have t0 := ev_of e0
        simp [execOp, go_sem, t0]
      refine ⟨step_free rfl (fun aF wF hs hb => ?_), ?_⟩
      · obtain ⟨x0, -⟩ := hs
        have e0 : aF.eval (.tmp 23) = .pointer (some ⟨r, 3, none⟩) := x0
        exact opC_load e0 (L3 wF hb) ⟨rfl, below_same wF⟩
      refine ⟨step_free rfl (fun aF wF hs hb => ?_), ?_⟩
      · obtain ⟨x0, x1, -⟩ := hs
        have e0 : aF.eval (.tmp 20) = .int .i64 (S : Nat) := x0
        have e1 : aF.eval (.tmp 24) = .int .i64 (U : Int) := x1
        refine opC_value (v := .int .i64 (T : Int)) ?_ ⟨rfl, below_same wF⟩
        have t0 := ev_of e0
        have t1 := ev_of e1
        simp [execOp, go_sem, t0, t1, hST]
      refine ⟨step_free rfl (fun aF wF hs hb => ?_), ?_⟩
      · refine opC_alloc (cs := #[.int .i64 0]) (by go_simp) ⟨⟨wF.heap.size, rfl, ?_, ?_⟩, ?_⟩
        · exact hb.size
        · exact heap_alloc_new wF _
        · exact (Below.refl _ _).alloc (Nat.le_refl _) _
      exact trivial
    · intro f w9 hf hb9
      obtain ⟨tb, e6, htb, hkb⟩ : (boxF W4.heap.size 3 #[.int .i64 0]).p (f 7) w9 := hf 7 6 rfl
      have e25 : f 6 = .int .i64 (T : Int) := hf 6 25 rfl
      simp only [putF, Act.put, List.setIfInBounds_toArray, List.set_cons_zero, List.set_cons_succ]
      rw [e6, e25]
      have z0 := Blk.cell hkb 0
      have z1 := Blk.frozen hkb 0
      simp only [List.getElem?_toArray, List.getElem?_cons_zero] at z0
      constructor
      go_simp
      have kt := Blk.set_ hkb 0 (.int .i64 (T : Int))
      have hb10 := hb9.setCell htb (.int .i64 (T : Int)) (p := ⟨tb, 0, none⟩)
      simp only [List.setIfInBounds_toArray, List.set_cons_zero] at kt
      obtain ⟨W5, hW5⟩ : ∃ W, w9.setCell ⟨tb, 0, none⟩ (.int .i64 (T : Int)) = W := ⟨_, rfl⟩
      have kt : Blk W5 tb 3 #[.int .i64 (T : Int)] := by rw [← hW5]; exact kt
      rw [hW5] at hb10 ⊢
      have hw5 := HW3.out.trans (hb10.mono HW3.out.size)
      have hh5 := HD.out.2.1.1.below hw5 HR9.out
      have cQ := seed_any hh5 HN.out.1 (by have := HN.out; omega)
      have k2 := HK2.out.1.below hb10 HK2.out.1.lt
      have b2 := k2.cell 0
      simp only [List.getElem?_toArray, List.getElem?_cons_zero] at b2
      have HW5 := Lib.hid hw5
      have HKT := Lib.hid (And.intro kt (And.intro k2 (HK2.out.2.below hb10 HK2.out.2.lt)))
      have htw : w.heap.size + 2 ≤ tb := by
        have := HK2.out.2.lt
        omega
      have HTB := Lib.hid htw
      clear hf hb9 e6 e25 z0 z1 hkb hb10 hW5 hw5 hh5 L0 L3 cS hST htb kt k2 htw b4 f4
      obtain ⟨s, hs⟩ : ∃ s, seedN g Ls.length = s := ⟨_, rfl⟩
      rw [hs] at cQ
      have HSD := Lib.hid hs
      have hsl : s < 4294967296 := by rw [← hs]; exact seedN_lt _ _
      clear hs
      simp only [comesC]
      go_wp2_with fail
      refine cQ.mono ?_
      rintro e W6 ⟨rfl, hb6⟩
      have hw6 := HW5.out.trans (hb6.mono HW5.out.size)
      have hp6 := HP.out.1.below hw6
      have cM := Frame_any s A m q W6.heap.size b W6 hsl hp6.rd (Nat.le_refl _) HP.out.2.2.1 (by have := HX.out; omega) HP.out.2.2.2.1
      have HW6 := Lib.hid (And.intro hb6 hw6)
      clear cQ hb6 hw6 hp6
      go_wp2_with fail
      refine cM.mono ?_
      rintro e W7 ⟨rfl, hk7, hb7⟩
      have HW7 := Lib.hid (And.intro hk7 hb7)
      clear cM hk7 hb7
      go_wp2_with fail
      refine (Chunk_any _ (m + 8) (m + 8) W7).mono ?_
      rintro e W8 ⟨rfl, hw8⟩
      have HW8 := Lib.hid hw8
      clear hw8
      go_wp2_with fail
      have hw8 := HW8.out
      have hb8 : Below W7.heap.size W7 W8 := by rw [hw8]; exact ((Below.refl _ _).alloc (Nat.le_refl _) _).alloc (by simp) _
      have hs8 : W8.heap.size = W7.heap.size + 2 := by rw [hw8]; simp
      have hbs : W8.cell? ⟨W7.heap.size, 0, none⟩ = some (.slice (some ⟨W6.heap.size, 0, none⟩) (m + 8) (m + 8)) := by
        rw [hw8]
        exact ((Blk.new W7 35 #[.slice (some ⟨W6.heap.size, 0, none⟩) (m + 8) (m + 8)]).alloc _).cell 0
      have hbn : W8.cell? ⟨W7.heap.size + 1, 0, none⟩ = some (.int .i64 254) := by
        rw [hw8]
        have h := (Blk.new (W7.alloc (.cells #[.slice (some ⟨W6.heap.size, 0, none⟩) (m + 8) (m + 8)] 35)) 3 #[.int .i64 254]).cell 0
        rw [World.size_alloc] at h
        exact h
      have z56 := HW6.out.1.size
      have z67 := HW7.out.2.size
      have zt := HKT.out.1.lt
      have zw := HW5.out.size
      have zl := hb8.size
      have htb := HTB.out
      have hb58 : Below W5.heap.size W5 W8 := HW6.out.1.trans ((HW7.out.2.mono z56).trans (hb8.mono (Nat.le_trans z56 z67)))
      have hw58 : Below w.heap.size w W8 := HW5.out.trans (hb58.mono zw)
      have h67 : W6.heap.size < W7.heap.size := HW7.out.1.lt
      have hfr8 : Blk W8 W6.heap.size 5 ((Crc.frm s b).map enc8).toArray := HW7.out.1.below hb8 h67
      have hol := HD.out.1.lt
      have hd8 : Dr W8 base d o fl ws (-1) := HD.out.1.below hw58
      have kt8 := HKT.out.1.below hb58 zt
      have k28 := HKT.out.2.1.below hb58 HKT.out.2.1.lt
      have k48 := HKT.out.2.2.below hb58 HKT.out.2.2.lt
      have hr8 : Blk W8 r 62 (rhead d g R Ls.length c (usedN Ls)) := HD.out.2.1.1.below hw58 HR9.out
      have hpb := pages_bounds m
      have hnr : ¬ (o r ∨ r = tb) := by
        rintro (e | e)
        · exact HD.out.2.2.1 e
        · have := HR9.out; omega
      have hn2 : ¬ (o w.heap.size ∨ w.heap.size = tb) := by
        rintro (e | e)
        · have := hol _ e; omega
        · omega
      have hn4 : ¬ (o (w.heap.size + 1) ∨ w.heap.size + 1 = tb) := by
        rintro (e | e)
        · have := hol _ e; omega
        · omega
      have hnf : ¬ (o W6.heap.size ∨ W6.heap.size = tb) := by
        rintro (e | e)
        · have := hol _ e; omega
        · omega
      have HC := Lib.hid (And.intro hbs (And.intro hbn (And.intro hfr8 (And.intro hd8 (And.intro kt8 (And.intro k28 (And.intro k48 hr8)))))))
      have HZ := Lib.hid (And.intro hs8 (And.intro z56 (And.intro z67 (And.intro zt (And.intro zw (And.intro zl (And.intro htb h67)))))))
      have HO := Lib.hid (And.intro hol (And.intro hnr (And.intro hn2 (And.intro hn4 hnf))))
      have HW58 := Lib.hid hw58
      have HPB := Lib.hid hpb
      clear hw8 hb8 hs8 hbs hbn z56 z67 zt zw zl htb hb58 hw58 h67 hfr8 hol hd8 kt8 k28 k48 hr8 hpb hnr hn2 hn4 hnf b2
      refine (wpIn_wide (n := 6)).1 ?_
      refine wpIn_rangeFunc_ownG rfl (by decide) (gf := 61) (lb := #[.pointer (some ⟨W7.heap.size, 0, none⟩), .pointer (some ⟨W7.heap.size + 1, 0, none⟩)]) rfl trivial (enters_of Try.func61 (by kernel_rfl) rfl)
        (chunk_stops 5 W7.heap.size (W7.heap.size + 1) W6.heap.size (m + 8) (pagesN m) (fun i => o i ∨ i = tb) (by decide) W8 HC.out.1 HC.out.2.1 ⟨by have := HZ.out; omega, ?n1⟩ ⟨by have := HZ.out; omega, ?n2⟩ (by have := HPB.out; omega) (by have := HPB.out; omega) (by have := HX.out; omega))
        KeepN.trans (fun W l ob ob' hl _ _ _ => ⟨by simp, fun i hi _ => World.putObj_heap_other (by omega)⟩) (Below.refl _ _) (fun _ => rfl)
        (AppI W8 base d T tb o fl ws (Crc.frm s b)) (fun _ _ _ => False) (appI_own W8 base d T tb o fl ws (Crc.frm s b)) (fun _ _ _ _ _ hs _ _ => hs) ?init ?a1 ?assign ?body ?done ?stop
      case assign =>
        intro l x W K hK
        unfold partV
        gi_wp2
        exact hK
      case n1 =>
        rintro (e | e)
        · have := HO.out.1 _ e; have := HZ.out; omega
        · have := HZ.out; omega
      case n2 =>
        rintro (e | e)
        · have := HO.out.1 _ e; have := HZ.out; omega
        · have := HZ.out; omega
      case init => exact ⟨⟨o, by simpa [putsW] using HC.out.2.2.2.1, fun i _ h => h⟩, HC.out.2.2.2.2.1, Kept.refl _ _⟩
      case body =>
        rintro l pre x W ⟨⟨o', hd', ho'⟩, hkt, hkp⟩ hlen
        have hmx : Try.prog.follows .mixedOrders = true := by kernel_rfl
        have q2 := (show Blk W w.heap.size 30 #[.pointer (some ⟨r, 0, none⟩)] from (hkp.block _ (by have := HZ.out; omega) HO.out.2.2.1).trans HC.out.2.2.2.2.2.1)
        have qr := (show Blk W r 62 (rhead d g R Ls.length c (usedN Ls)) from (hkp.block _ HC.out.2.2.2.2.2.2.2.lt HO.out.2.1).trans HC.out.2.2.2.2.2.2.2)
        have qf := (show Blk W W6.heap.size 5 ((Crc.frm s b).map enc8).toArray from (hkp.block _ HC.out.2.2.1.lt HO.out.2.2.2.2).trans HC.out.2.2.1)
        have cM := fun W' (hb' : Below W.heap.size W W') => marked_any 165 (some ⟨W6.heap.size, 254 * x, none⟩) (min 254 (m + 8 - 254 * x)) (min 254 (m + 8 - 254 * x)) W'.heap.size (((Crc.frm s b).drop (254 * x)).take 254) W' (part_rd (qf.below hb' qf.lt)) (Nat.le_refl _)
          (by rw [List.length_take, List.length_drop, Crc.frm_length, HP.out.2.2.1]) (by omega)
        simp only [show (((165 : UInt8).toNat : Nat) : Int) = 165 from rfl] at cM
        have hSec : sector 165 (((Crc.frm s b).drop (254 * x)).take 254) = secOf (Crc.frm s b) x := rfl
        simp only [hSec] at cM
        have hsl := sector_len 165 (((Crc.frm s b).drop (254 * x)).take 254)
        rw [hSec] at hsl
        obtain ⟨sx, hsx⟩ : ∃ sx, secOf (Crc.frm s b) x = sx := ⟨_, rfl⟩
        simp only [hsx] at cM
        rw [hsx] at hsl
        have hpl : pre.length < pagesN m := hlen
        have ht9 : T + pre.length < fl.length := by have := HS.out; have := HX.out; have := HUN.out; omega
        have cW := fun w3 q3 (hb3 : Below W.heap.size W w3) (hq3 : W.heap.size ≤ q3) (hk3 : Blk w3 q3 5 (sx.map enc8).toArray) => Write_dr (hd'.below hb3) (by decide) (by decide) (T + pre.length) 256 ht9
          (RdK.of_new (B := W.heap.size) (blk_rd hk3) (fun b q e => by injection e with e; injection e with e; subst e; exact hq3) hd'.lt) hsl (by decide) (by rw [List.length_append, putsW_len, List.length_map]; have := HN.out; have := hd'.few; have hh : pagesN m ≤ fl.length := (by have := HX.out; have := HS.out; have := HUN.out; omega); omega)
        simp only [show less (-1) = -1 from rfl, full_id sx hsl] at cW
        obtain ⟨t, ht⟩ : ∃ t, T + pre.length = t := ⟨_, rfl⟩
        rw [ht] at hkt ht9
        simp only [ht] at cW
        have ht1 : (t : Int) ≤ 1000 := by have := HN.out; omega
        have HT := Lib.hid (And.intro ht (And.intro hsx (And.intro ht9 hpl)))
        have HD9 := Lib.hid (And.intro hd' (And.intro ho' hkp))
        have HK9 := Lib.hid (And.intro hkt (And.intro q2 qr))
        have v2 := q2.cell 0
        have v0 := (rhead_cells qr).1
        have vt := hkt.cell 0
        have ft := hkt.frozen 0
        simp only [List.getElem?_toArray, List.getElem?_cons_zero] at v2 vt
        have HSL := Lib.hid hsl
        clear ht hsx hd' ho' hkp hkt q2 qr qf hlen hpl ht9 hSec hsl
        have LA : ∀ W', Below W.heap.size W W' → (Instr.loadAt 30 (.pointer (some ⟨w.heap.size, 0, none⟩))).run Try.prog W' = .ok (.pointer (some ⟨r, 0, none⟩)) W' := fun W' hb => by
          have c1 := (HK9.out.2.1.below hb HK9.out.2.1.lt).cell 0
          simp only [List.getElem?_toArray, List.getElem?_cons_zero] at c1
          go_simp
        have LB : ∀ W', Below W.heap.size W W' → (Instr.loadAt 25 (.pointer (some ⟨r, 0, none⟩))).run Try.prog W' = .ok (.pointer (some ⟨d, 0, none⟩)) W' := fun W' hb => by
          have c1 := (rhead_cells (HK9.out.2.2.below hb HK9.out.2.2.lt)).1
          go_simp
        have LC : ∀ W', Below W.heap.size W W' → (Instr.loadAt 3 (.pointer (some ⟨tb, 0, none⟩))).run Try.prog W' = .ok (.int .i64 (t : Int)) W' := fun W' hb => by
          have c1 := (HK9.out.1.below hb HK9.out.1.lt).cell 0
          simp only [List.getElem?_toArray, List.getElem?_cons_zero] at c1
          go_simp
        gi_wp2
        refine wpIn_region_flow_two (l := [_, _, _, _, _, _, _]) (ol := _) (oz := _) rfl [some 32, some 33, some 34, some 35, some 36, some 37, some 38] (fun i => ([.is (.pointer (some ⟨r, 0, none⟩)), .is (.pointer (some ⟨r, 0, none⟩)), .is (.pointer (some ⟨r, 0, none⟩)), .is (.pointer (some ⟨d, 0, none⟩)), .is (.int .i64 (t : Int)), .is (.slice (some ⟨W6.heap.size, 254 * x, none⟩) (min 254 (m + 8 - 254 * x)) (min 254 (m + 8 - 254 * x))), secF W.heap.size sx] : List Flw).getD i .any) (by kernel_rfl) (by kernel_rfl) (by kernel_rfl) (by kernel_rfl) (by kernel_rfl) rfl rfl rfl ?_ ?_
        · skip
          refine ⟨step_free rfl (fun aF wF hs hb => ?_), ?_⟩
          · obtain ⟨x0, -⟩ := hs
            have e0 : aF.eval (.tmp 2) = .pointer (some ⟨w.heap.size, 0, none⟩) := x0
            exact opC_load e0 (LA wF hb) ⟨rfl, below_same wF⟩
          refine ⟨step_free rfl (fun aF wF hs hb => ?_), ?_⟩
          · obtain ⟨x0, -⟩ := hs
            have e0 : aF.eval (.tmp 32) = .pointer (some ⟨r, 0, none⟩) := x0
            refine opC_value (v := .pointer (some ⟨r, 0, none⟩)) ?_ ⟨rfl, below_same wF⟩
            have t0 := ev_of e0
            simp [execOp, go_sem, t0]
          refine ⟨step_free rfl (fun aF wF hs hb => ?_), ?_⟩
          · obtain ⟨x0, -⟩ := hs
            have e0 : aF.eval (.tmp 33) = .pointer (some ⟨r, 0, none⟩) := x0
            refine opC_value (v := .pointer (some ⟨r, 0, none⟩)) ?_ ⟨rfl, below_same wF⟩
            have t0 := ev_of e0
            simp [execOp, go_sem, t0]
          refine ⟨step_free rfl (fun aF wF hs hb => ?_), ?_⟩
          · obtain ⟨x0, -⟩ := hs
            have e0 : aF.eval (.tmp 34) = .pointer (some ⟨r, 0, none⟩) := x0
            exact opC_load e0 (LB wF hb) ⟨rfl, below_same wF⟩
          refine ⟨step_free rfl (fun aF wF hs hb => ?_), ?_⟩
          · obtain ⟨x0, -⟩ := hs
            have e0 : aF.eval (.tmp 6) = .pointer (some ⟨tb, 0, none⟩) := x0
            exact opC_load e0 (LC wF hb) ⟨rfl, below_same wF⟩
          refine ⟨step_free rfl (fun aF wF hs hb => ?_), ?_⟩
          · obtain ⟨x0, -⟩ := hs
            have e0 : aF.eval (.tmp 7) = .slice (some ⟨W6.heap.size, 254 * x, none⟩) (min 254 (m + 8 - 254 * x)) (min 254 (m + 8 - 254 * x)) := x0
            exact opC_move e0 ⟨rfl, below_same wF⟩
          refine ⟨step_free rfl (fun aF wF hs hb => ?_), ?_⟩
          · obtain ⟨x0, -⟩ := hs
            have e0 : aF.eval (.tmp 37) = .slice (some ⟨W6.heap.size, 254 * x, none⟩) (min 254 (m + 8 - 254 * x)) (min 254 (m + 8 - 254 * x)) := x0
            refine opC_callF (args := #[.int .u8 165, .slice (some ⟨W6.heap.size, 254 * x, none⟩) (min 254 (m + 8 - 254 * x)) (min 254 (m + 8 - 254 * x))]) (enters_of Try.func43 (by kernel_rfl) rfl) (by simp [e0]; rfl) (F := secF W.heap.size sx) ?_ (fun _ _ h1 h2 => ⟨h1, h2⟩)
            exact (cM wF hb).mono fun e w1 h => ⟨_, h.1, ⟨wF.heap.size, rfl, hb.size, h.2.1⟩, h.2.2⟩
          exact trivial
        · intro f' w9 hf hb9
          have e35 : f' 3 = .pointer (some ⟨d, 0, none⟩) := hf 3 35 rfl
          have e36 : f' 4 = .int .i64 (t : Int) := hf 4 36 rfl
          obtain ⟨qs, e38, hqs, hkq⟩ : (secF W.heap.size sx).p (f' 6) w9 := hf 6 38 rfl
          simp only [putF, Act.put, List.setIfInBounds_toArray, List.set_cons_zero, List.set_cons_succ]
          rw [e35, e36, e38]
          refine opC_enter (f := 42) (args := #[.pointer (some ⟨d, 0, none⟩), .int .i64 (t : Int), .slice (some ⟨qs, 0, none⟩) 256 256]) (by simp [go_sem]) ((cW w9 qs hb9 hqs hkq).mono ?_)
          rintro e w4 ⟨rfl, o4, hd4, hk4, ho4⟩
          refine ⟨_, rfl, opC_assign (v := .nilIface) rfl ?_⟩
          have htw4 : tb < w9.heap.size := Nat.lt_of_lt_of_le HK9.out.1.lt hb9.size
          have hno : ∀ i, i < W8.heap.size → (o' i → o i) := HD9.out.2.1
          have htn : ¬ o' tb := fun e => by
            have := HO.out.1 _ (HD9.out.2.1 tb (by have := HC.out.2.2.2.2.1.lt; exact this) e)
            have := HZ.out
            omega
          have kt4 : Blk w4 tb 3 #[.int .i64 (t : Int)] := (hk4.block tb htw4 htn).trans (HK9.out.1.below hb9 HK9.out.1.lt)
          have v4 := kt4.cell 0
          have f4 := kt4.frozen 0
          simp only [List.getElem?_toArray, List.getElem?_cons_zero] at v4
          have HW9 := Lib.hid (And.intro hb9 (And.intro hd4 (And.intro hk4 (And.intro ho4 (And.intro htn (And.intro kt4 htw4))))))
          clear hf hb9 e35 e36 e38 hqs hkq hd4 hk4 ho4 htw4 hno htn kt4 cM cW LA LB LC
          gi_wp2
          exact round_end HD9.out.1 HD9.out.2.1 HD9.out.2.2 HW9.out.1 HW9.out.2.1 HW9.out.2.2.1 HW9.out.2.2.2.1 HT.out.1 HT.out.2.1 HW9.out.2.2.2.2.1 HW9.out.2.2.2.2.2.1 HC.out.2.2.2.2.1.lt
      case done =>
        rintro D xs W hD rfl ⟨⟨o', hd', ho'⟩, hkt, hkp⟩ hK
        have eW : ws ++ putsW T ((List.range (pagesN m)).map (secOf (Crc.frm s b))) = addW fl ws g Ls b := by
          unfold addW secs
          rw [HUN.out.1, HSD.out, HP.out.2.2.1, HS.out.1, HS.out.2.2]
          rfl
        rw [eW] at hd'
        have q2 := (show Blk W w.heap.size 30 #[.pointer (some ⟨r, 0, none⟩)] from (hkp.block _ (by have := HZ.out; omega) HO.out.2.2.1).trans HC.out.2.2.2.2.2.1)
        have hp2 : RdQ w (fun i => av i ∧ i < w.heap.size) A b := fun h0 => by
          obtain ⟨b1, o1, e1, h1, h2, h3⟩ := HP.out.1 h0
          exact ⟨b1, o1, e1, h1, ⟨h2, h1⟩, h3⟩
        have hpW := (hp2.below HW58.out).kept hkp fun i hi h => by
          rcases h with h | h
          · exact HP.out.2.1 i hi.1 (.inl h)
          · have := HZ.out
            have := hi.2
            omega
        have v2 := q2.cell 0
        simp only [List.getElem?_toArray, List.getElem?_cons_zero] at v2
        have cC : ∀ W', Below W.heap.size W W' → Calls Try.prog 36 #[.slice A m q] W' (ToF (cloF W.heap.size b) W') := fun W' hb => (CloneL_any A m q W'.heap.size b W' (hpW.below hb).rd HP.out.2.2.1 (by have := HX.out; omega) (Nat.le_refl _)).mono fun e w1 h => by
          obtain ⟨A1, c1, h1, -, -, h2, h3⟩ := h
          exact ⟨_, h1, ⟨A1, c1, rfl, h2.low hb.size⟩, h3⟩
        have LA : ∀ W', Below W.heap.size W W' → (Instr.loadAt 30 (.pointer (some ⟨w.heap.size, 0, none⟩))).run Try.prog W' = .ok (.pointer (some ⟨r, 0, none⟩)) W' := fun W' hb => by
          have c1 := (q2.below hb q2.lt).cell 0
          simp only [List.getElem?_toArray, List.getElem?_cons_zero] at c1
          go_simp
        have hhW := HD.out.2.1
        have HDN := Lib.hid (And.intro hd' (And.intro ho' (And.intro hkp (And.intro hD hK))))
        have HQ2 := Lib.hid (And.intro hpW q2)
        clear eW hd' ho' hkp hkt hD hK q2 hpW hp2 hhW v2
        go_wp2_with fail
        refine wp_region_flow_last (l := [_, _, _]) (ol := _) rfl [some 45, some 46, some 47] (fun i => ([.is (.pointer (some ⟨r, 0, none⟩)), .is (.slice A m q), cloF W.heap.size b] : List Flw).getD i .any) (by kernel_rfl) (by kernel_rfl) (by kernel_rfl) rfl rfl ?_ ?_
        · skip
          refine ⟨step_free rfl (fun aF wF hs hb => ?_), ?_⟩
          · obtain ⟨x0, -⟩ := hs
            have e0 : aF.eval (.tmp 2) = .pointer (some ⟨w.heap.size, 0, none⟩) := x0
            exact opC_load e0 (LA wF hb) ⟨rfl, below_same wF⟩
          refine ⟨step_free rfl (fun aF wF hs hb => ?_), ?_⟩
          · obtain ⟨x0, -⟩ := hs
            have e0 : aF.eval (.tmp 1) = .slice A m q := x0
            exact opC_move e0 ⟨rfl, below_same wF⟩
          refine ⟨step_free rfl (fun aF wF hs hb => ?_), ?_⟩
          · obtain ⟨x0, -⟩ := hs
            have e0 : aF.eval (.tmp 46) = .slice A m q := x0
            exact opC_callF (args := #[.slice A m q]) (enters_of Try.func36 (by kernel_rfl) rfl) (by simp [e0]) (F := cloF W.heap.size b) (cC wF hb) (fun _ _ h1 h2 => ⟨h1, h2⟩)
          exact trivial
        · intro f' w5 hf hb5
          have e45 : f' 0 = .pointer (some ⟨r, 0, none⟩) := hf 0 45 rfl
          obtain ⟨A5, q5, e47, hx⟩ : (cloF W.heap.size b).p (f' 2) w5 := hf 2 47 rfl
          simp only [putF, Act.put, List.setIfInBounds_toArray, List.set_cons_zero, List.set_cons_succ]
          rw [e45, e47]
          have hh8 := HD.out.2.1.below HW58.out
          have hlt := HD.out.2.1.lt (Nat.le_succ r)
          have hhW := hh8.keepO HDN.out.2.2.1 (by
            refine ⟨HO.out.2.1, fun q hq => ?_, fun v hv q hq => ?_⟩
            · rintro (e | e)
              · exact HD.out.2.2.2.1 q hq e
              · have := hlt q (.inr (.inl hq)); have := HZ.out; omega
            · rintro (e | e)
              · exact HD.out.2.2.2.2 v hv q hq e
              · have := hlt q (.inr (.inr ⟨v, hv, hq⟩)); have := HZ.out; omega)
          have hh5 := hhW.below hb5
          have hs5 := hb5.size
          have hsW := HDN.out.2.2.1.size
          have cK := keep_any (p := b.length) (q := q5) (A := A5) hh5.1 hh5.2.1 (by have := HZ.out; have := HR9.out; omega) (fun e => hh5.2.2.2.1 r e rfl) HN.out.2.2.2.1 (by have := HUN.out; omega) (by have := HX.out; have := HP.out.2.2.1; omega)
          refine opC_enter (f := 44) (args := #[.pointer (some ⟨r, 0, none⟩), .slice A5 b.length q5]) (by simp [go_sem]) (cK.mono ?_)
          intro e w6 hkp6
          obtain ⟨rfl, hD6, h46, hown⟩ := app_end (v := .nilIface) (B4 := w.heap.size + 1) HD.out.1 HD.out.2.1 HD.out.2.2 HW58.out HDN.out.1 HDN.out.2.1 HDN.out.2.2.1 (by have := HZ.out; omega) hb5 hx hkp6 HDN.out.2.2.2.1 HDN.out.2.2.2.2 rfl (by omega) (by have := HZ.out; omega) (by have := HZ.out; omega)
          have k46 : Blk w6 (w.heap.size + 1) 27 #[.nilIface] := h46.trans HC.out.2.2.2.2.2.2.1
          have v4 := k46.cell 0
          have f4 := k46.frozen 0
          simp only [List.getElem?_toArray, List.getElem?_cons_zero] at v4
          have k47 := k46.set_ 0 .nilIface
          have HF := Lib.hid (And.intro hD6 (And.intro hown k47))
          clear hf hb5 e45 e47 hx hh8 hlt hhW hh5 hs5 hsW cK hkp6 hD6 h46 hown k46 k47 cC LA
          refine ⟨_, rfl, ?_⟩
          go_wp2_with fail
          have hne : D ≠ w.heap.size + 1 := by
            have := HDN.out.2.2.2.1
            have := HZ.out
            omega
          have hDf : (w6.setCell ⟨w.heap.size + 1, 0, none⟩ .nilIface).heap[D]? = some (.deferred (some [])) := (Below.heap_setCell w6 ⟨w.heap.size + 1, 0, none⟩ .nilIface D hne).trans HF.out.1
          refine ⟨by simp, .inl ⟨_, _, rfl, run_takeDeferred hDf, ?_⟩⟩
          refine ⟨_, results_cellB _ _ (w.heap.size + 1) .nilIface rfl ?_, .inr ⟨rfl, rfl, HF.out.2.1⟩⟩
          exact (World.cell?_of_block (World.putObj_heap_other (fun e => hne e.symm))).trans (HF.out.2.2.cell 0)
      case stop =>
        rintro D c pre W _ _ h _
        exact h.elim
  · have hFb : errV F = .iface 54 (.int .i64 (F : Int)) := by unfold errV; rw [if_neg hF0]
    rw [hFb]
    have HK2 := Lib.hid (And.intro k2 k4)
    have hn9 := (k4.set_ 0 (.iface 54 (.int .i64 (F : Int)))).cell 0
    simp only [List.setIfInBounds_toArray, List.set_cons_zero, List.getElem?_toArray, List.getElem?_cons_zero] at hn9
    have HN9 := Lib.hid hn9
    clear k2 k4 hn9
    go_wp2_with fail
    refine ⟨_, results_cellB _ _ (w.heap.size + 1) _ rfl HN9.out, .inl ⟨hF0, by rw [hFb], ?_⟩⟩
    exact HW3.out.setCell (p := ⟨w.heap.size + 1, 0, none⟩) (by simp) _
end
end Go.Proofs.Ytbaenpgjggojaaa
