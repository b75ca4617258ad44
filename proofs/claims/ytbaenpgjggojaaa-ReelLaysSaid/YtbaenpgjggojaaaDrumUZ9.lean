/-
drum.Flush where it goes well. Conditions: the drum is known whole, spend lets it.
-/
import Derived.Test.YtbaenpgjggojaaaDrumTZ9
import Derived.Test.YtbaenpgjggojaaaFlowZ9
namespace Go.Proofs.Ytbaenpgjggojaaa
open Go.RowKit

theorem Kept.mono {own own' : Nat → Prop} {a b : World} (h : Kept own a b) (hs : ∀ i, own i → own' i) : Kept own' a b := ⟨h.os, h.tape, h.output, h.size, fun i hi hn => h.block i hi (fun e => hn (hs i e))⟩
theorem kept_set (w : World) (b o : Nat) (s : _) (u : Value) : Kept (fun i => i = b) w (w.setCell ⟨b, o, s⟩ u) := ⟨rfl, rfl, rfl, by simp [World.setCell], fun j _ hj => Below.heap_setCell w ⟨b, o, s⟩ u j hj⟩
theorem encW_length (x : Nat × List UInt8) (h : x.2.length = 256) : (encW x).length = 257 := by rw [encW, List.length_cons, List.length_map, h]
theorem encW_one (x : Nat × List UInt8) : ∀ u ∈ encW x, u.oneCell' = true := by
  intro u hu
  rw [encW, List.mem_cons] at hu
  rcases hu with rfl | hu
  · rfl
  · exact enc8_one _ u hu
theorem infoSec : (Try.prog.info? 78).map (·.size) = some 256 := by kernel_rfl
theorem infoWr : (Try.prog.info? 89).map (·.size) = some 257 := by kernel_rfl
theorem isRowS : ∃ ds, Try.prog.underlying 78 = some ds ∧ ds.isRow = true := ⟨_, Try.underlying78, rfl⟩
theorem loadSec (b o : Nat) (cs : List Value) (hl : cs.length = 256) (u : World) (hc : u.rangeAt b o cs) : (Instr.loadAt 78 (.pointer (some ⟨b, o, none⟩))).run Try.prog u = .ok (.agg cs.toArray) u := by
  obtain ⟨ds, hu, hd⟩ := isRowS
  exact run_loadAt_mid u b o 78 cs ds hc hu hd (by rw [infoSec, hl])

section
variable {ops : Array Oper} {rest : List Oper} {o : Oper} {a : Act} {w : World} {Q : Exit → Act → World → Prop}
theorem wpl_loadW (hg : o.guard = none) (x : Operand) (ho : o.op = .load 89 x) (b off : Nat) (hx : a.eval x = .pointer (some ⟨b, off, none⟩)) (cs : List Value) (hl : cs.length = 257) (hc : w.rangeAt b off cs)
    (h : wpList Try.prog ops Q rest (a.put o.dst (.agg cs.toArray)) w) : wpList Try.prog ops Q (o :: rest) a w := by
  obtain ⟨ds, hu, hd⟩ := isRowW
  exact wpList_load_mid hg 89 x ho b off hx cs ds hc hu hd (by rw [infoWr, hl]) h
theorem wpl_store2 (hg : o.guard = none) (x y : Operand) (ho : o.op = .store 89 x y) (cs : List Value) (hl : cs.length = 257) (h1 : ∀ u ∈ cs, u.oneCell' = true) (hx : a.eval x = .pointer (some ⟨w.heap.size, 0, none⟩)) (hy : a.eval y = .agg cs.toArray)
    (h : wpList Try.prog ops Q rest (a.put o.dst undef) (w.alloc (.cells cs.toArray 89))) : wpList Try.prog ops Q (o :: rest) a (w.alloc (.cells (wz 0) 89)) := by
  refine wpList_store_row hg 89 x y ho w.heap.size cs.toArray hx hy 89 (wz 0) (heap_alloc_last _ _) (by rw [infoWr, List.size_toArray, hl]) (by rw [wz_size, List.size_toArray, hl]) (all_oneCell_toArray h1) ?_
  rw [World.setRow_alloc_new]
  exact h
end

/-- A store of a whole sector into a block. -/
theorem opC_storeS {x y : Operand} {ty : TypeId} {pos : String} {af : Array Edge} {a : Act} {w : World} {K : Value → World → Prop} {f o : Nat} {X : List Value} {cur : Array Value} {t : TypeId}
    (hx : a.eval x = .pointer (some ⟨f, o, none⟩)) (hy : a.eval y = .agg X.toArray) (hg : w.heap[f]? = some (.cells cur t (0, 0))) (hl : X.length = 256) (hfit : o + 256 ≤ cur.size) (h1 : ∀ u ∈ X, u.oneCell' = true)
    (hk : K undef (w.setRow f (splice cur.toList o X).toArray)) : opC Try.prog ⟨none, .store 78 x y, ty, pos, af, none⟩ a w K := by
  have hst := run_storeCells_at Try.prog f o t X 0 cur w hg (by omega) h1
  have hi := infoSec
  constructor
  unfold execOp
  cases hq : Try.prog.info? 78 with
  | none => rw [hq] at hi; cases hi
  | some i =>
    have hs : i.size = 256 := by simpa [hq] using hi
    simp only [Nat.add_zero] at hst
    have e : splice cur.toList o X = cur.toList.take o ++ X ++ cur.toList.drop (o + X.length) := by unfold splice; rw [List.append_assoc]
    have hrun : (Instr.storeAt 78 (.pointer (some ⟨f, o, none⟩)) (.agg X.toArray)).run Try.prog w = .ok () (w.setRow f (splice cur.toList o X).toArray) := by
      rw [e]
      simp [Instr.storeAt, Instr.sureAddr, storeVar, sizeOf, typeInfo, hq, Value.cells, hs, hl, hst, Sem.run_bind, Sem.run_pure]
    simp only [hx, hy, hrun, Sem.run_bind, Result.andThen_ok]
    exact hk

section
variable {w w2 : World} {base d f g : Nat} {V : Option Addr} {cv : Nat} {T : Tails} {fl : List (List UInt8)} {ws : List (Nat × List UInt8)} {ls : List Nat} {left : Int}
/-- A write's cells in the row of writes. -/
theorem Dru.rowAt (h : Dru w base d f g V cv T fl ws ls left) (k : Nat) (hk : k < ws.length) : ∃ v, V = some ⟨v, 0, none⟩ ∧ v < w.heap.size ∧ w.rangeAt v (k * 257) (encW ws[k]) := by
  have hr := h.row
  obtain ⟨v, cap, hv, _, hlt⟩ := hr.form (by omega)
  injection hv with hV _ hc
  subst hV hc
  refine ⟨v, rfl, hlt, fun j u hu => ?_⟩
  have hl : (encW ws[k]).length = 257 := encW_length _ (h.fullW _ (List.getElem_mem hk))
  have hj : j < 257 := by
    rcases Nat.lt_or_ge j 257 with h' | h'
    · exact h'
    · rw [List.getElem?_eq_none (by omega)] at hu; cases hu
  have hx := flatten_at 257 (ws.map encW) (fun s hs => by
    obtain ⟨x, hx, rfl⟩ := List.mem_map.1 hs
    exact encW_length x (h.fullW x hx)) k (encW ws[k]) (by rw [List.getElem?_map, List.getElem?_eq_getElem hk]; rfl) j hj
  rw [hr.cellAt (k * 257 + j) (by have := Nat.mul_le_mul_right 257 hk; rw [Nat.succ_mul] at this; omega)]
  unfold flatW
  rw [hx, hu]

set_option maxRecDepth 20000 in
set_option maxHeartbeats 4000000 in
theorem Flush_ok (_h0 : Blk w d 86 (dhead (some ⟨f, 0, none⟩) fl.length T.cf V ws.length cv (some ⟨g, 0, none⟩) fl.length T.cl left))
    (hsp : Calls Try.prog 56 #[.pointer (some ⟨d, 0, none⟩)] w fun e w' => e = .returned .nilIface ∧ w' = w2) (left' : Int)
    (h : Dru w2 base d f g V cv T fl ws ls left') (hr : Ri fl.length ws ls) :
    Calls Try.prog 32 #[.pointer (some ⟨d, 0, none⟩)] w fun e w' => e = .returned .nilIface ∧ Dru w' base d f g none 0 T (app fl ws) [] (List.replicate fl.length 0) left' ∧ Kept (ownOf d f g V) w2 w' := by
  go_enter Try.func32, Try.ntmps32
  go_wp2_with fail
  refine hsp.mono ?_
  rintro e w3 ⟨rfl, rfl⟩
  obtain ⟨-, c1, -, -, -, -, -⟩ := dhead_cells h.head
  have H := Lib.hid h
  have HR := Lib.hid hr
  have hwm : ws.length ≤ 1000000 := h.fewW
  clear _h0 hsp h hr
  go_wp2
  go_loopw [5, 19] (fun _ z wr => ∃ k : Nat, k ≤ ws.length ∧ z = .int .i64 k ∧ Blk wr f 78 (flatS (app fl (ws.take k)) ++ T.tf) ∧ Blk wr g 3 (encI (zap ls (ws.take k)) ++ T.tg) ∧ Kept (fun i => i = f ∨ i = g) w3 wr) (fun _ z _ => ws.length - (intOf z).toNat)
  case atStart => exact ⟨0, Nat.zero_le _, rfl, H.out.rows, H.out.last, Kept.refl _ _⟩
  case round =>
    obtain ⟨k, hk, rfl, hb1, hb2, hk1⟩ := hrel
    have hdne : d ≠ f ∧ d ≠ g ∧ f ≠ g := ⟨H.out.far.2.2.2.1, H.out.far.2.2.2.2.1, H.out.far.2.2.2.2.2.1⟩
    have hd : Blk wr d 86 (dhead (some ⟨f, 0, none⟩) fl.length T.cf V ws.length cv (some ⟨g, 0, none⟩) fl.length T.cl left') := (hk1.block d H.out.head.lt (not_or.2 ⟨hdne.1, hdne.2.1⟩)).trans H.out.head
    by_cases hlt : k < ws.length
    · obtain ⟨v, hV, hv, hrg⟩ := H.out.rowAt k hlt
      obtain ⟨⟨s0, X⟩, hx⟩ : ∃ x, x = ws[k] := ⟨_, rfl⟩
      have hil : s0 < fl.length := by have := HR.out.at_ _ (List.getElem_mem hlt); rw [← hx] at this; exact this
      have hXl : X.length = 256 := by have := H.out.fullW _ (List.getElem_mem hlt); rw [← hx] at this; exact this
      have hvn := H.out.far.2.2.2.2.2.2 _ hV
      have HRG : Hid (wr.rangeAt v (k * 257) (encW (s0, X))) := Lib.hid (by rw [hx]; exact fun j u hu => (World.cell?_of_block (hk1.block v hv (not_or.2 ⟨hvn.2.1, hvn.2.2⟩))).trans (hrg j u hu))
      have HAP : Hid ((app fl (ws.take k)).set s0 X = app fl (ws.take (k + 1))) := Lib.hid (by rw [app_take fl ws k hlt, ← hx])
      have HZP : Hid ((zap ls (ws.take k)).set s0 0 = zap ls (ws.take (k + 1))) := Lib.hid (by rw [zap_take ls ws k hlt, ← hx])
      have HAF : Hid (∀ s ∈ app fl (ws.take k), s.length = 256) := Lib.hid (app_full _ (fun x hx => H.out.fullW x (List.mem_of_mem_take hx)) fl H.out.full)
      have HB1 := Lib.hid hb1
      have HB2 := Lib.hid hb2
      have HK1 := Lib.hid hk1
      have HD := Lib.hid hd
      have HDN := Lib.hid hdne
      have HFS : Hid (f < wr.heap.size ∧ g < wr.heap.size ∧ d < wr.heap.size) := Lib.hid ⟨hb1.lt, hb2.lt, hd.lt⟩
      have i0 : (0 : Int) ≤ (k : Int) := by omega
      have i1 : (k : Int) < (ws.length : Int) := by omega
      obtain ⟨cs, hcs⟩ : ∃ cs, cs = encW (s0, X) := ⟨_, rfl⟩
      rw [← hcs] at HRG
      have HCL : Hid (cs.length = 257) := Lib.hid (by rw [hcs]; exact encW_length _ hXl)
      have HCO : Hid (∀ u ∈ cs, u.oneCell' = true) := Lib.hid (by rw [hcs]; exact encW_one _)
      have HCS := Lib.hid hcs
      subst hV
      clear hb1 hb2 hk1 hd hdne hx hrg hcs hvn
      go_wp2_with (first | (with_reducible refine wpl_loadW (o := ⟨some 22, _, _, _, _, _⟩) rfl (.tmp 21) rfl v (k * 257) rfl cs HCL.out HRG.out ?_) | (with_reducible refine wpl_alloc (o := ⟨some 5, _, _, _, _, _⟩) rfl rfl ?_) | (with_reducible refine wpl_store2 (o := ⟨none, _, _, _, _, _⟩) rfl (.tmp 5) (.tmp 22) rfl cs HCL.out HCO.out rfl rfl ?_))
      obtain ⟨B5, hB5⟩ : ∃ B, B = wr.heap.size := ⟨_, rfl⟩
      have HBE := Lib.hid hB5
      have hbox : Blk (wr.alloc (.cells cs.toArray 89)) B5 89 cs.toArray := by rw [hB5]; exact Blk.new wr _ _
      have hbw : Below wr.heap.size wr (wr.alloc (.cells cs.toArray 89)) := (Below.refl _ wr).alloc (Nat.le_refl _) _
      obtain ⟨W1, hW1⟩ : ∃ W, W = wr.alloc (.cells cs.toArray 89) := ⟨_, rfl⟩
      rw [← hB5]
      rw [← hW1] at hbox hbw ⊢
      clear hW1 hB5
      have HW1 := Lib.hid hbw
      have hd1 := HD.out.below hbw HFS.out.2.2
      have hb11 := HB1.out.below hbw HFS.out.1
      have hb12 := HB2.out.below hbw HFS.out.2.1
      have L25 : ∀ W', Below W1.heap.size W1 W' → (Instr.loadAt 82 (.pointer (some ⟨d, 0, none⟩))).run Try.prog W' = .ok (.slice (some ⟨f, 0, none⟩) fl.length T.cf) W' := fun W' hb => by
        obtain ⟨c0, -⟩ := dhead_cells (hd1.below hb hd1.lt)
        go_simp
      have L27 : ∀ W', Below W1.heap.size W1 W' → (Instr.loadAt 3 (.pointer (some ⟨B5, 0, none⟩))).run Try.prog W' = .ok (.int .i64 (s0 : Int)) W' := fun W' hb => by
        have c0 := (hbox.below hb hbox.lt).cell 0
        rw [HCS.out] at c0
        have c1 : W'.cell? ⟨B5, 0, none⟩ = some (.int .i64 (s0 : Int)) := c0
        clear c0
        go_simp
      have L29 : ∀ W', Below W1.heap.size W1 W' → (Instr.loadAt 78 (.pointer (some ⟨B5, 1, none⟩))).run Try.prog W' = .ok (.agg (X.map enc8).toArray) W' := fun W' hb => by
        refine loadSec B5 1 (X.map enc8) (by rw [List.length_map, hXl]) W' fun j u hu => ?_
        rw [(hbox.below hb hbox.lt).cell, HCS.out, List.getElem?_toArray, encW, Nat.add_comm 1 j, List.getElem?_cons_succ]
        exact hu
      have q0 : (0 : Int) ≤ (s0 : Int) := by omega
      have q1 : (s0 : Int) < (fl.length : Int) := by omega
      go_wp2_with fail
      refine wp_region_flow_last (l := [_, _, _, _, _, _, _, _, _]) (ol := _) rfl [some 23, some 24, some 25, some 26, some 27, some 28, some 29, some 30, some 31] (fun i => ([.is (.pointer (some ⟨d, 0, none⟩)), .is (.pointer (some ⟨d, 0, none⟩)), .is (.pointer (some ⟨d, 0, none⟩)), .is (.slice (some ⟨f, 0, none⟩) fl.length T.cf), .is (.pointer (some ⟨B5, 0, none⟩)), .is (.int .i64 (s0 : Int)), .is (.pointer (some ⟨B5, 1, none⟩)), .is (.agg (X.map enc8).toArray), .is (.pointer (some ⟨f, s0 * 256, none⟩))] : List Flw).getD i .any) (by kernel_rfl) (by kernel_rfl) (by kernel_rfl) rfl rfl ?_ ?_
      · skip
        refine ⟨step_free rfl (fun aF wF hs hb => ?_), ?_⟩
        · obtain ⟨x0, -⟩ := hs
          have e0 : aF.eval (.tmp 0) = .pointer (some ⟨d, 0, none⟩) := x0
          exact opC_move e0 ⟨rfl, below_same wF⟩
        refine ⟨step_free rfl (fun aF wF hs hb => ?_), ?_⟩
        · obtain ⟨x0, -⟩ := hs
          have e0 : aF.eval (.tmp 23) = .pointer (some ⟨d, 0, none⟩) := x0
          refine opC_value (v := .pointer (some ⟨d, 0, none⟩)) ?_ ⟨rfl, below_same wF⟩
          have t0 := ev_of e0
          simp [execOp, go_sem, t0]
        refine ⟨step_free rfl (fun aF wF hs hb => ?_), ?_⟩
        · obtain ⟨x0, -⟩ := hs
          have e0 : aF.eval (.tmp 24) = .pointer (some ⟨d, 0, none⟩) := x0
          refine opC_value (v := .pointer (some ⟨d, 0, none⟩)) ?_ ⟨rfl, below_same wF⟩
          have t0 := ev_of e0
          simp [execOp, go_sem, t0]
        refine ⟨step_free rfl (fun aF wF hs hb => ?_), ?_⟩
        · obtain ⟨x0, -⟩ := hs
          have e0 : aF.eval (.tmp 25) = .pointer (some ⟨d, 0, none⟩) := x0
          exact opC_load e0 (L25 wF hb) ⟨rfl, below_same wF⟩
        refine ⟨step_free rfl (fun aF wF hs hb => ?_), ?_⟩
        · obtain ⟨x0, -⟩ := hs
          have e0 : aF.eval (.tmp 5) = .pointer (some ⟨B5, 0, none⟩) := x0
          refine opC_value (v := .pointer (some ⟨B5, 0, none⟩)) ?_ ⟨rfl, below_same wF⟩
          have t0 := ev_of e0
          simp [execOp, go_sem, t0]
        refine ⟨step_free rfl (fun aF wF hs hb => ?_), ?_⟩
        · obtain ⟨x0, -⟩ := hs
          have e0 : aF.eval (.tmp 27) = .pointer (some ⟨B5, 0, none⟩) := x0
          exact opC_load e0 (L27 wF hb) ⟨rfl, below_same wF⟩
        refine ⟨step_free rfl (fun aF wF hs hb => ?_), ?_⟩
        · obtain ⟨x0, -⟩ := hs
          have e0 : aF.eval (.tmp 5) = .pointer (some ⟨B5, 0, none⟩) := x0
          refine opC_value (v := .pointer (some ⟨B5, 1, none⟩)) ?_ ⟨rfl, below_same wF⟩
          have t0 := ev_of e0
          simp [execOp, go_sem, t0]
        refine ⟨step_free rfl (fun aF wF hs hb => ?_), ?_⟩
        · obtain ⟨x0, -⟩ := hs
          have e0 : aF.eval (.tmp 29) = .pointer (some ⟨B5, 1, none⟩) := x0
          exact opC_load e0 (L29 wF hb) ⟨rfl, below_same wF⟩
        refine ⟨step_free rfl (fun aF wF hs hb => ?_), ?_⟩
        · obtain ⟨x0, x1, -⟩ := hs
          have e0 : aF.eval (.tmp 26) = .slice (some ⟨f, 0, none⟩) fl.length T.cf := x0
          have e1 : aF.eval (.tmp 28) = .int .i64 (s0 : Int) := x1
          refine opC_value (v := .pointer (some ⟨f, s0 * 256, none⟩)) ?_ ⟨rfl, below_same wF⟩
          simp [execOp, go_sem, ev_of e0, ev_of e1, q0, q1]
        exact trivial
      · intro fv w6 hf hb6
        have h7 : fv 7 = .agg (X.map enc8).toArray := hf 7 30 rfl
        have h8 : fv 8 = .pointer (some ⟨f, s0 * 256, none⟩) := hf 8 31 rfl
        have hf6 := hb11.below hb6 hb11.lt
        have hg6 := hb12.below hb6 hb12.lt
        have hd6 := hd1.below hb6 hd1.lt
        have hx6 := hbox.below hb6 hbox.lt
        have hBf : B5 ≠ f ∧ B5 ≠ d := ⟨fun e => by rw [HBE.out] at e; exact absurd HFS.out.1 (by omega), fun e => by rw [HBE.out] at e; exact absurd HFS.out.2.2 (by omega)⟩
        have hk6 : Kept (fun i => i = f ∨ i = g) w3 w6 := HK1.out.trans (Kept.of_below (own := fun _ => False) (HW1.out.trans (hb6.mono HW1.out.size))) (fun _ _ h => h.elim)
        have hsz6 : f < w6.heap.size := hf6.lt
        clear hf L25 L27 L29 hb11 hb12 hd1 hbox
        simp only [putF, Act.put, List.setIfInBounds_toArray, List.set_cons_zero, List.set_cons_succ]
        refine opC_storeS (X := X.map enc8) h8 h7 hf6 (by rw [List.length_map, hXl]) (by rw [Array.size_append, flatS_size _ HAF.out, app_length]; have := Nat.mul_le_mul_right 256 hil; rw [Nat.succ_mul] at this; omega) (enc8_one X) ?_
        have e7 := flatS_splice (app fl (ws.take k)) HAF.out T.tf s0 256 X (by rw [app_length]; exact hil) hXl (Nat.le_refl _)
        rw [tear_all _ _ hXl (getD_full HAF.out (by rw [app_length]; exact hil)), show List.take 256 X = X from List.take_of_length_le (by omega), HAP.out] at e7
        rw [e7]
        obtain ⟨w7, hw7⟩ : ∃ w7, w7 = w6.setRow f (flatS (app fl (ws.take (k + 1))) ++ T.tf) := ⟨_, rfl⟩
        have hf7 : Blk w7 f 78 (flatS (app fl (ws.take (k + 1))) ++ T.tf) := by rw [hw7]; exact setRow_heap w6 f _ _ _ _ hf6
        have hg7 : Blk w7 g 3 (encI (zap ls (ws.take k)) ++ T.tg) := by rw [hw7]; exact (setRow_other w6 f g _ (Ne.symm HDN.out.2.2)).trans hg6
        have hd7 : Blk w7 d 86 (dhead (some ⟨f, 0, none⟩) fl.length T.cf (some ⟨v, 0, none⟩) ws.length cv (some ⟨g, 0, none⟩) fl.length T.cl left') := by rw [hw7]; exact (setRow_other w6 f d _ HDN.out.1).trans hd6
        have hx7 : Blk w7 B5 89 cs.toArray := by rw [hw7]; exact (setRow_other w6 f B5 _ hBf.1).trans hx6
        have hk7 : Kept (fun i => i = f ∨ i = g) w3 w7 := hk6.trans (b := w6) (own' := fun i => i = f) (by rw [hw7]; exact ⟨rfl, rfl, rfl, by simp [World.setRow], fun j _ hj => setRow_other w6 f j _ hj⟩) (fun i _ h => .inl h)
        rw [← hw7]
        obtain ⟨-, -, c2, -, -, -, -⟩ := dhead_cells hd7
        have cb : w7.cell? ⟨B5, 0, none⟩ = some (.int .i64 (s0 : Int)) := by
          have h := hx7.cell 0
          rw [HCS.out] at h
          exact h
        have hil2 : s0 < (zap ls (ws.take k)).length := by rw [zap_length, H.out.len]; exact hil
        have cg : w7.cell? ⟨g, s0, none⟩ = some (.int .i64 (((zap ls (ws.take k))[s0] : Nat) : Int)) := by
          rw [hg7.cell, Array.getElem?_append_left (by rw [encI_size]; exact hil2)]
          unfold encI
          rw [List.getElem?_toArray, List.getElem?_map, List.getElem?_eq_getElem hil2]
          rfl
        have cz := hg7.frozen s0
        generalize (zap ls (ws.take k))[s0] = old at cg
        have hset := encI_set (zap ls (ws.take k)) T.tg s0 0 hil2
        rw [HZP.out] at hset
        have HG8 : Hid (Blk (w7.setCell ⟨g, s0, none⟩ (.int .i64 0)).drew g 3 (encI (zap ls (ws.take (k + 1))) ++ T.tg)) := Lib.hid (by rw [← hset]; exact (hg7.set_ s0 _).drew)
        have HF8 : Hid (Blk (w7.setCell ⟨g, s0, none⟩ (.int .i64 0)).drew f 78 (flatS (app fl (ws.take (k + 1))) ++ T.tf)) := Lib.hid (hf7.far (p := ⟨g, s0, none⟩) HDN.out.2.2 _).drew
        have HK8 : Hid (Kept (fun i => i = f ∨ i = g) w3 (w7.setCell ⟨g, s0, none⟩ (.int .i64 0)).drew) := Lib.hid (hk7.trans (b := w7) (own' := fun i => i = g) ⟨rfl, rfl, rfl, by simp [World.setCell], fun j _ hj => Below.heap_setCell _ _ _ j hj⟩ (fun i _ h => .inr h))
        clear hw7 hf7 hg7 hd7 hx7 hk7 hset e7 h7 h8 hf6 hg6 hd6 hx6 hk6 hBf hb6 hil2
        go_wp2_with fail
        go_region
        go_wp2
        go_roundw
        case rel => exact ⟨k + 1, by omega, by go_num, HF8.out, HG8.out, HK8.out⟩
        case measure => simp [intOf]; omega
    · obtain rfl : ws.length = k := by omega
      rw [List.take_length] at hb1 hb2
      obtain ⟨-, c1, -, -, z1, -, -⟩ := dhead_cells hd
      have HB1 := Lib.hid hb1
      have HB2 := Lib.hid hb2
      have HK1 := Lib.hid hk1
      have HD := Lib.hid hd
      have HDN := Lib.hid hdne
      clear hb1 hb2 hk1 hd hdne
      go_wp2
      go_ret
      refine ⟨rfl, ?_, ?_⟩
      · refine ⟨?_, ?_, ?_, ?_, ?_, ?_, ?_, ?_, ?_, ?_, ?_⟩
        · rw [app_length]; exact HD.out.set_ 1 _
        · exact HB1.out.far (p := ⟨d, 1, none⟩) (Ne.symm HDN.out.1) _
        · rw [← HR.out.zap H.out.len]; exact HB2.out.far (p := ⟨d, 1, none⟩) (Ne.symm HDN.out.2.1) _
        · exact World.ownsRow_nil _ _ _ _
        · exact ⟨H.out.far.1, H.out.far.2.1, H.out.far.2.2.1, HDN.out.1, HDN.out.2.1, HDN.out.2.2, fun a e => by cases e⟩
        · rw [List.length_replicate, app_length]
        · exact app_full ws H.out.fullW fl H.out.full
        · intro x hx; cases hx
        · intro q hq; rw [(List.mem_replicate.1 hq).2]; exact Nat.zero_le _
        · rw [app_length]; exact H.out.few
        · exact Nat.zero_le _
      · exact (HK1.out.mono (own' := ownOf d f g V) (fun i h => by rcases h with h | h; exact .inr (.inl h); exact .inr (.inr (.inl h)))).trans (kept_set wr d 1 none _) (fun i _ h => .inl h)
end
end Go.Proofs.Ytbaenpgjggojaaa
