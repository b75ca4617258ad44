/-
  The document's drum in memory, whole: where it lies, which blocks are its own. No condition.
  The document's New: a drum of noughts. Condition: not more sectors than a law makes.
-/
import Derived.Test.YthljcekodlbplaaDoorDPB
import Derived.Test.YthljcekodlbplaaDoorDPD
namespace Go.Proofs.YthljcekodlbplaaDoor
open Go.ChangeShapes Go.WideShapes Go.ChangeAt Go.RowKit

def ownD (x : Nat) (vF vD : Value) (i : Nat) : Prop := i = x ∨ vF.ownBlock = some i ∨ vD.ownBlock = some i
/-- What was there, and these. -/
def nw (B : Nat) (o : Nat → Prop) (i : Nat) : Prop := i < B ∨ o i
structure XD (w : World) (base x : Nat) (oo : Nat → Prop) (AF : Option Addr) (cF : Nat) (gs : List Seg) (AD : Option Addr) (cD : Nat) (ds : List (Int × Seg)) (left : Int) : Prop where
  head : Blk w x 53 #[.slice AF gs.length cF, .slice AD ds.length cD, .int .i64 left]
  rowF : OwnS segT 31 w base (.slice AF gs.length cF) gs.length gs
  rowD : OwnS deedT 59 w base (.slice AD ds.length cD) ds.length ds
  ge : base ≤ x
  segs : ∀ s ∈ gs, RdK oo w s.at_ s.l
  deeds : ∀ d ∈ ds, RdK oo w d.2.at_ d.2.l

section
variable {α : Type} {T : Lies α} {w w' : World} {base n x : Nat} {v : Value} {l : List α} {e t : TypeId} {own : Nat → Prop} {cs : Array Value}
theorem OwnS.kept (h : OwnS T e w base v n l) (hk : Kept own w w') (hn : ∀ i, v.ownBlock = some i → ¬ own i) : OwnS T e w' base v n l := by
  unfold OwnS at h ⊢
  refine ⟨h.1, ?_⟩
  rcases h.2 with h | ⟨g, cap, cur, rfl, h2, h3, h4⟩
  · exact Or.inl h
  · exact Or.inr ⟨g, cap, cur, rfl, h2, (hk.block g (Array.getElem?_eq_some_iff.1 h3).1 (hn g rfl)).trans h3, h4⟩
theorem OwnS.blk (h : OwnS T e w base v n l) (hb : Blk w x t cs) (hne : t ≠ e) : v.ownBlock ≠ some x := by
  unfold OwnS at h
  intro hv
  rcases h.2 with ⟨rfl, _⟩ | ⟨g, cap, cur, rfl, h2, h3, h4⟩
  · cases hv
  · injection hv with hv
    have hv : g = x := hv
    subst hv
    rw [show w.heap[g]? = _ from hb] at h3
    injection h3 with h3
    injection h3 with _ h3 _
    exact hne h3
end
section
variable {w w' : World} {base x : Nat} {oo : Nat → Prop} {AF AD : Option Addr} {cF cD : Nat} {gs : List Seg} {ds : List (Int × Seg)} {left : Int}
theorem XD.lt (h : XD w base x oo AF cF gs AD cD ds left) : ∀ i, ownD x (.slice AF gs.length cF) (.slice AD ds.length cD) i → i < w.heap.size := by
  rintro i (rfl | e | e)
  · exact h.head.lt
  · exact (h.rowF.lt _ e).2
  · exact (h.rowD.lt _ e).2
theorem XD.gee (h : XD w base x oo AF cF gs AD cD ds left) : ∀ i, ownD x (.slice AF gs.length cF) (.slice AD ds.length cD) i → base ≤ i := by
  rintro i (rfl | e | e)
  · exact h.ge
  · exact (h.rowF.lt _ e).1
  · exact (h.rowD.lt _ e).1
theorem XD.fx (h : XD w base x oo AF cF gs AD cD ds left) : (Value.slice AF gs.length cF).ownBlock ≠ some x := h.rowF.blk h.head (by decide)
theorem XD.dx (h : XD w base x oo AF cF gs AD cD ds left) : (Value.slice AD ds.length cD).ownBlock ≠ some x := h.rowD.blk h.head (by decide)
theorem XD.fd (h : XD w base x oo AF cF gs AD cD ds left) : ∀ i, (Value.slice AF gs.length cF).ownBlock = some i → (Value.slice AD ds.length cD).ownBlock ≠ some i := fun i e e' => by
  rcases h.rowF.apart h.rowD (by decide) with h0 | h0
  · rw [h0] at e; cases e
  · exact h0 (e.trans e'.symm)
theorem XD.kept {own oo' : Nat → Prop} (h : XD w base x oo AF cF gs AD cD ds left) (hk : Kept own w w') (hn : ∀ i, ownD x (.slice AF gs.length cF) (.slice AD ds.length cD) i → ¬ own i) (hoo : ∀ i, own i → oo i) (ho' : ∀ i, i < w.heap.size → oo' i → oo i) : XD w' base x oo' AF cF gs AD cD ds left where
  head := (hk.block x h.head.lt (hn x (.inl rfl))).trans h.head
  rowF := h.rowF.kept hk fun i e => hn i (.inr (.inl e))
  rowD := h.rowD.kept hk fun i e => hn i (.inr (.inr e))
  ge := h.ge
  segs := fun s hs => (h.segs s hs).kept (hk.mono hoo) ho'
  deeds := fun s hs => (h.deeds s hs).kept (hk.mono hoo) ho'
theorem XD.below (h : XD w base x oo AF cF gs AD cD ds left) (hb : Below w.heap.size w w') : XD w' base x oo AF cF gs AD cD ds left :=
  h.kept (own := fun _ => False) (Kept.of_below hb) (fun _ _ h => h) (fun _ h => h.elim) (fun _ _ h => h)
/-- What is written anew: the struct, and a row. -/
def ownX (x : Nat) (v : Value) (k : Nat) : Prop := k = x ∨ v.ownBlock = some k
theorem kept_app {W w2 : World} {v : Value} (hW : Below w.heap.size w W) (hg : W.grownBy w2 v.ownBlock) (c : Nat) (u : Value) : Kept (ownX x v) w (w2.setCell ⟨x, c, none⟩ u) :=
  ⟨hg.os.trans hW.os, hg.tape.trans hW.tape, hg.output.trans hW.output, by simpa [World.setCell] using Nat.le_trans hW.size hg.size, fun j hj hn => (Below.heap_setCell w2 ⟨x, c, none⟩ _ j (fun e => hn (.inl e))).trans ((hg.block j (Nat.lt_of_lt_of_le hj hW.size) (fun e => hn (.inr e.symm))).trans (hW.block j hj))⟩
/-- One more sector. -/
theorem XD.addF {W w2 : World} {B : Nat} {A2 : Option Addr} {c2 : Nat} {s : Seg} (h : XD w base x (nw B (ownD x (.slice AF gs.length cF) (.slice AD ds.length cD))) AF cF gs AD cD ds left) (hB : B ≤ w.heap.size) (hW : Below w.heap.size w W) (hs : Rd W W.heap.size s.at_ s.l) (hn : ∀ b q, s.at_ = some ⟨b, q, none⟩ → w.heap.size ≤ b)
    (ho : OwnS segT 31 w2 base (.slice A2 (gs.length + 1) c2) (gs.length + 1) (gs ++ [s])) (hg : W.grownBy w2 (Value.slice AF gs.length cF).ownBlock) (hl : (Value.slice A2 (gs.length + 1) c2).ownBlock = (Value.slice AF gs.length cF).ownBlock ∨ (Value.slice A2 (gs.length + 1) c2).ownBlock = some W.heap.size) :
    XD (w2.setCell ⟨x, 0, none⟩ (.slice A2 (gs.length + 1) c2)) base x (nw B (ownD x (.slice A2 (gs ++ [s]).length c2) (.slice AD ds.length cD))) A2 c2 (gs ++ [s]) AD cD ds left := by
  have hlen : (gs ++ [s]).length = gs.length + 1 := by simp
  have hk := kept_app (x := x) hW hg 0 (.slice A2 (gs.length + 1) c2)
  have hfx := h.fx
  have hxl := h.head.lt
  have hoo : ∀ i, i < w.heap.size → nw B (ownD x (.slice A2 (gs ++ [s]).length c2) (.slice AD ds.length cD)) i → nw B (ownD x (.slice AF gs.length cF) (.slice AD ds.length cD)) i := by
    rintro i hi (e | e | e | e)
    · exact .inl e
    · exact .inr (.inl e)
    · rw [hlen] at e
      rcases hl with h1 | h1
      · exact .inr (.inr (.inl (h1.symm.trans e)))
      · have := h1.symm.trans e
        injection this with this
        have := hW.size
        omega
    · exact .inr (.inr (.inr e))
  have hmo : ∀ i, ownX x (.slice AF gs.length cF) i → nw B (ownD x (.slice AF gs.length cF) (.slice AD ds.length cD)) i := by
    rintro i (e | e)
    · exact .inr (.inl e)
    · exact .inr (.inr (.inl e))
  have hx2 : Blk w2 x 53 #[.slice AF gs.length cF, .slice AD ds.length cD, .int .i64 left] := (hg.block x (Nat.lt_of_lt_of_le hxl hW.size) (fun e => hfx e.symm)).trans (h.head.below hW hxl)
  have hown2 : (Value.slice A2 (gs.length + 1) c2).ownBlock ≠ some x := by
    rcases hl with h1 | h1
    · rw [h1]; exact hfx
    · rw [h1]
      intro e
      injection e with e
      have := hW.size
      omega
  refine ⟨?_, ?_, h.rowD.kept hk ?_, h.ge, ?_, ?_⟩
  · rw [hlen]
    exact hx2.set_ 0 _
  · rw [hlen]
    exact ho.grown (grown_setCell (grown_refl w2 (some x)) (p := ⟨x, 0, none⟩) (.inl rfl) _) (.inl (fun e => hown2 e.symm))
  · rintro i e (e' | e')
    · subst e'
      exact h.dx e
    · exact h.fd i e' e
  · intro s' hs'
    rcases List.mem_append.1 hs' with h1 | h1
    · exact (h.segs s' h1).kept (hk.mono hmo) hoo
    · rw [List.mem_singleton.1 h1]
      intro h0
      obtain ⟨b, q, e, hb, hc⟩ := hs h0
      have hbn := hn b q e
      have hbx : b ≠ x := by omega
      have hbv : some b ≠ (Value.slice AF gs.length cF).ownBlock := fun e => by
        have := h.lt b (.inr (.inl e.symm))
        omega
      have hcell : ∀ j, (w2.setCell ⟨x, 0, none⟩ (.slice A2 (gs.length + 1) c2)).cell? ⟨b, j, none⟩ = W.cell? ⟨b, j, none⟩ := fun j =>
        (World.cell?_setCell_other w2 _ _ _ (fun e => by injection e with e _ _; exact hbx e.symm)).trans (World.cell?_of_block (hg.block b hb hbv))
      refine ⟨b, q, e, by simpa [World.setCell] using Nat.lt_of_lt_of_le hb hg.size, ?_, fun j u hu => (hcell _).trans (hc j u hu)⟩
      rintro (e1 | e1 | e1 | e1)
      · omega
      · exact hbx e1
      · rw [hlen] at e1
        rcases hl with h2 | h2
        · exact hbv (e1.symm.trans h2)
        · have := e1.symm.trans h2
          injection this with this
          omega
      · have := h.lt b (.inr (.inr e1))
        omega
  · intro d hd
    exact (h.deeds d hd).kept (hk.mono hmo) hoo
end
end Go.Proofs.YthljcekodlbplaaDoor
namespace Go.Proofs.YthljcekodlbplaaDoor
open Go.ChangeShapes Go.WideShapes Go.ChangeAt Go.RowKit

def NewX (n : Nat) (w : World) (e : Ending) (w' : World) : Prop :=
  ∃ x AF cF gs, e = .returned (.pointer (some ⟨x, 0, none⟩)) ∧ XD w' w.heap.size x (nw w.heap.size (ownD x (.slice AF gs.length cF) (.slice none 0 0))) AF cF gs none 0 [] (-1) ∧ gs.length = n ∧ (∀ s ∈ gs, s.l = zeros) ∧ Below w.heap.size w w'
theorem zlen : zeros.length = 256 := List.length_replicate ..
theorem rd_zero (w : World) : Rd (w.alloc (.cells (zeros.map enc8).toArray 5)) (w.heap.size + 1) (some ⟨w.heap.size, 0, none⟩) zeros := fun _ =>
  ⟨w.heap.size, 0, rfl, by omega, fun j u hu => by
    rw [(Blk.new w 5 (zeros.map enc8).toArray).cell, Nat.zero_add, List.getElem?_toArray, List.getElem?_map, hu]
    rfl⟩
set_option maxRecDepth 20000 in
set_option maxHeartbeats 2000000 in
theorem RNew_any (n : Nat) (hn : n ≤ 1000) (w : World) : Calls Tryd.prog 6 #[.int .i64 (n : Int)] w (NewX n w) := by
  have hmk := mkZ
  go_enter Tryd.func6, Tryd.ntmps6
  go_wp2_with fail
  go_loopw [4] (fun i wr => ∃ (k : Nat) (AF : Option Addr) (cF : Nat) (gs : List Seg), k ≤ n ∧ i = .int .i64 (k : Int) ∧ gs.length = k ∧ Hid (XD wr w.heap.size w.heap.size (nw w.heap.size (ownD w.heap.size (.slice AF gs.length cF) (.slice none 0 0))) AF cF gs none 0 [] (-1)) ∧ Hid (∀ s ∈ gs, s.l = zeros) ∧ Hid (Below w.heap.size w wr)) (fun i _ => n - (intOf i).toNat)
  case atStart =>
    refine ⟨0, none, 0, [], Nat.zero_le _, rfl, rfl, Lib.hid ⟨?_, ?_, ?_, Nat.le_refl _, (fun s hs => nomatch hs), (fun s hs => nomatch hs)⟩, Lib.hid (fun s hs => nomatch hs), Lib.hid ((Below.refl _ w).alloc (Nat.le_refl _) _)⟩
    · exact Blk.new w _ _
    · exact OwnS.nil_ _ _ _
    · exact OwnS.nil_ _ _ _
  case round =>
    obtain ⟨k, AF, cF, gs, hk, rfl, hgk, HX, HZ, HB⟩ := hrel
    by_cases hlt : k < n
    · have hh := HX.out.head
      have c0 := hh.cell 0
      have f0 := hh.frozen 0
      have l0 := hh.lt
      simp at c0
      rw [hgk] at c0
      have ho := HX.out.rowF
      rw [hgk] at ho
      have s1 : (wr.alloc (.cells (zeros.map enc8).toArray 5)).heap.size = wr.heap.size + 1 := by simp
      have HO2 := Lib.hid (((ho.alloc (.cells (zeros.map enc8).toArray 5)).alloc (.cells #[.slice (some ⟨wr.heap.size, 0, none⟩) 256 256] 31)))
      have hR := Rs.block (T := segT) (u := (⟨some ⟨wr.heap.size, 0, none⟩, 256, zeros⟩ : Seg)) (Blk.new (wr.alloc (.cells (zeros.map enc8).toArray 5)) 31 #[.slice (some ⟨wr.heap.size, 0, none⟩) zeros.length 256])
      rw [s1, zlen] at hR
      have HR := Lib.hid hR
      have HW2 := Lib.hid ((((Below.refl _ wr).alloc (Nat.le_refl _) (.cells (zeros.map enc8).toArray 5))).alloc (by rw [s1]; omega) (.cells #[.slice (some ⟨wr.heap.size, 0, none⟩) 256 256] 31))
      have HS := Lib.hid ((seg_rd (rd_zero wr) (by rw [s1]; exact Nat.le_refl _) (.cells #[.slice (some ⟨wr.heap.size, 0, none⟩) 256 256] 31)))
      have hbw : w.heap.size ≤ wr.heap.size := HB.out.size
      have HBS := Lib.hid hbw
      have hk9 : k ≤ 1000 := by omega
      have HXL := Lib.hid l0
      have HH2 := Lib.hid ((hh.alloc (.cells (zeros.map enc8).toArray 5)).alloc (.cells #[.slice (some ⟨wr.heap.size, 0, none⟩) 256 256] 31)).drew
      have HFX : Hid ((Value.slice AF k cF).ownBlock ≠ some w.heap.size) := Lib.hid (by have h := HX.out.fx; rwa [hgk] at h)
      have HGK := Lib.hid hgk
      clear hh ho hR hbw hgk
      go_wp2_with fail
      go_region_law ((refine step_appendS rfl rowSeg (.tmp 16) (.tmp 18) rfl w.heap.size (.slice AF k cF) k gs (by rfl) (World.ownsRow.drew HO2.out) _ (some ⟨wr.heap.size + 1, 0, none⟩) 1 1 [⟨some ⟨wr.heap.size, 0, none⟩, 256, zeros⟩] (by rfl) HR.out rfl (by unfold maxLen; omega) (by omega) (by have := HBS.out; simp; omega) ?_; intro v2 w2 hown hg hat _; have hk1 := HH2.out.grown hg (fun e => HFX.out e.symm); have d1 := hk1.cell 0; have e1 := hk1.frozen 0; simp at d1; obtain ⟨_, A2, c2, rfl, _, _, _⟩ := hown.form (by decide); have HO9 := Lib.hid hown; have HG9 := Lib.hid hg; have HT9 := Lib.hid hat; clear hown hg hat hk1))
      all_goals
        have hX := XD.addF (ds := []) (AD := none) (cD := 0) (s := ⟨some ⟨wr.heap.size, 0, none⟩, 256, zeros⟩) HX.out HBS.out HW2.out.drew (HS.out.more (by simp)) (fun b q e => by injection e with e; injection e with e _ _; omega) (by rw [HGK.out]; exact HO9.out) (by rw [HGK.out]; exact HG9.out) (by rw [HGK.out]; exact HT9.out)
        rw [HGK.out] at hX
        have HX3 := Lib.hid hX
        have HB3 : Hid (Below w.heap.size w (w2.setCell ⟨w.heap.size, 0, none⟩ (.slice A2 (k + 1) c2))) := Lib.hid (HB.out.trans ((kept_app (x := w.heap.size) HW2.out.drew HG9.out 0 (.slice A2 (k + 1) c2)).below HBS.out (fun i hi e => by
          rcases e with e | e
          · omega
          · have := (HX.out.lt i (.inr (.inl (by rw [HGK.out]; exact e))))
            have := (HX.out.gee i (.inr (.inl (by rw [HGK.out]; exact e))))
            omega)))
        have HL := Lib.hid (show (gs ++ [(⟨some ⟨wr.heap.size, 0, none⟩, 256, zeros⟩ : Seg)]).length = k + 1 by rw [List.length_append, HGK.out]; rfl)
        have HZ3 : Hid (∀ s ∈ gs ++ [(⟨some ⟨wr.heap.size, 0, none⟩, 256, zeros⟩ : Seg)], s.l = zeros) := Lib.hid (fun s hs => by
          rcases List.mem_append.1 hs with h | h
          · exact HZ.out s h
          · rw [List.mem_singleton.1 h])
        clear hX d1 e1 HO9 HG9 HT9 HX HB HZ HO2 HR HW2 HS HH2 HFX
        go_wp2_with fail
        go_roundw
        case rel => exact ⟨k + 1, A2, c2, _, by omega, by go_num, HL.out, HX3, HZ3, HB3⟩
        case measure => simp [intOf]; omega
    · obtain rfl : n = k := by omega
      go_wp2_with fail
      go_ret
      exact ⟨w.heap.size, AF, cF, gs, rfl, HX.out, hgk, HZ.out, HB.out⟩
end Go.Proofs.YthljcekodlbplaaDoor
