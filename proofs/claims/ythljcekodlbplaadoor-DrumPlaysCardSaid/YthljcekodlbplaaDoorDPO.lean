/-
  The document's drum: a sector is written over. No condition.
  The document's drum: sectors as they are flushed, copied. Conditions: the drum is there.
  The document's turned: what is there at its end. No condition.
-/
import Derived.Test.YthljcekodlbplaaDoorDPJ
import Derived.Test.YthljcekodlbplaaDoorRowsB
import Derived.Test.YthljcekodlbplaaDoorDPH
namespace Go.Proofs.YthljcekodlbplaaDoor
open Go.ChangeShapes Go.WideShapes Go.ChangeAt Go.RowKit

theorem flat_seg (gs : List Seg) : flatH segT gs = gs.map Seg.val := by
  induction gs with
  | nil => rfl
  | cons g gs ih =>
    show [g.val] ++ flatH segT gs = _
    rw [ih]
    rfl
theorem own_setF {w : World} {base n cF : Nat} {AF : Option Addr} {gs : List Seg} {e : TypeId} (h : OwnS segT e w base (.slice AF n cF) n gs) {k : Nat} (hk : k < gs.length) :
    ∃ g, AF = some ⟨g, 0, none⟩ ∧ g < w.heap.size ∧ base ≤ g ∧ w.cell? ⟨g, k, none⟩ = some (gs[k].val) ∧ w.frozen? ⟨g, k, none⟩ = false ∧ ∀ s : Seg, OwnS segT e (w.setCell ⟨g, k, none⟩ s.val) base (.slice AF n cF) n (gs.set k s) := by
  have hl : gs.length = n := h.length (by decide)
  unfold OwnS at h
  have h' := h
  rcases h'.2 with ⟨hv, rfl⟩ | ⟨g, cap, cur, hv, hb, hg, hnc, hcm, hsz, hcur⟩
  · omega
  · injection hv with h1 h2 h3
    subst h1 h3
    have hkb : Blk w g e cur := hg
    have hcs := World.ownsRow.cells h (g := g) rfl k (gs[k].val) (by rw [flat_seg, List.getElem?_map, List.getElem?_eq_getElem hk]; rfl)
    refine ⟨g, rfl, hkb.lt, hb, by simpa [go_sem] using hcs, hkb.frozen k, fun s => ⟨?_, .inr ⟨g, cF, cur.setIfInBounds k s.val, rfl, hb, hkb.set_ k s.val, hnc, hcm, by rw [Array.size_setIfInBounds]; exact hsz, ?_⟩⟩⟩
    · rw [flat_seg, List.length_map, List.length_set, hl]
      show n = n * 1
      omega
    · rw [Array.toList_setIfInBounds, List.take_set, hcur, flat_seg, flat_seg, List.map_set]
section
variable {w w' : World} {base x : Nat} {oo : Nat → Prop} {AF AD : Option Addr} {cF cD : Nat} {gs : List Seg} {ds : List (Int × Seg)} {left : Int}
theorem XD.setF {W : World} {B k : Nat} {s : Seg} (h : XD w base x (nw B (ownD x (.slice AF gs.length cF) (.slice AD ds.length cD))) AF cF gs AD cD ds left) (hB : B ≤ w.heap.size) (hk : k < gs.length) (hW : Below w.heap.size w W) (hs : Rd W W.heap.size s.at_ s.l) (hn : ∀ b q, s.at_ = some ⟨b, q, none⟩ → w.heap.size ≤ b) :
    ∃ g, AF = some ⟨g, 0, none⟩ ∧ base ≤ g ∧ W.cell? ⟨g, k, none⟩ = some (gs[k].val) ∧ W.frozen? ⟨g, k, none⟩ = false ∧ Kept (fun i => i = g) w (W.setCell ⟨g, k, none⟩ s.val) ∧ (∃ i, ownD x (.slice AF gs.length cF) (.slice AD ds.length cD) i ∧ i = g) ∧
      XD (W.setCell ⟨g, k, none⟩ s.val) base x (nw B (ownD x (.slice AF (gs.set k s).length cF) (.slice AD ds.length cD))) AF cF (gs.set k s) AD cD ds left := by
  have hb := h.below hW
  obtain ⟨g, rfl, hg, hbg, hc, hf, hset⟩ := own_setF hb.rowF hk
  have hgw : g < w.heap.size := h.lt g (.inr (.inl rfl))
  have hlen : (gs.set k s).length = gs.length := List.length_set
  have hxg : x ≠ g := fun e => hb.fx (by subst e; rfl)
  have hdg : (Value.slice AD ds.length cD).ownBlock ≠ some g := hb.fd g rfl
  have hkp : Kept (fun i => i = g) W (W.setCell ⟨g, k, none⟩ s.val) := ⟨rfl, rfl, rfl, by simp [World.setCell], fun j hj hn => Below.heap_setCell W ⟨g, k, none⟩ _ j hn⟩
  refine ⟨g, rfl, hbg, hc, hf, (Kept.of_below hW).trans hkp (fun _ _ h => h), ⟨g, .inr (.inl rfl), rfl⟩, ?_, ?_, hb.rowD.kept hkp (fun i e e' => by subst e'; exact hdg e), h.ge, ?_, ?_⟩
  · rw [hlen]
    exact (hkp.block x hb.head.lt hxg).trans hb.head
  · rw [hlen]
    exact hset s
  · intro s' hs'
    have hmo : ∀ i, i = g → nw B (ownD x (.slice (some ⟨g, 0, none⟩) gs.length cF) (.slice AD ds.length cD)) i := fun i e => by subst e; exact .inr (.inr (.inl rfl))
    rw [hlen]
    rcases List.mem_or_eq_of_mem_set hs' with h1 | rfl
    · exact (hb.segs s' h1).kept (hkp.mono hmo) (fun _ _ h => h)
    · intro h0
      obtain ⟨b, q, e, hbb, hcc⟩ := hs h0
      have hbn := hn b q e
      refine ⟨b, q, e, by simpa [World.setCell] using hbb, ?_, fun j u hu => (World.cell?_setCell_other W _ _ _ (fun e => by injection e with e _ _; omega)).trans (hcc j u hu)⟩
      rintro (e1 | e1)
      · omega
      · have := h.lt b e1
        omega
  · intro d hd
    have hmo : ∀ i, i = g → nw B (ownD x (.slice (some ⟨g, 0, none⟩) gs.length cF) (.slice AD ds.length cD)) i := fun i e => by subst e; exact .inr (.inr (.inl rfl))
    rw [hlen]
    exact (hb.deeds d hd).kept (hkp.mono hmo) (fun _ _ h => h)
end
end Go.Proofs.YthljcekodlbplaaDoor
namespace Go.Proofs.YthljcekodlbplaaDoor
open Go.ChangeShapes Go.WideShapes Go.ChangeAt Go.RowKit

def noSeg : Seg := ⟨none, 0, []⟩
/-- A sector as it is flushed. -/
def sfS (gs : List Seg) (ds : List (Int × Seg)) (k : Nat) : Seg := rdS k (gs.getD k noSeg) (ds.take (ds.length - (waS ds).length))
theorem rdS_in (i : Nat) (p : Seg → Prop) : ∀ (ds : List (Int × Seg)) (s : Seg), p s → (∀ d ∈ ds, 0 ≤ d.1 → p d.2) → p (rdS i s ds) := by
  intro ds
  induction ds with
  | nil => intro s h _; exact h
  | cons d ds ih =>
    intro s h h2
    show p (rdS i (if d.1 = (i : Int) then d.2 else s) ds)
    refine ih _ ?_ (fun d' hd => h2 d' (List.mem_cons_of_mem _ hd))
    split
    · exact h2 d (List.mem_cons_self ..) (by omega)
    · exact h
theorem getD_mem {α : Type} (l : List α) (k : Nat) (d : α) (h : k < l.length) : l.getD k d ∈ l := by
  rw [List.getD_eq_getElem?_getD, List.getElem?_eq_getElem h]
  exact List.getElem_mem h
theorem sfS_in {p : Seg → Prop} {gs : List Seg} {ds : List (Int × Seg)} {k : Nat} (h1 : ∀ s ∈ gs, p s) (h2 : ∀ d ∈ ds, 0 ≤ d.1 → p d.2) (hk : k < gs.length) : p (sfS gs ds k) :=
  rdS_in k p _ _ (h1 _ (getD_mem _ _ _ hk)) (fun d hd => h2 d (List.mem_of_mem_take hd))
theorem sfS_l (gs : List Seg) (ds : List (Int × Seg)) (k : Nat) : (sfS gs ds k).l = sfR (gs.map Seg.l) (ds.map fun d => (d.1, d.2.l)) k := by
  unfold sfS sfR rdR
  rw [rdS_l, List.map_take, List.length_map, ← waS_map, List.length_map]
  congr 1
  rw [List.getD_eq_getElem?_getD, List.getD_eq_getElem?_getD, List.getElem?_map]
  cases gs[k]? <;> rfl
section
variable {w w' : World} {base x : Nat} {oo : Nat → Prop} {AF AD : Option Addr} {cF cD : Nat} {gs : List Seg} {ds : List (Int × Seg)} {left : Int}
theorem XD.rsF (h : XD w base x oo AF cF gs AD cD ds left) : Rs segT w w.heap.size AF gs ∧ gs.length ≤ cF := by
  obtain ⟨_, A, c, e, h1, _, h2⟩ := h.rowF.form (by decide)
  injection e with e1 _ e3
  subst e1 e3
  exact ⟨h2, h1⟩
theorem XD.rsD (h : XD w base x oo AF cF gs AD cD ds left) : Rs deedT w w.heap.size AD ds ∧ ds.length ≤ cD := by
  obtain ⟨_, A, c, e, h1, _, h2⟩ := h.rowD.form (by decide)
  injection e with e1 _ e3
  subst e1 e3
  exact ⟨h2, h1⟩
theorem safe_x (h : XD w base x oo AF cF gs AD cD ds left) (k : Nat) (hk : k < gs.length) (hg : gs.length ≤ 100000) (hd : ds.length ≤ 100000) :
    Calls Tryd.prog 21 #[.pointer (some ⟨x, 0, none⟩), .int .i64 (k : Int)] w fun e w' => e = .returned (sfS gs ds k).val ∧ Below w.heap.size w w' := by
  have := RSafe_any k gs ds h.head h.rsF.1 rfl h.rsD.1 rfl h.rsD.2 hk hg hd
  rw [show sfS gs ds k = rdS k gs[k] (ds.take (ds.length - (waS ds).length)) by
    unfold sfS
    rw [List.getD_eq_getElem?_getD, List.getElem?_eq_getElem hk]
    rfl]
  exact this
end
/-- A row of bytes of one's own. -/
def newF (B : Nat) (l : List UInt8) : Flw := ⟨fun v W => ∃ s : Seg, v = s.val ∧ s.l = l ∧ B ≤ W.heap.size ∧ OwnB W B s.val s.l.length s.l, fun ⟨s, h1, h2, h3, h4⟩ hb => ⟨s, h1, h2, Nat.le_trans h3 hb.size, by
  unfold OwnB at h4 ⊢
  refine ⟨h4.1, ?_⟩
  rcases h4.2 with h | ⟨g, cap, cur, h1, h2, h3, h4⟩
  · exact Or.inl h
  · exact Or.inr ⟨g, cap, cur, h1, h2, (hb.block g (Array.getElem?_eq_some_iff.1 h3).1).trans h3, h4⟩⟩⟩
theorem own_seg {W : World} {B : Nat} {s : Seg} (h : OwnB W B s.val s.l.length s.l) : Rd W W.heap.size s.at_ s.l ∧ ∀ b q, s.at_ = some ⟨b, q, none⟩ → B ≤ b := by
  obtain ⟨_, A, c, e, _, _, h2⟩ := own_form h
  unfold Seg.val at e
  injection e with e1 _ e3
  rw [e1]
  refine ⟨h2, fun b q e => ?_⟩
  have h4 := World.ownsRow.lt h b (by unfold Seg.val Value.ownBlock; rw [e1, e])
  exact h4.1
theorem cutNew {W W' : World} {sg : Seg} (hb : Below W.heap.size W W') (hl : sg.l.length = 256) (hr : Rd W' W'.heap.size sg.at_ sg.l) :
    Calls Tryd.prog 7 #[sg.val, .int .i64 256] W' (ToF (newF W.heap.size sg.l) W') := by
  refine (CutW_any sg.at_ sg.l.length sg.cap W'.heap.size 256 sg.l W' hr rfl (by omega) (by omega) (Nat.le_refl _)).mono ?_
  rintro e w2 ⟨v, rfl, ho, hbl⟩
  rw [List.take_of_length_le (by omega)] at ho
  obtain ⟨_, A, c, rfl, _, _, _⟩ := own_form ho
  refine ⟨_, rfl, ⟨⟨A, c, sg.l⟩, rfl, rfl, Nat.le_trans hb.size hbl.size, ?_⟩, hbl⟩
  unfold OwnB at ho ⊢
  refine ⟨ho.1, ?_⟩
  rcases ho.2 with h | ⟨g, cap, cur, h1, h2, h3, h4⟩
  · exact Or.inl h
  · exact Or.inr ⟨g, cap, cur, h1, Nat.le_trans hb.size h2, h3, h4⟩
/-- So many of the sectors are copied, each into bytes of its own. -/
structure Copied (w : World) (B : Nat) (gs : List Seg) (ds : List (Int × Seg)) (g2 : List Seg) (k : Nat) : Prop where
  val : ∀ j, j < k → (g2.getD j noSeg).l = (sfS gs ds j).l
  own : ∀ j, j < k → OwnB w B (g2.getD j noSeg).val (g2.getD j noSeg).l.length (g2.getD j noSeg).l
  far : ∀ i j, i < k → j < k → i ≠ j → ∀ b, (g2.getD i noSeg).val.ownBlock = some b → (g2.getD j noSeg).val.ownBlock ≠ some b
theorem Copied.zero (w : World) (B : Nat) (gs : List Seg) (ds : List (Int × Seg)) (g2 : List Seg) : Copied w B gs ds g2 0 := ⟨fun j h => absurd h (by omega), fun j h => absurd h (by omega), fun i j h => absurd h (by omega)⟩
theorem getD_setS (l : List Seg) (k : Nat) (s d : Seg) (j : Nat) (hk : k < l.length) : (l.set k s).getD j d = if j = k then s else l.getD j d := by
  rw [List.getD_eq_getElem?_getD, List.getD_eq_getElem?_getD]
  by_cases h : j = k
  · subst h
    rw [if_pos rfl, List.getElem?_set_self hk]
    rfl
  · rw [if_neg h, List.getElem?_set_ne (fun e => h e.symm)]
theorem OwnB.keptB {own : Nat → Prop} {w w' : World} {B n : Nat} {v : Value} {l : List UInt8} (h : OwnB w B v n l) (hk : Kept own w w') (hn : ∀ i, v.ownBlock = some i → ¬ own i) : OwnB w' B v n l := by
  unfold OwnB at h ⊢
  refine ⟨h.1, ?_⟩
  rcases h.2 with h | ⟨g, cap, cur, rfl, h2, h3, h4⟩
  · exact Or.inl h
  · exact Or.inr ⟨g, cap, cur, rfl, h2, (hk.block g (Array.getElem?_eq_some_iff.1 h3).1 (hn g rfl)).trans h3, h4⟩
theorem own_apartB {w : World} {B n q : Nat} {v : Value} {l : List UInt8} {t : TypeId} {cs : Array Value} (ho : OwnB w B v n l) (hb : Blk w q t cs) (ht : t ≠ 5) : v.ownBlock ≠ some q := by
  intro e
  unfold OwnB at ho
  rcases ho.2 with ⟨rfl, _⟩ | ⟨g, cap, cur, rfl, _, h3, _⟩
  · cases e
  · injection e with e
    have e : g = q := e
    subst e
    rw [show w.heap[g]? = _ from hb] at h3
    injection h3 with h3
    injection h3 with _ h3 _
    exact ht h3
theorem Copied.kept {own : Nat → Prop} {w w' : World} {B k : Nat} {gs g2 : List Seg} {ds : List (Int × Seg)} (h : Copied w B gs ds g2 k) (hk : Kept own w w') (hn : ∀ i, own i → ∃ t cs, Blk w i t cs ∧ t ≠ 5) : Copied w' B gs ds g2 k where
  val := h.val
  own := fun j hj => (h.own j hj).keptB hk fun i e ho => by
    obtain ⟨t, cs, hb, ht⟩ := hn i ho
    exact own_apartB (h.own j hj) hb ht e
  far := h.far
theorem Copied.next {w W w' : World} {B k g : Nat} {gs g2 : List Seg} {ds : List (Int × Seg)} {s : Seg} (h : Copied w B gs ds g2 k) (hW : Below w.heap.size w W) (hk : k < g2.length) (hl : s.l = (sfS gs ds k).l) (hB : B ≤ w.heap.size) (hs : OwnB W w.heap.size s.val s.l.length s.l) (hkp : Kept (fun i => i = g) W w') (hg : ∃ cs, Blk W g 31 cs) : Copied w' B gs ds (g2.set k s) (k + 1) := by
  obtain ⟨cs, hg⟩ := hg
  have hne : (31 : TypeId) ≠ 5 := by decide
  have h1 := (h.kept (Kept.of_below (own := fun _ => False) hW) (fun i e => e.elim)).kept hkp (fun i e => ⟨_, cs, by rw [e]; exact hg, hne⟩)
  have hsw : OwnB w' B s.val s.l.length s.l := by
    have h2 := hs.keptB hkp (fun i e e' => by subst e'; exact own_apartB hs hg hne e)
    unfold OwnB at h2 ⊢
    refine ⟨h2.1, ?_⟩
    rcases h2.2 with h | ⟨g, cap, cur, h1, h2, h3⟩
    · exact Or.inl h
    · exact Or.inr ⟨g, cap, cur, h1, Nat.le_trans hB h2, h3⟩
  have hold : ∀ j, j < k → ∀ b, (g2.getD j noSeg).val.ownBlock = some b → b < w.heap.size := fun j hj b e => (World.ownsRow.lt (h.own j hj) b e).2
  have hnew : ∀ b, s.val.ownBlock = some b → w.heap.size ≤ b := fun b e => (World.ownsRow.lt hs b e).1
  refine ⟨fun j hj => ?_, fun j hj => ?_, fun i j hi hj hij b => ?_⟩
  · rw [getD_setS _ _ _ _ _ hk]
    by_cases e : j = k
    · rw [if_pos e, e]; exact hl
    · rw [if_neg e]; exact h1.val j (by omega)
  · rw [getD_setS _ _ _ _ _ hk]
    by_cases e : j = k
    · rw [if_pos e]; exact hsw
    · rw [if_neg e]; exact h1.own j (by omega)
  · rw [getD_setS _ _ _ _ _ hk, getD_setS _ _ _ _ _ hk]
    by_cases e1 : i = k
    · rw [if_pos e1, if_neg (by omega)]
      intro e e'
      have := hold j (by omega) b e'
      have := hnew b e
      omega
    · rw [if_neg e1]
      by_cases e2 : j = k
      · rw [if_pos e2]
        intro e e'
        have := hold i (by omega) b e
        have := hnew b e'
        omega
      · rw [if_neg e2]
        exact h1.far i j (by omega) (by omega) hij b
theorem own_setB {w : World} {B n : Nat} {v : Value} {l : List UInt8} (h : OwnB w B v n l) {j : Nat} (hj : j < l.length) :
    ∃ g c, v = .slice (some ⟨g, 0, none⟩) l.length c ∧ B ≤ g ∧ g < w.heap.size ∧ w.cell? ⟨g, j, none⟩ = some (.int .u8 (l[j].toNat : Int)) ∧ w.frozen? ⟨g, j, none⟩ = false ∧ ∀ u : UInt8, OwnB (w.setCell ⟨g, j, none⟩ (.int .u8 (u.toNat : Int))) B v n (l.set j u) := by
  have hl : l.length = n := by have := h.1; simpa using this
  have h' := h
  unfold OwnB at h'
  rcases h'.2 with ⟨rfl, rfl⟩ | ⟨g, cap, cur, rfl, hb, hg, hnc, hcm, hsz, hcur⟩
  · omega
  · have hk : Blk w g 5 cur := hg
    have hc := World.ownsRow.cells h' (g := g) rfl j (enc8 l[j]) (by rw [List.getElem?_map, List.getElem?_eq_getElem hj]; rfl)
    refine ⟨g, cap, by rw [hl], hb, hk.lt, by simpa [go_sem, enc8] using hc, hk.frozen j, fun u => ?_⟩
    unfold OwnB
    refine ⟨by rw [List.map_set, List.length_set]; exact h'.1, .inr ⟨g, cap, cur.setIfInBounds j (.int .u8 (u.toNat : Int)), rfl, hb, hk.set_ j _, hnc, hcm, by rw [Array.size_setIfInBounds]; exact hsz, ?_⟩⟩
    rw [Array.toList_setIfInBounds, List.take_set, hcur, List.map_set]
    rfl
theorem own_blkF {w : World} {base n cF g : Nat} {gs : List Seg} (h : OwnS segT 31 w base (.slice (some ⟨g, 0, none⟩) n cF) n gs) : ∃ cs, Blk w g 31 cs := by
  unfold OwnS at h
  rcases h.2 with ⟨h, _⟩ | ⟨g', cap, cur, h, _, h3, _⟩
  · injection h with h; cases h
  · injection h with h _ _
    injection h with h
    injection h with h _ _
    subst h
    exact ⟨cur, h3⟩
def tabC : Array Value := #[.int .u8 1, .int .u8 2, .int .u8 4, .int .u8 8, .int .u8 16, .int .u8 32, .int .u8 64, .int .u8 128]
theorem opC_tab {dst : Option Tmp} {ty : TypeId} {pos : String} {af : Array Edge} {gd : Option (Nat × Bool)} {a : Act} {w : World} {K : Value → World → Prop}
    (hk : K (.slice (some ⟨w.heap.size, 0, none⟩) 8 8) (w.alloc (.cells tabC 5))) : opC Tryd.prog ⟨dst, .buildSlice 31 8 #[(0, .const (.int .u8 1)), (1, .const (.int .u8 2)), (2, .const (.int .u8 4)), (3, .const (.int .u8 8)), (4, .const (.int .u8 16)), (5, .const (.int .u8 32)), (6, .const (.int .u8 64)), (7, .const (.int .u8 128))], ty, pos, af, gd⟩ a w K := by
  constructor
  go_simp
  exact hk
def tabF : Flw := ⟨fun v w => ∃ g, v = .slice (some ⟨g, 0, none⟩) 8 8 ∧ Blk w g 5 tabC, fun ⟨g, h1, h2⟩ hb => ⟨g, h1, h2.below hb h2.lt⟩⟩
def tabP (j : Nat) : Flw := ⟨fun v w => ∃ g, v = .pointer (some ⟨g, j, none⟩) ∧ Blk w g 5 tabC, fun ⟨g, h1, h2⟩ hb => ⟨g, h1, h2.below hb h2.lt⟩⟩
theorem tab_cell {w : World} {g j : Nat} (h : Blk w g 5 tabC) (hj : j < 8) : w.cell? ⟨g, j, none⟩ = some (.int .u8 ((2 ^ j : Nat) : Int)) := by
  rw [h.cell]
  rcases j with _ | _ | _ | _ | _ | _ | _ | _ | j
  all_goals first | rfl | omega
theorem tdiv_bit (kk k : Nat) : ((kk : Int) / 2 ^ k).tmod 2 = ((kk / 2 ^ k % 2 : Nat) : Int) := by
  have e : ((2 : Int) ^ k) = ((2 ^ k : Nat) : Int) := by push_cast; rfl
  rw [e]
  have e2 : ((kk : Int) / ((2 ^ k : Nat) : Int)) = ((kk / 2 ^ k : Nat) : Int) := rfl
  rw [e2]
  generalize kk / 2 ^ k = m
  rw [Int.tmod_eq_emod_of_nonneg (by omega)]
  omega
theorem load_slice {w : World} {g p n c : Nat} {A : Option Addr} (h : w.cell? ⟨g, p, none⟩ = some (.slice A n c)) : (Instr.loadAt 31 (.pointer (some ⟨g, p, none⟩))).run Tryd.prog w = .ok (.slice A n c) w := by go_simp
theorem copied_len {w : World} {B : Nat} {gs g2 : List Seg} {ds : List (Int × Seg)} (h : Copied w B gs ds g2 gs.length) (hL : g2.length = gs.length) (h1 : ∀ s ∈ gs, s.l.length = 256) (h2 : ∀ d ∈ ds, 0 ≤ d.1 → d.2.l.length = 256) : ∀ s ∈ g2, s.l.length = 256 ∧ 256 ≤ s.cap := by
  intro s hs
  obtain ⟨j, hj, hjs⟩ := List.getElem_of_mem hs
  have hg : g2.getD j noSeg = s := by rw [List.getD_eq_getElem?_getD, List.getElem?_eq_getElem hj, ← hjs]; rfl
  have e1 := h.val j (by omega)
  have e2 := h.own j (by omega)
  rw [hg] at e1 e2
  have e3 : s.l.length = 256 := by
    rw [e1]
    exact sfS_in (p := fun s => s.l.length = 256) h1 h2 (by omega)
  obtain ⟨_, A, c, e, h3, _⟩ := own_form e2
  unfold Seg.val at e
  injection e with _ _ e
  exact ⟨e3, by omega⟩
end Go.Proofs.YthljcekodlbplaaDoor
namespace Go.Proofs.YthljcekodlbplaaDoor
open Go.ChangeShapes Go.WideShapes Go.ChangeAt Go.RowKit

section
variable {α : Type} {T : Lies α} {w w' : World} {n : Nat} {v : Value} {l : List α} {e : TypeId}
theorem OwnS.base {b b' : Nat} (h : OwnS T e w b v n l) (hb : b' ≤ b) : OwnS T e w b' v n l := by
  unfold OwnS at h ⊢
  refine ⟨h.1, ?_⟩
  rcases h.2 with h | ⟨g, cap, cur, h1, h2, h3⟩
  · exact Or.inl h
  · exact Or.inr ⟨g, cap, cur, h1, Nat.le_trans hb h2, h3⟩
end
theorem own_same {w : World} {base n : Nat} {v : Value} {gs : List Seg} {e : TypeId} {p : Nat} {s : Seg} (h : OwnS segT e w base v n gs) (hp : p < gs.length) (hv : s.val = (gs.getD p noSeg).val) : OwnS segT e w base v n (gs.set p s) := by
  unfold OwnS at h ⊢
  have e : flatH segT (gs.set p s) = flatH segT gs := by
    rw [flat_seg, flat_seg, List.map_set, hv]
    have : (gs.getD p noSeg).val = (gs.map Seg.val)[p]'(by rw [List.length_map]; exact hp) := by
      rw [List.getElem_map, List.getD_eq_getElem?_getD, List.getElem?_eq_getElem hp]
      rfl
    rw [this]
    exact List.set_getElem_self _
  rw [e]
  exact h
theorem waS_sub (ds : List (Int × Seg)) : ∀ d ∈ waS ds, d ∈ ds := by
  induction ds using snocI with
  | h0 => intro d h; exact h
  | h1 ds x ih =>
    intro d hd
    have e := waS_take (ds ++ [x]) ds.length (by simp)
    rw [List.take_of_length_le (by simp), List.take_left] at e
    rw [e] at hd
    simp only [List.getElem_append_right (Nat.le_refl _), Nat.sub_self, List.getElem_cons_zero] at hd
    split at hd
    · cases hd
    · rcases List.mem_append.1 hd with h | h
      · exact List.mem_append_left _ (ih d h)
      · exact List.mem_append_right _ h
theorem XD.turned {w w1 w4 wr : World} {base x x2 g g5 c5 p B0 : Nat} {oo : Nat → Prop} {AF AD AW : Option Addr} {cF cD cF2 cW : Nat} {gs g2 : List Seg} {ds : List (Int × Seg)} {left : Int} {l5 : List UInt8}
    (hX : XD w base x oo AF cF gs AD cD ds left) (hown : ∀ i, ownD x (.slice AF gs.length cF) (.slice AD ds.length cD) i → oo i) (hoo : ∀ i, oo i → i < w.heap.size) (hb1 : Below w.heap.size w w1)
    (hwo : OwnS deedT 59 w1 B0 (.slice AW (waS ds).length cW) (waS ds).length (waS ds)) (hB0 : w.heap.size ≤ B0) (hb : Below w1.heap.size w1 w4)
    (hN : XD w4 w1.heap.size x2 (nw w1.heap.size (ownD x2 (.slice (some ⟨g, 0, none⟩) g2.length cF2) (.slice none 0 0))) (some ⟨g, 0, none⟩) cF2 g2 none 0 [] (-1))
    (hC : Copied w4 w1.heap.size gs ds g2 gs.length) (hL : g2.length = gs.length) (hp : p < gs.length) (hv5 : (g2.getD p noSeg).val = .slice (some ⟨g5, 0, none⟩) 256 c5) (hl5 : l5.length = 256)
    (hO : OwnB wr w1.heap.size (.slice (some ⟨g5, 0, none⟩) 256 c5) 256 l5) (hK : Kept (fun i => i = g5) w4 wr) :
    XD ((wr.setCell ⟨x, 0, none⟩ (.slice (some ⟨g, 0, none⟩) gs.length cF2)).setCell ⟨x, 1, none⟩ (.slice AW (waS ds).length cW)) base x (fun i => oo i ∨ ownD x (.slice (some ⟨g, 0, none⟩) (g2.set p ⟨some ⟨g5, 0, none⟩, c5, l5⟩).length cF2) (.slice AW (waS ds).length cW) i) (some ⟨g, 0, none⟩) cF2 (g2.set p ⟨some ⟨g5, 0, none⟩, c5, l5⟩) AW cW (waS ds) left ∧
    Kept (fun i => i = x) w ((wr.setCell ⟨x, 0, none⟩ (.slice (some ⟨g, 0, none⟩) gs.length cF2)).setCell ⟨x, 1, none⟩ (.slice AW (waS ds).length cW)) := by
  have hxl := hX.head.lt
  have hz1 := hb1.size
  have hz4 := hb.size
  have hg := hN.gee g (.inr (.inl rfl))
  have hg5 := (World.ownsRow.lt hO g5 rfl).1
  have hlen : (g2.set p (⟨some ⟨g5, 0, none⟩, c5, l5⟩ : Seg)).length = gs.length := by rw [List.length_set]; exact hL
  have hp2 : p < g2.length := by omega
  obtain ⟨csg, hgb⟩ := own_blkF hN.rowF
  have hgb' : Blk wr g 31 csg := (hK.block g hgb.lt (fun e => own_apartB (hC.own p hp) hgb (by decide) (by rw [hv5, ← e]; rfl))).trans hgb
  have hgg5 : g ≠ g5 := fun e => own_apartB hO hgb' (by decide) (by rw [e]; rfl)
  obtain ⟨w6, hw6⟩ : ∃ w6, (wr.setCell ⟨x, 0, none⟩ (.slice (some ⟨g, 0, none⟩) gs.length cF2)).setCell ⟨x, 1, none⟩ (.slice AW (waS ds).length cW) = w6 := ⟨_, rfl⟩
  have hK6 : Kept (fun i => i = x) wr w6 := by
    rw [← hw6]
    exact ⟨rfl, rfl, rfl, by simp [World.setCell], fun j hj hn => (Below.heap_setCell _ ⟨x, 1, none⟩ _ j hn).trans (Below.heap_setCell wr ⟨x, 0, none⟩ _ j hn)⟩
  have hbw4 : Below w.heap.size w w4 := hb1.trans (hb.mono hz1)
  have hKr : Kept (fun _ => False) w wr := (Kept.of_below hbw4).trans hK (fun i hi e => by omega)
  have hKw : Kept (fun i => i = x) w w6 := (hKr.mono (own' := fun i => i = x) (fun _ h => h.elim)).trans hK6 (fun _ _ h => h)
  rw [hw6]
  refine ⟨⟨?_, ?_, ?_, hX.ge, ?_, ?_⟩, hKw⟩
  · have h0 : Blk wr x 53 _ := (hKr.block x hxl (fun h => h)).trans hX.head
    have h1 := (h0.set_ 0 (.slice (some ⟨g, 0, none⟩) gs.length cF2)).set_ 1 (.slice AW (waS ds).length cW)
    rw [hw6] at h1
    rw [hlen]
    exact h1
  · rw [hlen]
    have h1 := ((hN.rowF.kept hK (fun i e e' => by injection e with e; exact hgg5 (e.trans e'))).kept hK6 (fun i e e' => by injection e with e; have e : g = i := e; omega)).base (b' := base) (Nat.le_trans (Nat.le_trans hX.ge (Nat.le_of_lt hxl)) hz1)
    rw [hL] at h1
    refine own_same h1 hp2 ?_
    rw [hv5]
    show Value.slice _ l5.length _ = _
    rw [hl5]
  · exact (((hwo.kept (Kept.of_below (own := fun _ => False) hb) (fun _ _ h => h)).kept hK (fun i e e' => by have := (hwo.lt i e).2; omega)).kept hK6 (fun i e e' => by have := (hwo.lt i e).1; omega)).base (Nat.le_trans (Nat.le_trans hX.ge (Nat.le_of_lt hxl)) hB0)
  · intro s hs
    have hAW : ∀ i, (Value.slice AW (waS ds).length cW).ownBlock = some i → i < w1.heap.size := fun i e => (hwo.lt i e).2
    rw [hlen]
    have hnot : ∀ b, w1.heap.size ≤ b → b ≠ g → ¬ (oo b ∨ ownD x (.slice (some ⟨g, 0, none⟩) gs.length cF2) (.slice AW (waS ds).length cW) b) := by
      rintro b hb9 hbg (e | e | e | e)
      · have := hoo b e; omega
      · omega
      · injection e with e; exact hbg e.symm
      · have := hAW b e; omega
    obtain ⟨j, hj, hjs⟩ := List.getElem_of_mem hs
    rw [List.length_set] at hj
    rw [List.getElem_set] at hjs
    split at hjs
    · subst hjs
      intro _
      have h1 := (own_form hO).2
      have hr : Rd wr wr.heap.size (some ⟨g5, 0, none⟩) l5 := by
        obtain ⟨A, c, e, _, _, h2⟩ := h1
        injection e with e _ _
        rw [e]
        exact h2
      obtain ⟨b, q, e, hbb, hc⟩ := hr (by rw [hl5]; decide)
      injection e with e
      injection e with e1 e2 _
      subst e1 e2
      refine ⟨g5, 0, rfl, Nat.lt_of_lt_of_le hbb hK6.size, hnot g5 hg5 (Ne.symm hgg5), fun j u hu => (World.cell?_of_block (hK6.block g5 hbb (by omega))).trans (hc j u hu)⟩
    · rename_i hpj
      have hjl : s ∈ g2 := by rw [← hjs]; exact List.getElem_mem hj
      have hgj : g2.getD j noSeg = s := by rw [List.getD_eq_getElem?_getD, List.getElem?_eq_getElem hj, ← hjs]; rfl
      intro h0
      obtain ⟨b, q, e, hbb, hno, hc⟩ := hN.segs s hjl h0
      have hb1' : w1.heap.size ≤ b := by
        rcases Nat.lt_or_ge b w1.heap.size with h | h
        · exact absurd (.inl h) hno
        · exact h
      have hbg : b ≠ g := fun e => hno (.inr (.inr (.inl (by rw [e]; rfl))))
      have hb5 : b ≠ g5 := fun e' => hC.far j p (by omega) hp (by omega) b (by rw [hgj]; unfold Seg.val Value.ownBlock; rw [e]) (by rw [hv5, e']; rfl)
      have hbr : b < wr.heap.size := Nat.lt_of_lt_of_le hbb hK.size
      exact ⟨b, q, e, Nat.lt_of_lt_of_le hbr hK6.size, hnot b hb1' hbg, fun j u hu => ((World.cell?_of_block (hK6.block b hbr (by omega))).trans (World.cell?_of_block (hK.block b hbb hb5))).trans (hc j u hu)⟩
  · intro d hd
    rw [hlen]
    refine (hX.deeds d (waS_sub ds d hd)).kept (hKw.mono fun i e => hown i (.inl e)) ?_
    rintro i hi (e | e | e | e)
    · exact e
    · exact hown i (.inl e)
    · injection e with e
      have e : g = i := e
      omega
    · have := (hwo.lt i e).1; omega
def dsl (ds : List (Int × Seg)) : List (Int × List UInt8) := ds.map fun d => (d.1, d.2.l)
theorem copied_map {w : World} {B : Nat} {gs g2 : List Seg} {ds : List (Int × Seg)} (h : Copied w B gs ds g2 gs.length) (hL : g2.length = gs.length) : g2.map Seg.l = sfA (gs.map Seg.l) (dsl ds) := by
  unfold sfA dsl
  rw [List.length_map]
  apply List.ext_getElem
  · rw [List.length_map, List.length_map, List.length_range, hL]
  · intro j h1 h2
    rw [List.length_map] at h1
    rw [List.getElem_map, List.getElem_map, List.getElem_range, ← sfS_l, ← h.val j (by omega), List.getD_eq_getElem?_getD, List.getElem?_eq_getElem h1]
    rfl
/-- What turned leaves. -/
def TurnX (w : World) (base x : Nat) (oo : Nat → Prop) (gs : List Seg) (ds : List (Int × Seg)) (left : Int) (p N kk : Nat) (e : Ending) (w' : World) : Prop :=
  ∃ AF' cF' gs' AD' cD', e = .returned (.tuple #[]) ∧ XD w' base x (fun i => oo i ∨ ownD x (.slice AF' gs'.length cF') (.slice AD' (waS ds).length cD') i) AF' cF' gs' AD' cD' (waS ds) left ∧ gs'.map Seg.l = (sfA (gs.map Seg.l) (dsl ds)).set p (turnK ((sfA (gs.map Seg.l) (dsl ds)).getD p []) N kk (min 32 (2048 - N))) ∧ Kept (fun i => i = x) w w' ∧ ∀ i, i < w.heap.size → ownD x (.slice AF' gs'.length cF') (.slice AD' (waS ds).length cD') i → i = x
/-- One more deed. -/
theorem XD.addD {w W w2 : World} {base x : Nat} {oo : Nat → Prop} {AF AD A2 : Option Addr} {cF cD c2 : Nat} {gs : List Seg} {ds : List (Int × Seg)} {left p : Int} {s : Seg} (h : XD w base x oo AF cF gs AD cD ds left) (hown : ∀ i, ownD x (.slice AF gs.length cF) (.slice AD ds.length cD) i → oo i) (hoo : ∀ i, oo i → i < w.heap.size) (hW : Below w.heap.size w W) (hs : Rd W W.heap.size s.at_ s.l) (hn : ∀ b q, s.at_ = some ⟨b, q, none⟩ → w.heap.size ≤ b)
    (ho : OwnS deedT 59 w2 base (.slice A2 (ds.length + 1) c2) (ds.length + 1) (ds ++ [(p, s)])) (hg : W.grownBy w2 (Value.slice AD ds.length cD).ownBlock) (hl : (Value.slice A2 (ds.length + 1) c2).ownBlock = (Value.slice AD ds.length cD).ownBlock ∨ (Value.slice A2 (ds.length + 1) c2).ownBlock = some W.heap.size) :
    XD (w2.setCell ⟨x, 1, none⟩ (.slice A2 (ds.length + 1) c2)) base x (fun i => oo i ∨ ownD x (.slice AF gs.length cF) (.slice A2 (ds ++ [(p, s)]).length c2) i) AF cF gs A2 c2 (ds ++ [(p, s)]) left ∧ Kept (ownD x (.slice AF gs.length cF) (.slice AD ds.length cD)) w (w2.setCell ⟨x, 1, none⟩ (.slice A2 (ds.length + 1) c2)) ∧ ∀ i, i < w.heap.size → ownD x (.slice AF gs.length cF) (.slice A2 (ds ++ [(p, s)]).length c2) i → ownD x (.slice AF gs.length cF) (.slice AD ds.length cD) i := by
  have hlen : (ds ++ [(p, s)]).length = ds.length + 1 := by simp
  have hk := kept_app (x := x) hW hg 1 (.slice A2 (ds.length + 1) c2)
  have hxl := h.head.lt
  have hmo : ∀ i, ownX x (.slice AD ds.length cD) i → oo i := by
    rintro i (e | e)
    · exact hown i (.inl e)
    · exact hown i (.inr (.inr e))
  have hold : ∀ i, i < w.heap.size → ownD x (.slice AF gs.length cF) (.slice A2 (ds ++ [(p, s)]).length c2) i → ownD x (.slice AF gs.length cF) (.slice AD ds.length cD) i := by
    rintro i hi (e | e | e)
    · exact .inl e
    · exact .inr (.inl e)
    · rw [hlen] at e
      rcases hl with h1 | h1
      · exact .inr (.inr (h1.symm.trans e))
      · have := h1.symm.trans e
        injection this with this
        have := hW.size
        omega
  have hoo' : ∀ i, i < w.heap.size → (oo i ∨ ownD x (.slice AF gs.length cF) (.slice A2 (ds ++ [(p, s)]).length c2) i) → oo i := by
    rintro i hi (e | e)
    · exact e
    · exact hown i (hold i hi e)
  have hx2 : Blk w2 x 53 #[.slice AF gs.length cF, .slice AD ds.length cD, .int .i64 left] := (hg.block x (Nat.lt_of_lt_of_le hxl hW.size) (fun e => h.dx e.symm)).trans (h.head.below hW hxl)
  have hown2 : (Value.slice A2 (ds.length + 1) c2).ownBlock ≠ some x := by
    rcases hl with h1 | h1
    · rw [h1]; exact h.dx
    · rw [h1]
      intro e
      injection e with e
      have := hW.size
      omega
  refine ⟨⟨?_, h.rowF.kept hk ?_, ?_, h.ge, fun s' hs' => (h.segs s' hs').kept (hk.mono hmo) hoo', ?_⟩, hk.mono (fun i e => by rcases e with e | e; exact .inl e; exact .inr (.inr e)), hold⟩
  · rw [hlen]
    exact hx2.set_ 1 _
  · rintro i e (e' | e')
    · subst e'
      exact h.fx e
    · exact h.fd i e e'
  · rw [hlen]
    exact ho.grown (grown_setCell (grown_refl w2 (some x)) (p := ⟨x, 1, none⟩) (.inl rfl) _) (.inl (fun e => hown2 e.symm))
  · intro d hd
    rcases List.mem_append.1 hd with h1 | h1
    · exact (h.deeds d h1).kept (hk.mono hmo) hoo'
    · rw [List.mem_singleton.1 h1]
      intro h0
      obtain ⟨b, q, e, hb, hc⟩ := hs h0
      have hbn := hn b q e
      have hbx : b ≠ x := by omega
      have hbv : some b ≠ (Value.slice AD ds.length cD).ownBlock := fun e => by
        have := h.lt b (.inr (.inr e.symm))
        omega
      have hcell : ∀ j, (w2.setCell ⟨x, 1, none⟩ (.slice A2 (ds.length + 1) c2)).cell? ⟨b, j, none⟩ = W.cell? ⟨b, j, none⟩ := fun j =>
        (World.cell?_setCell_other w2 _ _ _ (fun e => by injection e with e _ _; exact hbx e.symm)).trans (World.cell?_of_block (hg.block b hb hbv))
      refine ⟨b, q, e, by simpa [World.setCell] using Nat.lt_of_lt_of_le hb hg.size, ?_, fun j u hu => (hcell _).trans (hc j u hu)⟩
      rintro (e1 | e1 | e1 | e1)
      · have := hoo b e1; omega
      · exact hbx e1
      · have := h.lt b (.inr (.inl e1))
        omega
      · rw [hlen] at e1
        rcases hl with h2 | h2
        · exact hbv (e1.symm.trans h2)
        · have := e1.symm.trans h2
          injection this with this
          omega
theorem XD.left {w : World} {base x : Nat} {oo : Nat → Prop} {AF AD : Option Addr} {cF cD : Nat} {gs : List Seg} {ds : List (Int × Seg)} {left : Int} (h : XD w base x oo AF cF gs AD cD ds left) (l' : Int) (hown : ∀ i, ownD x (.slice AF gs.length cF) (.slice AD ds.length cD) i → oo i) : XD (w.setCell ⟨x, 2, none⟩ (.int .i64 l')) base x oo AF cF gs AD cD ds l' ∧ Kept (fun i => i = x) w (w.setCell ⟨x, 2, none⟩ (.int .i64 l')) := by
  have hk : Kept (fun i => i = x) w (w.setCell ⟨x, 2, none⟩ (.int .i64 l')) := ⟨rfl, rfl, rfl, by simp [World.setCell], fun j hj hn => Below.heap_setCell w ⟨x, 2, none⟩ _ j hn⟩
  refine ⟨⟨h.head.set_ 2 (.int .i64 l'), h.rowF.kept hk (fun i e e' => by subst e'; exact h.fx e), h.rowD.kept hk (fun i e e' => by subst e'; exact h.dx e), h.ge, fun s hs => (h.segs s hs).kept (hk.mono (fun i e => hown i (.inl e))) (fun _ _ h => h), fun s hs => (h.deeds s hs).kept (hk.mono (fun i e => hown i (.inl e))) (fun _ _ h => h)⟩, hk⟩
/-- One goes well, and one less is left. -/
theorem off_ok {w : World} {base x : Nat} {oo : Nat → Prop} {AF AD : Option Addr} {cF cD : Nat} {gs : List Seg} {ds : List (Int × Seg)} {left : Int} (h : XD w base x oo AF cF gs AD cD ds left) (hown : ∀ i, ownD x (.slice AF gs.length cF) (.slice AD ds.length cD) i → oo i) (hl : left ≠ 0) (hm : left ≤ 9223372036854775807) :
    Calls Tryd.prog 20 #[.pointer (some ⟨x, 0, none⟩)] w fun e w' => e = .returned (.bool false) ∧ XD w' base x oo AF cF gs AD cD ds (less left) ∧ Kept (fun i => i = x) w w' := by
  by_cases h0 : left < 0
  · refine (off_neg h0 h.head).mono fun e w' ⟨h1, h2⟩ => ⟨h1, ?_, ?_⟩
    · rw [h2, show less left = left by unfold less; rw [if_pos h0]]
      exact h
    · rw [h2]
      exact Kept.refl _ _
  · refine (off_pos (by omega) hm h.head).mono fun e w' ⟨h1, h2⟩ => ⟨h1, ?_⟩
    rw [h2, show less left = left - 1 by unfold less; rw [if_neg h0]]
    exact h.left _ hown
end Go.Proofs.YthljcekodlbplaaDoor
