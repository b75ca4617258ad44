/-
  What the document's fall leans on. Conditions: the rows are there.
-/
import Derived.Test.YthljcekodlbplaaDoorDPO
namespace Go.Proofs.YthljcekodlbplaaDoor
open Go.ChangeShapes Go.WideShapes Go.ChangeAt Go.RowKit

theorem opC_rows2 {dst : Option Tmp} {x0 x1 : Operand} {ty : TypeId} {pos : String} {af : Array Edge} {a : Act} {w : World} {K : Value → World → Prop} {A0 A1 : Option Addr} {n0 n1 c0 c1 : Nat} (h0 : a.eval x0 = .slice A0 n0 c0) (h1 : a.eval x1 = .slice A1 n1 c1)
    (hk : K (.slice (some ⟨w.heap.size, 0, none⟩) 2 2) (w.alloc (.cells #[.slice A0 n0 c0, .slice A1 n1 c1] 31))) : opC Tryd.prog ⟨dst, .buildSlice 50 2 #[(0, x0), (1, x1)], ty, pos, af, none⟩ a w K := by
  obtain ⟨i0, hi, hz0, hz1, hz2⟩ := info_parts infoR
  have hrun : (Instr.buildSlice 50 2 #[(0, .slice A0 n0 c0), (1, .slice A1 n1 c1)]).run Tryd.prog w = .ok (.slice (some ⟨w.heap.size, 0, none⟩) 2 2) (w.alloc (.cells #[.slice A0 n0 c0, .slice A1 n1 c1] 31)) := by
    refine run_buildSlice w 50 31 2 _ #[.slice A0 n0 c0, .slice A1 n1 c1] i0 (.slice none 0 0) Tryd.underlying50 hi hz0 (by rw [hz1]; decide) (by rw [hz1]; decide) ?_
    rw [hz1]
    simp [Instr.fill, Value.cells]
    apply Array.toList_inj.1
    simp [List.range_succ]
  constructor
  rw [show (execOp a.eval ⟨dst, .buildSlice 50 2 #[(0, x0), (1, x1)], ty, pos, af, none⟩).run Tryd.prog w = .ok (.value (.slice (some ⟨w.heap.size, 0, none⟩) 2 2)) (w.alloc (.cells #[.slice A0 n0 c0, .slice A1 n1 c1] 31)) by
    simp [execOp, h0, h1, hrun, Result.andThen]]
  exact hk
def rows2F (v1 v2 : Value) : Flw := ⟨fun v W => ∃ q, v = .slice (some ⟨q, 0, none⟩) 2 2 ∧ Blk W q 31 #[v1, v2], fun ⟨q, h1, h2⟩ hb => ⟨q, h1, h2.below hb h2.lt⟩⟩
theorem joinNew {W W' : World} {s1 s2 : Seg} {v : Value} (hb : Below W.heap.size W W') (hr1 : Rd W W.heap.size s1.at_ s1.l) (hr2 : Rd W W.heap.size s2.at_ s2.l) (h1 : s1.l.length ≤ 1000) (h2 : s2.l.length ≤ 1000) (hv : (rows2F s1.val s2.val).p v W') :
    Calls Tryd.prog 23 #[v] W' (ToF (newF W.heap.size (s1.l ++ s2.l)) W') := by
  obtain ⟨q, rfl, hq⟩ := hv
  have hg : glue [s1, s2] = s1.l ++ s2.l := by simp [glue]
  have hs : Segs W' W'.heap.size q 0 [s1, s2] := fun j g hj => by
    rcases j with _ | _ | j
    · simp only [List.getElem?_cons_zero, Option.some.injEq] at hj
      subst hj
      exact ⟨by rw [hq.cell]; rfl, (hr1.below hb).more hb.size⟩
    · simp only [List.getElem?_cons_succ, List.getElem?_cons_zero, Option.some.injEq] at hj
      subst hj
      exact ⟨by rw [hq.cell]; rfl, (hr2.below hb).more hb.size⟩
    · simp at hj
  refine (Join_own q 0 2 W'.heap.size [s1, s2] 2 W' hs hq.lt (Nat.le_refl _) rfl (by decide) (by rw [hg, List.length_append]; omega)).mono ?_
  rintro e w2 ⟨v, rfl, ho, hbl⟩
  rw [hg] at ho
  obtain ⟨_, A, c, rfl, _, _, _⟩ := own_form ho
  refine ⟨_, rfl, ⟨⟨A, c, s1.l ++ s2.l⟩, rfl, rfl, Nat.le_trans hb.size hbl.size, ?_⟩, hbl⟩
  unfold OwnB at ho ⊢
  refine ⟨ho.1, ?_⟩
  rcases ho.2 with h | ⟨g, cap, cur, h1, h2, h3, h4⟩
  · exact Or.inl h
  · exact Or.inr ⟨g, cap, cur, h1, Nat.le_trans hb.size h2, h3, h4⟩
section
variable {w : World} {base x : Nat} {oo o0 : Nat → Prop} {AF AD : Option Addr} {cF cD : Nat} {gs : List Seg} {ds : List (Int × Seg)} {left : Int}
theorem XD.weaken {oo' : Nat → Prop} (h : XD w base x oo AF cF gs AD cD ds left) (ho : ∀ i, i < w.heap.size → oo' i → oo i) : XD w base x oo' AF cF gs AD cD ds left :=
  h.kept (own := fun _ => False) (Kept.refl _ _) (fun _ _ h => h) (fun _ h => h.elim) ho
theorem XD.putF {k : Nat} {s : Seg} {vD : Value} (h : XD w base x (fun i => o0 i ∨ ownD x (.slice AF gs.length cF) vD i) AF cF gs AD cD ds left) (hk : k < gs.length) (hs : RdK (fun i => o0 i ∨ ownD x (.slice AF gs.length cF) vD i) w s.at_ s.l) :
    ∃ g, AF = some ⟨g, 0, none⟩ ∧ base ≤ g ∧ g < w.heap.size ∧ w.cell? ⟨g, k, none⟩ = some (gs[k].val) ∧ w.frozen? ⟨g, k, none⟩ = false ∧ Kept (fun i => i = g) w (w.setCell ⟨g, k, none⟩ s.val) ∧
      XD (w.setCell ⟨g, k, none⟩ s.val) base x (fun i => o0 i ∨ ownD x (.slice AF (gs.set k s).length cF) vD i) AF cF (gs.set k s) AD cD ds left := by
  obtain ⟨g, rfl, hg, hbg, hc, hf, hset⟩ := own_setF h.rowF hk
  have hlen : (gs.set k s).length = gs.length := List.length_set
  have hxg : x ≠ g := fun e => h.fx (by subst e; rfl)
  have hdg : (Value.slice AD ds.length cD).ownBlock ≠ some g := h.fd g rfl
  have hkp : Kept (fun i => i = g) w (w.setCell ⟨g, k, none⟩ s.val) := ⟨rfl, rfl, rfl, by simp [World.setCell], fun j hj hn => Below.heap_setCell w ⟨g, k, none⟩ _ j hn⟩
  have hmo : ∀ i, i = g → (o0 i ∨ ownD x (.slice (some ⟨g, 0, none⟩) gs.length cF) vD i) := fun i e => by subst e; exact .inr (.inr (.inl rfl))
  refine ⟨g, rfl, hbg, hg, hc, hf, hkp, ?_, ?_, h.rowD.kept hkp (fun i e e' => by subst e'; exact hdg e), h.ge, ?_, ?_⟩
  · rw [hlen]
    exact (hkp.block x h.head.lt hxg).trans h.head
  · rw [hlen]
    exact hset s
  · intro s' hs'
    rw [hlen]
    rcases List.mem_or_eq_of_mem_set hs' with h1 | rfl
    · exact (h.segs s' h1).kept (hkp.mono hmo) (fun _ _ h => h)
    · exact hs.kept (hkp.mono hmo) (fun _ _ h => h)
  · intro d hd
    rw [hlen]
    exact (h.deeds d hd).kept (hkp.mono hmo) (fun _ _ h => h)
end
def lastI : Option Nat → Int
  | none => -1
  | some a => (a : Int)
theorem dn_at (ds : List (Int × Seg)) (k : Nat) (hk : k < (waS ds).length) : (dn (waR (dsl ds))).getD k (0, []) = ((waS ds)[k].1.toNat, (waS ds)[k].2.l) := by
  unfold dsl
  rw [← waS_map]
  unfold dn
  rw [List.getD_eq_getElem?_getD, List.getElem?_map, List.getElem?_map, List.getElem?_eq_getElem hk]
  rfl
theorem dn_len (ds : List (Int × Seg)) : (dn (waR (dsl ds))).length = (waS ds).length := by
  unfold dsl
  rw [← waS_map]
  unfold dn
  rw [List.length_map, List.length_map]
theorem load_int {w : World} {g p : Nat} {z : Int} (h : w.cell? ⟨g, p, none⟩ = some (.int .i64 z)) : (Instr.loadAt 3 (.pointer (some ⟨g, p, none⟩))).run Tryd.prog w = .ok (.int .i64 z) w := by go_simp
theorem load_rows {w : World} {g p n c : Nat} {A : Option Addr} (h : w.cell? ⟨g, p, none⟩ = some (.slice A n c)) : (Instr.loadAt 50 (.pointer (some ⟨g, p, none⟩))).run Tryd.prog w = .ok (.slice A n c) w := by go_simp
theorem Rd.past_k {w : World} {B b o : Nat} {l : List UInt8} (h : Rd w B (some ⟨b, o, none⟩) l) (k : Nat) : Rd w B (some ⟨b, o + k, none⟩) (l.drop k) := fun hn => by
  rw [List.length_drop] at hn
  obtain ⟨b', o', e, hb, hc⟩ := h (by omega)
  injection e with e
  injection e with e1 e2 _
  subst e1 e2
  refine ⟨b, o + k, rfl, hb, fun j u hu => ?_⟩
  rw [List.getElem?_drop] at hu
  have := hc (k + j) u hu
  rwa [← Nat.add_assoc] at this
theorem XD.base {w : World} {base base' x : Nat} {oo : Nat → Prop} {AF AD : Option Addr} {cF cD : Nat} {gs : List Seg} {ds : List (Int × Seg)} {left : Int} (h : XD w base x oo AF cF gs AD cD ds left) (hb : base' ≤ base) : XD w base' x oo AF cF gs AD cD ds left :=
  ⟨h.head, h.rowF.base hb, h.rowD.base hb, Nat.le_trans hb h.ge, h.segs, h.deeds⟩
end Go.Proofs.YthljcekodlbplaaDoor
