/-
The document's example of a reel. No condition.
Lists of records: what Records tells, a literal of one; a reel whose drum another one wrote. No condition of its own.
Lists of records that a law gathers beside a reel. No condition.
-/
import Derived.Laws.BytesArg
import Derived.Lib.SlBytesConst
import Derived.Test.YtbaenpgjggojaaaRlSgZ9
import Derived.Test.YtbaenpgjggojaaaRlSmZ9
namespace Go.Proofs.Ytbaenpgjggojaaa
open Go.ChangeShapes Go.WideShapes Go.RowKit

theorem strOf_bytes (l : List UInt8) : strOfNums (l.map fun x => (x.toNat : Int)) = ⟨l.toArray⟩ := by
  unfold strOfNums
  rw [List.map_map]
  congr 2
  conv => rhs; rw [← List.map_id l]
  apply List.map_congr_left
  intro x _
  simp
theorem conv_rd {w : World} {B : Nat} {A : Option Addr} {l : List UInt8} {n c : Nat} (h : Rd w B A l) (hn : l.length = n) (h0 : 0 < n) : (convert 35 9 (.slice A n c)).run Try.prog w = .ok (.string ⟨l.toArray⟩) w := by
  obtain ⟨g, o, rfl, _, hc⟩ := h (by omega)
  have := run_convert_bytes_arg (P := Try.prog) w 35 5 Try.underlying35 Try.underlying5 g o n c (l.map fun x => (x.toNat : Int)) (by rw [List.length_map]; exact hn)
    (fun i hi => by
      have hil : i < l.length := by omega
      rw [hc i _ (List.getElem?_eq_getElem hil)]
      simp [List.getD, hil]) 9 Try.underlying9
  rw [strOf_bytes] at this
  exact this
/-- A literal's bytes. -/
theorem rdq_lit (w : World) (l : List UInt8) (t : TypeId) (mk : Nat × Nat) : RdQ (w.alloc (.cells (l.map enc8).toArray t mk)) (fun i => i = w.heap.size) (some ⟨w.heap.size, 0, none⟩) l := fun _ =>
  ⟨w.heap.size, 0, rfl, by simp, rfl, fun j u hu => by
    have h := heap_alloc_new w (.cells (l.map enc8).toArray t mk)
    rw [cell_of_row _ w.heap.size (0 + j) (l.map enc8).toArray t mk h, Nat.zero_add, List.getElem?_toArray, List.getElem?_map, hu]
    rfl⟩
theorem good_flushed {fl : List (List UInt8)} {g : Nat} {Ls : List (List UInt8)} {W : World} {base d : Nat} {o : Nat → Prop} {ws : List (Nat × List UInt8)} {left : Int} (hd : Dr W base d o fl ws left) (hG : Good fl [] g Ls) :
    Calls Try.prog 25 #[.pointer (some ⟨d, 0, none⟩), .slice none 0 0, .int .i64 (-1)] W fun e W' => ∃ d' o', e = .returned (.pointer (some ⟨d', 0, none⟩)) ∧ Dr W' W.heap.size d' o' fl [] (-1) ∧ Good fl [] g Ls ∧ Below W.heap.size W W' := by
  have c := Fall_dr hd (A := none) (n := 0) 0 0 [] (fun hn => absurd hn (by simp)) (Nat.zero_le _) rfl (by decide) (-1)
  rw [fallOf_nil] at c
  refine c.mono ?_
  rintro e W' ⟨d', o', rfl, h1, h2⟩
  exact ⟨d', o', rfl, h1, hG, h2⟩
set_option maxRecDepth 20000 in
set_option maxHeartbeats 4000000 in
theorem awake15 (w : World) : Calls Try.prog 6 #[] w fun e w' => e = .returned (.bool true) ∧ Below w.heap.size w w' := by
  have c1 := New_dr 12 (by decide) (by decide) w
  have kc := fun (w : World) (C : Array Value) (n c : Nat) => Lib.run_convert_bytes_const (P := Try.prog) w 35 5 C n c Try.underlying35 Try.underlying5
  go_enter Try.func6, Try.ntmps6
  go_wp2_with fail
  refine c1.mono ?_
  rintro e w1 ⟨d, o1, rfl, hd1, hb1⟩
  clear c1
  have hq2 := rdq_lit w1 [102] 5 (1, 2)
  have hb2 : Below w1.heap.size w1 (w1.alloc (.cells #[.int .u8 102] 5 (1, 2))) := (Below.refl _ _).alloc (Nat.le_refl _) _
  go_wp2_with fail
  obtain ⟨w2, hw2⟩ : ∃ W, w1.alloc (.cells #[.int .u8 102] 5 (1, 2)) = W := ⟨_, rfl⟩
  have hq2 : RdQ w2 (fun i => i = w1.heap.size) (some ⟨w1.heap.size, 0, none⟩) [102] := by rw [← hw2]; exact hq2
  rw [hw2] at hb2 ⊢
  have cM := make_sg (base := w.heap.size) (o := o1) (b := [102]) (m := 1) (q := 1) (hd1.below hb2) (Nat.le_trans hb1.size hb2.size) (by decide) (by decide) (by decide) hq2 (fun i hi h => by have := hd1.lt i h; omega) rfl (by decide) (by decide) (by decide +kernel)
  have hge := hd1.ge
  have HB := Lib.hid (And.intro (hb1.trans (hb2.mono hb1.size)) hge)
  clear hw2 hq2 hb2 hd1 hb1 hge
  refine cM.mono ?_
  rintro e w3 ⟨r, own3, fl3, rfl, hr, hl3, sg3, ks3⟩
  rw [List.length_replicate] at hl3
  have hb3 : Below w.heap.size w w3 := kept_below ks3.1 HB.out.1 HB.out.1.size HB.out.2
  have HL := Lib.hid hl3
  have HB3 := Lib.hid (And.intro hb3 (And.intro sg3 hr))
  clear cM hr hl3 sg3 ks3 hb3
  have hq4 := rdq_lit w3 [97] 5 (1, 2)
  have hb4 : Below w3.heap.size w3 (w3.alloc (.cells #[.int .u8 97] 5 (1, 2))) := (Below.refl _ _).alloc (Nat.le_refl _) _
  go_wp2_with fail
  obtain ⟨w4, hw4⟩ : ∃ W, w3.alloc (.cells #[.int .u8 97] 5 (1, 2)) = W := ⟨_, rfl⟩
  have hq4 : RdQ w4 (fun i => i = w3.heap.size) (some ⟨w3.heap.size, 0, none⟩) [97] := by rw [← hw4]; exact hq4
  rw [hw4] at hb4 ⊢
  have cA := (HB3.out.2.1.below hb4).append (by decide) (by decide) hq4 (fun i hi h => by have := HB3.out.2.1.rl.lt i h; omega) (m := 1) (q := 1) rfl (by decide) (by decide) (by rw [HL.out]; decide +kernel)
  have HB4 := Lib.hid hb4
  clear hw4 hq4 hb4
  refine cA.mono ?_
  rintro e w5 ⟨rfl, own5, sg5, ks5⟩
  have HB5 := Lib.hid (And.intro sg5 ks5)
  have cF := sg5.flush
  clear cA sg5 ks5
  go_wp2_with fail
  refine cF.mono ?_
  rintro e w6 ⟨rfl, own6, sg6, ks6⟩
  have HB6 := Lib.hid (And.intro sg6 ks6)
  clear cF sg6 ks6
  have hq7 := rdq_lit w6 [98] 5 (1, 2)
  have hb7 : Below w6.heap.size w6 (w6.alloc (.cells #[.int .u8 98] 5 (1, 2))) := (Below.refl _ _).alloc (Nat.le_refl _) _
  go_wp2_with fail
  obtain ⟨w7, hw7⟩ : ∃ W, w6.alloc (.cells #[.int .u8 98] 5 (1, 2)) = W := ⟨_, rfl⟩
  have hq7 : RdQ w7 (fun i => i = w6.heap.size) (some ⟨w6.heap.size, 0, none⟩) [98] := by rw [← hw7]; exact hq7
  rw [hw7] at hb7 ⊢
  have hl6 : ∀ (ws9 : List (Nat × List UInt8)), (app fl3 ws9).length = 12 := fun ws9 => by rw [app_length]; exact HL.out
  have cA := (HB6.out.1.below hb7).append (by decide) (by simp) hq7 (fun i hi h => by have := HB6.out.1.rl.lt i h; omega) (m := 1) (q := 1) rfl (by decide) (by decide) (by rw [hl6]; decide +kernel)
  have HB7 := Lib.hid hb7
  clear hw7 hq7 hb7
  refine cA.mono ?_
  rintro e w8 ⟨rfl, own8, sg8, ks8⟩
  clear cA
  obtain ⟨o8, hd8, -⟩ := sg8.dr
  have cL := good_flushed hd8 HB6.out.1.good
  have HB8 := Lib.hid (And.intro sg8 ks8)
  clear sg8 ks8 hd8
  go_wp2_with fail
  refine cL.mono ?_
  rintro e w9 ⟨d9, o9, rfl, hd9, hG9, hb9⟩
  have cO := open_sg hd9 hb9.size hG9 (by rw [hl6]; decide) (by decide) (by decide)
  have hge9 := hd9.ge
  have HB9 := Lib.hid (And.intro hb9 hge9)
  clear cL hd9 hG9 hb9 hge9
  go_wp2_with fail
  refine cO.mono ?_
  rintro e wA ⟨rA, ownA, flA, wsA, rfl, hrA, hlA, hwA, sgA, ksA⟩
  have hbA : Below w8.heap.size w8 wA := kept_below ksA.1 HB9.out.1 HB9.out.1.size HB9.out.2
  have cC := sgA.count
  have cR := sgA.records
  have HBA := Lib.hid hbA
  clear cO hrA hlA hwA sgA ksA hbA
  go_wp2_with fail
  refine cC.mono ?_
  rintro e wB ⟨rfl, rfl⟩
  clear cC
  go_wp2_with fail
  refine cR.mono ?_
  rintro e wC ⟨qR, vs, rfl, hqR, ⟨hbR, hvl, hvs⟩, hbC⟩
  obtain ⟨v1, hv1⟩ : ∃ v, vs[1]? = some v := ⟨_, List.getElem?_eq_getElem (by rw [hvl]; decide)⟩
  obtain ⟨ho1, -⟩ := hvs 1 v1 [97] hv1 rfl
  obtain ⟨-, A1, k1, rfl, -, -, hrd⟩ := own_form ho1
  have hcv := conv_rd (c := k1) hrd rfl (by decide)
  have hce : wC.cell? ⟨qR, 1, none⟩ = some (.slice A1 1 k1) := by rw [hbR.cell 1, List.getElem?_toArray]; exact hv1
  have HC := Lib.hid hbC
  clear cR hqR hbR hvl hvs hbC hv1 ho1 hrd
  simp only [List.length_cons, List.length_nil, List.length_append] at hcv ⊢
  have hbF : Below w.heap.size w wC := by
    have g3 := HB3.out.2.1.rl.ge HB3.out.2.1.far
    have g5 := HB5.out.1.rl.ge HB5.out.1.far
    have g6 := HB6.out.1.rl.ge HB6.out.1.far
    have b3 := HB3.out.1
    have b4 := b3.trans (HB4.out.mono b3.size)
    have b5 := kept_below HB5.out.2.1 b4 b4.size g3
    have b6 := kept_below HB6.out.2.1 b5 b5.size g5
    have b7 := b6.trans (HB7.out.mono b6.size)
    have b8 := kept_below HB8.out.2.1 b7 b7.size g6
    have b9 := b8.trans (HBA.out.mono b8.size)
    exact b9.trans (HC.out.mono b9.size)
  have HBF := Lib.hid hbF
  clear hbF
  go_wp2_with fail
  go_ret
  exact ⟨rfl, HBF.out⟩
end Go.Proofs.Ytbaenpgjggojaaa
namespace Go.Proofs.Ytbaenpgjggojaaa
open Go.ChangeShapes Go.WideShapes Go.RowKit

theorem rows_of (P : Rw → Prop) : ∀ (vs : List Value) (Ls : List (List UInt8)), vs.length = Ls.length → (∀ (i : Nat) v b, vs[i]? = some v → Ls[i]? = some b → ∃ r : Rw, r.val = v ∧ r.l = b ∧ P r) → ∃ rs : List Rw, rs.map Rw.val = vs ∧ lsOf rs = Ls ∧ ∀ r ∈ rs, P r
  | [], [], _, _ => ⟨[], rfl, rfl, fun _ h => nomatch h⟩
  | [], _ :: _, h, _ => nomatch h
  | _ :: _, [], h, _ => nomatch h
  | v :: vs, b :: Ls, hl, h => by
    obtain ⟨r, h1, h2, h3⟩ := h 0 v b rfl rfl
    obtain ⟨rs, k1, k2, k3⟩ := rows_of P vs Ls (by simpa using hl) (fun i v' b' hv hb => h (i + 1) v' b' hv hb)
    refine ⟨r :: rs, by rw [List.map_cons, h1, k1], by unfold lsOf at k2 ⊢; rw [List.map_cons, h2, k2], fun x hx => ?_⟩
    rcases List.mem_cons.1 hx with e | e
    · rw [e]; exact h3
    · exact k3 x e
theorem rw_own {W : World} {B : Nat} {v : Value} {b : List UInt8} (h : OwnB W B v b.length b) : ∃ r : Rw, r.val = v ∧ r.l = b ∧ (r.l.length ≤ r.c ∧ r.c ≤ maxLen ∧ Rd W W.heap.size r.A r.l) := by
  obtain ⟨-, A, c, rfl, h1, h2, h3⟩ := own_form h
  exact ⟨⟨A, c, b⟩, rfl, rfl, h1, h2, h3⟩
theorem recs_lst {W : World} {B q : Nat} {Ls : List (List UInt8)} {vs : List Value} (h : Recs B q Ls vs W) (hL : Ls.length ≤ 1000) : ∃ rs, Lst W (some ⟨q, 0, none⟩) Ls.length Ls.length rs ∧ lsOf rs = Ls := by
  obtain ⟨h1, h2, h3⟩ := h
  obtain ⟨rs, k1, k2, k3⟩ := rows_of (fun r => r.l.length ≤ r.c ∧ r.c ≤ maxLen ∧ Rd W W.heap.size r.A r.l) vs Ls h2 (fun i v b hv hb => rw_own (h3 i v b hv hb).1)
  refine ⟨rs, ⟨?_, Nat.le_refl _, by unfold maxLen; omega, fun h0 => ⟨q, 0, rfl, h1.lt, fun j u hu => ?_⟩, k3⟩, k2⟩
  · rw [← h2, ← k1, List.length_map]
  · rw [h1.cell, Nat.zero_add, List.getElem?_toArray, ← k1]
    exact hu
theorem lst_one (W : World) (A : Option Addr) (c : Nat) (l : List UInt8) (hc : l.length ≤ c) (hm : c ≤ maxLen) (hR : Rd W W.heap.size A l) : Lst (W.alloc (.cells #[.slice A l.length c] 35)) (some ⟨W.heap.size, 0, none⟩) 1 1 [⟨A, c, l⟩] := by
  have hb : Below W.heap.size W (W.alloc (.cells #[.slice A l.length c] 35)) := (Below.refl _ _).alloc (Nat.le_refl _) _
  refine ⟨rfl, Nat.le_refl _, by decide, fun _ => ⟨W.heap.size, 0, rfl, by simp, fun j u hu => ?_⟩, fun r hr => ?_⟩
  · rw [(Blk.new W 35 #[.slice A l.length c]).cell, Nat.zero_add, List.getElem?_toArray]
    exact hu
  · rw [List.mem_singleton.1 hr]
    exact ⟨hc, hm, (hR.below hb).more hb.size⟩
section
variable {W W' : World} {base d r g : Nat} {own : Nat → Prop} {fl : List (List UInt8)} {ws : List (Nat × List UInt8)} {Ls : List (List UInt8)}
/-- A reel's records lie off its drum's blocks. -/
theorem Sg.others (h : Sg W base d r g own fl ws Ls) : ∃ o, Dr W base d o fl ws (-1) ∧ (∀ i, o i → own i) ∧ ∀ W', Kept o W W' → Calls Try.prog 10 #[.pointer (some ⟨r, 0, none⟩)] W' (RecsPost W' Ls) := by
  obtain ⟨o, R, c, vals, hd, hh, hoff, rfl⟩ := h.rl
  refine ⟨o, hd, fun i h => .inl h, fun W' hk => ?_⟩
  have hh' := hh.keepO hk hoff
  exact Records_any hh' hh'.1.lt h.cnt fun b hb => by have := h.good.2.2.2.2.2.2.2.1 b hb; omega
end
theorem pages_small (n : Nat) (h : n ≤ 246) : pagesN n = 1 := by unfold pagesN; omega
theorem lsOf_one (A : Option Addr) (c : Nat) (l : List UInt8) : lsOf [⟨A, c, l⟩] = [l] := rfl
end Go.Proofs.Ytbaenpgjggojaaa
namespace Go.Proofs.Ytbaenpgjggojaaa
open Go.ChangeShapes Go.WideShapes Go.RowKit

/-- A list of records in a row of its own, off a reel's blocks. -/
def Gath (B : Nat) (own : Nat → Prop) (A : Option Addr) (c : Nat) (vals : List Value) (Ls : List (List UInt8)) (W : World) : Prop :=
  OwnR W B (.slice A Ls.length c) Ls.length vals ∧ vals.length = Ls.length ∧ (∀ q, (Value.slice A Ls.length c).ownBlock = some q → ¬ own q) ∧
    ∀ (i : Nat) v b, vals[i]? = some v → Ls[i]? = some b → OwnB W B v b.length b ∧ ∀ q, v.ownBlock = some q → ¬ own q ∧ (Value.slice A Ls.length c).ownBlock ≠ some q
section
variable {W W' W2 : World} {B c : Nat} {own own' : Nat → Prop} {A : Option Addr} {vals : List Value} {Ls : List (List UInt8)}
theorem Gath.keep (h : Gath B own A c vals Ls W) (k : Ks W own W' own') : Gath B own' A c vals Ls W' := by
  obtain ⟨h1, h2, h3, h4⟩ := h
  refine ⟨ownR_kept h1 k.1 h3, h2, fun q hq e => h3 q hq (k.2 q (World.ownsRow.lt h1 q hq).2 e), fun i v b hv hb => ?_⟩
  obtain ⟨g1, g2⟩ := h4 i v b hv hb
  exact ⟨ownB_kept g1 k.1 fun q hq => (g2 q hq).1, fun q hq => ⟨fun e => (g2 q hq).1 (k.2 q (World.ownsRow.lt g1 q hq).2 e), (g2 q hq).2⟩⟩
theorem Gath.below (h : Gath B own A c vals Ls W) (hb : Below W.heap.size W W') : Gath B own A c vals Ls W' := h.keep (Ks.below hb)
theorem Gath.lst (h : Gath B own A c vals Ls W) : ∃ rs, Lst W A Ls.length c rs ∧ lsOf rs = Ls := by
  obtain ⟨h1, h2, h3, h4⟩ := h
  obtain ⟨rs, k1, k2, k3⟩ := rows_of (fun r => r.l.length ≤ r.c ∧ r.c ≤ maxLen ∧ Rd W W.heap.size r.A r.l) vals Ls h2 (fun i v b hv hb => rw_own (h4 i v b hv hb).1)
  obtain ⟨-, A', c', e, hc1, hc2, hcs⟩ := own_formR h1
  injection e with e1 e2 e3
  subst e1
  subst e3
  exact ⟨rs, ⟨by rw [← h2, ← k1, List.length_map], hc1, hc2, by rw [k1]; exact hcs, k3⟩, k2⟩
theorem Gath.low {b' : Nat} (h : Gath B own A c vals Ls W) (hb : b' ≤ B) : Gath b' own A c vals Ls W := by
  obtain ⟨h1, h2, h3, h4⟩ := h
  refine ⟨⟨h1.1, ?_⟩, h2, h3, fun i v b hv hl => ⟨(h4 i v b hv hl).1.low hb, (h4 i v b hv hl).2⟩⟩
  rcases h1.2 with k | ⟨g, cap, cur, k1, k2, k3⟩
  · exact .inl k
  · exact .inr ⟨g, cap, cur, k1, by omega, k3⟩
/-- A list of one record of nothing. -/
theorem Gath.one (W : World) (own : Nat → Prop) (hlt : ∀ i, own i → i < W.heap.size) : Gath W.heap.size own (some ⟨W.heap.size, 0, none⟩) 1 [.slice none 0 0] [[]] (W.alloc (.cells #[.slice none 0 0] 35)) := by
  refine ⟨World.ownsRow_lit W #[.slice none 0 0] 1 (Nat.le_refl _) (by decide) (by simp), rfl, fun q hq e => ?_, fun i v b hv hb => ?_⟩
  · simp [Value.ownBlock] at hq
    have := hlt q e
    omega
  · have hi : i = 0 := by
      have := (List.getElem?_eq_some_iff.1 hv).1
      simp at this
      exact this
    subst hi
    simp only [List.getElem?_cons_zero, Option.some.injEq] at hv hb
    subst hv
    subst hb
    exact ⟨OwnB.nil_ _ _, fun q hq => by simp [Value.ownBlock] at hq⟩
/-- One more. -/
theorem Gath.more {W3 : World} {A5 : Option Addr} {c5 : Nat} {P : List UInt8} {v' : Value} (h : Gath B own A c vals Ls W) (hlt : ∀ i, own i → i < W.heap.size) (hP : OwnB W B (.slice A5 P.length c5) P.length P) (hPo : ∀ q, (Value.slice A5 P.length c5).ownBlock = some q → ¬ own q ∧ (Value.slice A Ls.length c).ownBlock ≠ some q)
    (hown : OwnR W3 B v' (Ls.length + 1) (vals ++ [.slice A5 P.length c5])) (hg : (W.alloc (.cells #[.slice A5 P.length c5] 35)).grownBy W3 (Value.slice A Ls.length c).ownBlock)
    (hloc : v'.ownBlock = (Value.slice A Ls.length c).ownBlock ∨ v'.ownBlock = some (W.alloc (.cells #[.slice A5 P.length c5] 35)).heap.size) :
    ∃ A' c', v' = .slice A' (Ls.length + 1) c' ∧ Gath B own A' c' (vals ++ [.slice A5 P.length c5]) (Ls ++ [P]) W3 ∧ Kept (fun i => (Value.slice A Ls.length c).ownBlock = some i) W W3 := by
  have hsz : (W.alloc (.cells #[.slice A5 P.length c5] 35)).heap.size = W.heap.size + 1 := by simp
  have hk : Kept (fun i => (Value.slice A Ls.length c).ownBlock = some i) W W3 := (Kept.of_below (own := fun i => (Value.slice A Ls.length c).ownBlock = some i) ((Below.refl W.heap.size W).alloc (Nat.le_refl _) _)).trans (kept_grown hg) (fun _ _ h => h)
  obtain ⟨h1, h2, h3, h4⟩ := h
  obtain ⟨-, A', c', rfl, -, -, -⟩ := own_formR hown
  have e1 : (Ls ++ [P]).length = Ls.length + 1 := by simp
  have hnew : ∀ q, (Value.slice A' (Ls.length + 1) c').ownBlock = some q → (Value.slice A Ls.length c).ownBlock = some q ∨ W.heap.size ≤ q := fun q hq => by
    rcases hloc with e | e
    · exact .inl (by rw [← e]; exact hq)
    · right
      rw [e] at hq
      injection hq with hq
      omega
  refine ⟨A', c', rfl, ?_, hk⟩
  unfold Gath
  rw [e1]
  refine ⟨hown, by simp [h2], fun q hq e => ?_, fun i v b hv hb => ?_⟩
  · rcases hnew q hq with h | h
    · exact h3 q h e
    · have := hlt q e; omega
  · by_cases hi : i < Ls.length
    · rw [List.getElem?_append_left (by omega)] at hv hb
      obtain ⟨g1, g2⟩ := h4 i v b hv hb
      refine ⟨ownB_kept g1 hk fun q hq e => (g2 q hq).2 e, fun q hq => ⟨(g2 q hq).1, fun e => ?_⟩⟩
      rcases hnew q e with h | h
      · exact (g2 q hq).2 h
      · have := (World.ownsRow.lt g1 q hq).2; omega
    · have hi2 : i = Ls.length := by
        have := (List.getElem?_eq_some_iff.1 hb).1
        rw [e1] at this
        omega
      subst hi2
      rw [List.getElem?_append_right (by omega), h2, Nat.sub_self] at hv
      rw [List.getElem?_append_right (Nat.le_refl _), Nat.sub_self] at hb
      simp only [List.getElem?_cons_zero, Option.some.injEq] at hv hb
      subst hv
      subst hb
      refine ⟨ownB_kept hP hk fun q hq e => (hPo q hq).2 e, fun q hq => ⟨(hPo q hq).1, fun e => ?_⟩⟩
      rcases hnew q e with h | h
      · exact (hPo q hq).2 h
      · have := (World.ownsRow.lt hP q hq).2; omega
end
end Go.Proofs.Ytbaenpgjggojaaa
