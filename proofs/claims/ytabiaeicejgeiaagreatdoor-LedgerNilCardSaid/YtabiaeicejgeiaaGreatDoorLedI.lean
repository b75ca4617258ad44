/-
  Ledger.add: a line more, or its error. Conditions: the ledger is there; the line may be.
-/
import Derived.Test.YtabiaeicejgeiaaGreatDoorLedG
import Derived.Test.YtabiaeicejgeiaaGreatDoorLedH
import Derived.Deep.CutBlock
import Derived.Deep.RegionLaw
namespace Go.Proofs.YtabiaeicejgeiaaGreatDoor
open Go.ChangeShapes Go.WideShapes Go.ChangeAt Go.RowKit Go.Maps Go.ChangeMaps

/-- A ledger's parts, once its maps are made. -/
structure LedO (w : World) (q : Nat) (D : Nat → Prop) (M : List Li) (L : Ky → Option Nat) (lv : Value) (V : List LinV) (lm : Option Nat) (b : Nat) (inn : Nat → Option Nat) : Prop where
  h1 : Blk w q 87 (ledC lv (.map lm) (.map (some b)) M)
  h2 : OwnS linT 42 w 0 lv M.length V
  h3 : LegsAt w D M V
  h4 : LiveAt w D L lm inn
  h5 : BalAt w D M (some b)
  h7 : D q
  h8 : ∀ g, lv.ownBlock = some g → D g
  h9 : ∀ i, D i → i < w.heap.size
  h10 : lm ≠ none
  h11 : lm ≠ some b ∧ ∀ a, inn a ≠ some b
theorem LedO.same {w w' : World} {q : Nat} {D : Nat → Prop} {M : List Li} {L : Ky → Option Nat} {lv : Value} {V : List LinV} {lm : Option Nat} {b : Nat} {inn : Nat → Option Nat} (h : LedO w q D M L lv V lm b inn) (hk : ∀ i, D i → w'.heap[i]? = w.heap[i]?) (hs : w.heap.size ≤ w'.heap.size) : LedO w' q D M L lv V lm b inn :=
  ⟨(hk q h.h7).trans h.h1, h.h2.same (fun g hg => hk g (h.h8 g hg)), h.h3.same hk hs, h.h4.same hk, h.h5.same hk, h.h7, h.h8, fun i hi => Nat.lt_of_lt_of_le (h.h9 i hi) hs, h.h10, h.h11⟩
def okAdd (M : List Li) (a : Nat) (l : List (Nat × Int)) : Prop := okW (bal M a) l ∧ okW (ctl M) l
def AddPost (w : World) (q : Nat) (D : Nat → Prop) (M : List Li) (L : Ky → Option Nat) (x : Li) (v : Value) (e : Ending) (w' : World) : Prop :=
  (okAdd M x.y.a x.l → e = .returned .nilIface ∧ Chg D w w' ∧ ∃ D', LedL w' q D' (M ++ [x]) L ∧ ∀ i, D' i → D i ∨ v.ownBlock = some i ∨ w.heap.size ≤ i) ∧ (¬ okAdd M x.y.a x.l → e = .returned (eno14 12) ∧ Below w.heap.size w w')
theorem Fine.fit9a {M : List Li} (h : Fine M) (a : Nat) : fit9 (bal M a) := fun c => by
  have := h.fita M.length a c
  rwa [List.take_length] at this
theorem Fine.fit9c {M : List Li} (h : Fine M) : fit9 (ctl M) := fun c => by
  have := h.fit M.length c
  rwa [List.take_length] at this
/-- with's answer, one way. -/
theorem with_ret (f : Nat → Int) (hF : fit9 f) (A : Option Addr) (n c : Nat) (l : List (Nat × Int)) (hn : l.length = n) (hm : n ≤ 100000) (hI : ∀ u ∈ l, LegIn u) (h9 : ∀ u ∈ l, 1 ≤ u.1 ∧ u.1 ≤ 9) :
    ∃ r v, ((okW f l ∧ r = plusL f l ∧ v = .nilIface) ∨ (¬ okW f l ∧ v = eno14 12)) ∧ ∀ W, Rs legT W W.heap.size A l → Calls Tryz.prog 73 #[.agg (vec f), .slice A n c] W (Ret (.tuple #[.agg (vec r), v]) W) := by
  by_cases h : okW f l
  · exact ⟨_, _, .inl ⟨h, rfl, rfl⟩, fun W hR => (with_any f hF A n c W.heap.size l W hR hn hm (Nat.le_refl _) hI h9).mono (fun e w' hp => ⟨hp.1 h, hp.2.2⟩)⟩
  · exact ⟨_, _, .inr ⟨h, rfl⟩, fun W hR => (with_any f hF A n c W.heap.size l W hR hn hm (Nat.le_refl _) hI h9).mono (fun e w' hp => ⟨hp.2.1 h, hp.2.2⟩)⟩
theorem LedL.balLook {w : World} {D : Nat → Prop} {M : List Li} {bm : Option Nat} (h5 : BalAt w D M bm) (h9 : ∀ i, D i → i < w.heap.size) {a : Nat} (ha : a < 4294967296) (w' : World) (hb : Below w.heap.size w w') :
    (Instr.lookup 83 (.map bm) (.int .u32 (a : Int)) false).run Tryz.prog w' = .ok (.agg (vec (bal M a))) w' := by
  cases bm with
  | none =>
    have := look_none (w := w') keyU32 Tryz.underlying83 (zeroS w') (x := a) ha false
    rw [h5.nil rfl, bal_no rfl]
    exact this
  | some b =>
    obtain ⟨hb1, hb2⟩ := h5.out b rfl
    have := (hb2.below hb (h9 b hb1)).look keyU32 Tryz.underlying83 (zeroS w') (x := a) ha false
    cases hh : hasLn M a with
    | true =>
      simp only [hh, if_true] at this
      exact this
    | false =>
      simp only [hh, Bool.false_eq_true, if_false] at this
      rw [bal_no hh]
      exact this
theorem sumNe : (87 : TypeId) ≠ 85 := by decide
theorem eqlM (o : Option Nat) (W : World) : (binOp .eql 83 (.map o) (.map none)).run Tryz.prog W = .ok (.bool o.isNone) W := by
  cases o <;> kernel_rfl
theorem sumsLoad {w : World} {q : Nat} {lv lm bm : Value} {M : List Li} (h : Blk w q 87 (ledC lv lm bm M)) : (Instr.loadAt 85 (.pointer (some ⟨q, 3, none⟩))).run Tryz.prog w = .ok (.agg (vec (ctl M))) w := by
  have := run_loadAt_mid (P := Tryz.prog) w q 3 85 (vec (ctl M)).toList _ (fun j v hv => by
    have hc := h.cell (3 + j)
    rw [hc]
    unfold ledC
    match j, hv with
    | 0, hv | 1, hv | 2, hv | 3, hv | 4, hv | 5, hv | 6, hv | 7, hv | 8, hv | 9, hv => simpa [vec] using hv
    | j + 10, hv => simp [vec] at hv) Tryz.underlying85 rfl (by kernel_rfl)
  simpa using this
theorem sumLoad {w : World} {g : Nat} {f : Nat → Int} (h : Blk w g 85 (vec f)) : (Instr.loadAt 85 (.pointer (some ⟨g, 0, none⟩))).run Tryz.prog w = .ok (.agg (vec f)) w := by
  have := run_loadAt_mid (P := Tryz.prog) w g 0 85 (vec f).toList _ (fun j v hv => by
    have hc := h.cell (0 + j)
    rw [hc, Nat.zero_add]
    simpa using hv) Tryz.underlying85 rfl (by kernel_rfl)
  simpa using this
set_option maxRecDepth 100000 in
set_option maxHeartbeats 8000000 in
theorem add_any (q : Nat) (D : Nat → Prop) (M : List Li) (L : Ky → Option Nat) (y : Ky) (A : Option Addr) (n c o : Nat) (l : List (Nat × Int)) (w : World) (h : LedL w q D M L) (hO : OwnS legT 53 w 0 (.slice A n c) n l) (hn : l.length = n) (hm : n ≤ 8) (hy : y.In) (hI : ∀ u ∈ l, LegIn u) (h9 : ∀ u ∈ l, 1 ≤ u.1 ∧ u.1 ≤ 9)
    (hF : okAdd M y.a l → Fine (M ++ [⟨y, l, o⟩])) (hM : M.length ≤ 1000000) :
    Calls Tryz.prog 42 #[.pointer (some ⟨q, 0, none⟩), linW y (.slice A n c) o] w (AddPost w q D M L ⟨y, l, o⟩ (.slice A n c)) := by
  have hfine := h.fine
  obtain ⟨r1, v1, hc1, hw1⟩ := with_ret (bal M y.a) (hfine.fit9a _) A n c l hn (by omega) hI h9
  obtain ⟨r2, v2, hc2, hw2⟩ := with_ret (ctl M) hfine.fit9c A n c l hn (by omega) hI h9
  have HL := Lib.hid h
  obtain ⟨lv, V, lm, bm, inn, p1, p2, p3, p4, p5, p6, p7, p8, p9, p10, p11⟩ := h
  obtain ⟨X, hX⟩ : ∃ X : Array Value, X = #[.int .u32 (y.a : Int), .int .i32 y.d, .int .u8 (y.k : Int), .int .u32 (y.s : Int), .slice A n c, .int .i64 (o : Int)] := ⟨_, rfl⟩
  have HB1 := Lib.hid (b_alloc w (.cells X 42))
  have HX1 := Lib.hid (Blk.new w 42 X)
  obtain ⟨W, hW⟩ : ∃ W, w.alloc (.cells X 42) = W := ⟨_, rfl⟩
  rw [hW] at HB1 HX1
  have hqW : q < w.heap.size := p9 q p7
  have hR0 : ∀ W', Below w.heap.size w W' → Rs legT W' W'.heap.size A l := fun W' hb => by
    obtain ⟨_, A', c', he, _, _, hr⟩ := hO.form (by decide)
    injection he with he1 he2 he3
    subst he1
    exact (hr.below hb).more hb.size
  have LB : ∀ W', Below W.heap.size W W' → (Instr.loadAt 83 (.pointer (some ⟨q, 2, none⟩))).run Tryz.prog W' = .ok (.map bm) W' := fun W' hb => by
    have hb' := HB1.out.trans (hb.mono HB1.out.size)
    have c2 := (p1.below hb' hqW).cell 2
    unfold ledC at c2
    simp at c2
    go_simp
  have LK : ∀ W', Below W.heap.size W W' → (Instr.lookup 83 (.map bm) (.int .u32 (y.a : Int)) false).run Tryz.prog W' = .ok (.agg (vec (bal M y.a))) W' := fun W' hb => LedL.balLook p5 p9 hy.a W' (HB1.out.trans (hb.mono HB1.out.size))
  have LS : ∀ W', Below W.heap.size W W' → (Instr.loadAt 34 (.pointer (some ⟨w.heap.size, 4, none⟩))).run Tryz.prog W' = .ok (.slice A n c) W' := fun W' hb => by
    have c4 := (HX1.out.below hb HX1.out.lt).cell 4
    rw [hX] at c4
    simp at c4
    go_simp
  have CW1 := fun W' (hb : Below W.heap.size W W') => hw1 W' (hR0 W' (HB1.out.trans (hb.mono HB1.out.size)))
  have LC : ∀ W', Below w.heap.size w W' → (Instr.loadAt 85 (.pointer (some ⟨q, 3, none⟩))).run Tryz.prog W' = .ok (.agg (vec (ctl M))) W' := fun W' hb => sumsLoad (p1.below hb hqW)
  have HW := Lib.hid hW
  have HXX := Lib.hid hX
  clear hW
  subst hX
  have K1 := Lib.hid LB
  have K2 := Lib.hid LK
  have K3 := Lib.hid LS
  have K4 := Lib.hid CW1
  have K5 := Lib.hid LC
  have K6 := Lib.hid hR0
  have K7 := Lib.hid hw2
  have KO := Lib.hid hO
  have KF := Lib.hid hF
  have HC1 := Lib.hid hc1
  have HC2 := Lib.hid hc2
  have P1 := Lib.hid p1
  have P2 := Lib.hid p2
  have P3 := Lib.hid p3
  have P4 := Lib.hid p4
  have P5 := Lib.hid p5
  have P8 := Lib.hid p8
  have P9 := Lib.hid p9
  have P10 := Lib.hid p10
  have P11 := Lib.hid p11
  have HN := Lib.hid hn
  clear LB LK LS CW1 LC hR0 hw1 hw2 hO hF hc1 hc2 p1 p2 p3 p4 p5 p6 p8 p9 p10 p11 hn hI h9 hfine HXX
  unfold linW
  go_enter Tryz.func42, Tryz.ntmps42
  go_upto_region 2 with (fail)
  rw [HW.out]
  go_wp2_with fail
  refine add_reg2 (w := w) (q := q) (n := n) (c := c) (A := A) (y := y) (bm := bm) (f0 := bal M y.a) (r1 := r1) (v1 := v1) rfl rfl rfl rfl K1.out K2.out K3.out K4.out (fun u1 g6 W1 hg6 hbk hb1 he6 he7 => ?_)
  simp only [putF, Act.put, List.setIfInBounds_toArray, List.set_cons_zero, List.set_cons_succ]
  rw [he6, he7]
  have HB2 := Lib.hid (HB1.out.trans (hb1.mono HB1.out.size))
  have HW1 := Lib.hid hb1
  have HG6 := Lib.hid hbk
  have HG6s := Lib.hid hg6
  clear he6 he7 hb1 hbk hg6 K1 K2 K4
  rcases HC1.out with ⟨hok1, rfl, rfl⟩ | ⟨hno1, rfl⟩
  case inr =>
    have HNO := Lib.hid hno1
    clear hno1
    unfold eno14
    go_wp2_with fail
    go_ret
    exact ⟨fun h => absurd h.1 HNO.out, fun _ => ⟨rfl, HB2.out⟩⟩
  case inl =>
    have HOK1 := Lib.hid hok1
    clear hok1 HC1
    go_wp2_with fail
    refine add_reg5 (w := w) (q := q) (n := n) (c := c) (A := A) (f1 := ctl M) (r2 := r2) (v2 := v2) rfl rfl rfl (fun W' hb => K5.out W' (HB2.out.trans (hb.mono HB2.out.size))) (fun W' hb => K3.out W' (HW1.out.trans (hb.mono HW1.out.size))) (fun W' hb => K7.out W' (K6.out W' (HB2.out.trans (hb.mono HB2.out.size)))) (fun u2 g8 W2 hg8 hbk2 hb2 he8 he7 => ?_)
    simp only [putF, Act.put, List.setIfInBounds_toArray, List.set_cons_zero, List.set_cons_succ]
    rw [he8, he7]
    have HB3 := Lib.hid (HB2.out.trans (hb2.mono HB2.out.size))
    have HG68 := Lib.hid (HG6.out.below hb2 HG6.out.lt)
    have HG8 := Lib.hid hbk2
    have HX3 := Lib.hid ((HX1.out.below HW1.out HX1.out.lt).below hb2 (Nat.lt_of_lt_of_le HX1.out.lt HW1.out.size))
    have HS3 := Lib.hid (show w.heap.size + 1 ≤ W2.heap.size from Nat.le_trans HX1.out.lt (Nat.le_trans HW1.out.size hb2.size))
    clear he8 he7 hb2 hbk2 hg8 K3 K5 K7 HG6 HW1 HX1 HB2 HB1
    rcases HC2.out with ⟨hok2, rfl, rfl⟩ | ⟨hno2, rfl⟩
    case inr =>
      have HNO := Lib.hid hno2
      clear hno2
      unfold eno14
      go_wp2_with fail
      go_ret
      exact ⟨fun h => absurd h.2 HNO.out, fun _ => ⟨rfl, HB3.out⟩⟩
    case inl =>
      have HOK2 := Lib.hid hok2
      clear hok2 HC2
      have HL3 := Lib.hid (HL.out.below HB3.out)
      clear P1 P2 P3 P4 P5 P8 P9 P10 P11 HL
      have KO3 := Lib.hid (KO.out.below HB3.out)
      obtain ⟨lv3, V3, lm3, bm3, inn3, p1, p2, p3, p4, p5, -, -, p8, p9, p10, p11⟩ := HL3.out
      have c2 := p1.cell 2
      unfold ledC at c2
      simp at c2
      have heq := eqlM bm3 W2
      go_upto_if 47 with (fail)
      go_cut [] from 43 to 55 (fun wx => ∃ (D1 : Nat → Prop) (lv1 : Value) (V1 : List LinV) (lm1 : Option Nat) (b1 : Nat) (inn1 : Nat → Option Nat), Hid (LedO wx q D1 M L lv1 V1 lm1 b1 inn1) ∧ Hid (Blk wx w.heap.size 42 #[.int .u32 (y.a : Int), .int .i32 y.d, .int .u8 (y.k : Int), .int .u32 (y.s : Int), .slice A n c, .int .i64 (o : Int)]) ∧ Hid (Blk wx g6 85 (vec (plusL (bal M y.a) l))) ∧ Hid (Blk wx g8 85 (vec (plusL (ctl M) l))) ∧ Hid (Chg D w wx) ∧ Hid (∀ i, D1 i → D i ∨ w.heap.size + 1 ≤ i) ∧ Hid (OwnS legT 53 wx 0 (.slice A n c) n l))
      case first =>
        cases bm3 with
        | none =>
          obtain rfl : M = [] := p5.nil rfl
          obtain rfl : lm3 = none := p10.1 rfl
          have f2 := p1.frozen 2
          have c1 := p1.cell 1
          have f1 := p1.frozen 1
          unfold ledC at c1
          simp at c1
          have hmm := @run_makeMap Tryz.prog
          have P1 := Lib.hid p1
          have P2 := Lib.hid p2
          have P3 := Lib.hid p3
          have P4 := Lib.hid p4
          have P8 := Lib.hid p8
          have P9 := Lib.hid p9
          have hql := p1.lt
          clear p1 p2 p3 p4 p5 p8 p9 p10 p11
          go_wp2_with fail
          go_meet
          case rel =>
            obtain ⟨n1, n2, n3⟩ := legNe
            obtain ⟨Ws, hWs⟩ : ∃ Ws, ((W2.setCell ⟨q, 1, none⟩ (.map (some W2.heap.size))).setCell ⟨q, 2, none⟩ (.map (some (W2.heap.size + 1)))) = Ws := ⟨_, rfl⟩
            have hset : ∀ (i : Nat), i ≠ q → Ws.heap[i]? = W2.heap[i]? := fun i hi => by
              rw [← hWs, Below.heap_setCell _ _ _ _ (by exact hi), Below.heap_setCell _ _ _ _ (by exact hi)]
            have hsz1 : Ws.heap.size = W2.heap.size := by rw [← hWs]; simp [World.size_setCell]
            have hbs : Below 0 W2 Ws := by
              rw [← hWs]
              exact ((Below.refl 0 W2).setCell (Nat.zero_le _) _).setCell (Nat.zero_le _) _
            have hq1 : Blk Ws q 87 (ledC lv3 (.map (some W2.heap.size)) (.map (some (W2.heap.size + 1))) []) := by
              have := (P1.out.set_ 1 (.map (some W2.heap.size))).set_ 2 (.map (some (W2.heap.size + 1)))
              rw [hWs] at this
              simpa [ledC] using this
            rw [hWs]
            obtain ⟨Wm, hWm⟩ : ∃ Wm, (Ws.alloc (.map #[] 0)).alloc (.map #[] 0) = Wm := ⟨_, rfl⟩
            have hm0 : MapF Wm u32In u32E W2.heap.size (fun _ => none) := by
              rw [← hWm, ← hsz1]
              exact (MapF.new Ws u32In u32E).below (b_alloc _ _) (by simp)
            have hm1 : MapF Wm u32In u32E (W2.heap.size + 1) (fun _ => none) := by
              rw [← hWm]
              have := MapF.new (Ws.alloc (.map #[] 0)) u32In u32E
              rw [show (Ws.alloc (.map #[] 0)).heap.size = W2.heap.size + 1 by simp [hsz1]] at this
              exact this
            have hbm : Below Ws.heap.size Ws Wm := by
              rw [← hWm]
              exact (b_alloc _ _).alloc (by simp) _
            have hszm : Wm.heap.size = W2.heap.size + 2 := by
              rw [← hWm]
              simp [hsz1]
            rw [hWm]
            have hq2 := hq1.below hbm hq1.lt
            have hkeep : ∀ i, i < W2.heap.size → i ≠ q → Wm.heap[i]? = W2.heap[i]? := fun i hi hn => by
              rw [hbm.block i (by rw [hsz1]; exact hi)]
              exact hset i hn
            refine ⟨fun i => D i ∨ i = W2.heap.size ∨ i = W2.heap.size + 1, lv3, V3, some W2.heap.size, W2.heap.size + 1, fun _ => none, Lib.hid ⟨?_, ?_, ?_, ?_, ?_, .inl p7, fun g hg => .inl (P8.out g hg), fun i hi => ?_, by simp, ⟨by simp, fun _ => by simp⟩⟩, Lib.hid ?_, Lib.hid ?_, Lib.hid ?_, Lib.hid ?_, Lib.hid ?_, Lib.hid ?_⟩
            · exact hq2
            · exact P2.out.same (fun g hg => hkeep g (P9.out g (P8.out g hg)) (fun e => by
                subst e
                obtain ⟨cs, hc⟩ := own_blk14 P2.out hg
                exact blk_ne P1.out hc n3 rfl))
            · have h3 := P3.out
              have hv : V3 = [] := List.eq_nil_of_length_eq_zero (by rw [h3.len]; rfl)
              subst hv
              exact ⟨rfl, fun i v x h => (by simp at h), fun i v x h => (by simp at h), fun i v p h => (by simp at h)⟩
            · refine ⟨fun h => (by simp at h), fun g hg => ?_, fun a r hr => (by simp at hr), fun k _ => P4.out.nil rfl k, fun a a' r hr => (by simp at hr)⟩
              cases hg
              exact ⟨.inr (.inl rfl), hm0, fun _ => by simp⟩
            · refine ⟨fun h => (by simp at h), fun g hg => ?_⟩
              cases hg
              exact ⟨.inr (.inr rfl), hm1⟩
            · rw [hszm]
              rcases hi with hi | rfl | rfl
              · have := P9.out i hi
                omega
              · omega
              · omega
            · exact (hkeep _ HX3.out.lt (fun e => by
                have := HX3.out
                rw [e] at this
                exact blk_ne P1.out this n3 rfl)).trans HX3.out
            · exact (hkeep _ HG68.out.lt (fun e => by
                have := HG68.out
                rw [e] at this
                exact blk_ne P1.out this sumNe rfl)).trans HG68.out
            · exact (hkeep _ HG8.out.lt (fun e => by
                have := HG8.out
                rw [e] at this
                exact blk_ne P1.out this sumNe rfl)).trans HG8.out
            · have hc := Chg.of_below (D := D) HB3.out
              refine ⟨?_, ?_, ?_, ?_, fun i hi hn => ?_⟩
              · exact (hbm.os.trans hbs.os).trans hc.os
              · exact (hbm.tape.trans hbs.tape).trans hc.tape
              · exact (hbm.output.trans hbs.output).trans hc.output
              · rw [hszm]
                have := hc.size
                omega
              · rw [hkeep i (Nat.lt_of_lt_of_le hi hc.size) (fun e => hn (by rw [e]; exact p7))]
                exact hc.block i hi hn
            · intro i hi
              have := HS3.out
              rcases hi with hi | hi | hi
              · exact .inl hi
              · exact .inr (by omega)
              · exact .inr (by omega)
            · exact KO3.out.same (fun g hg => by
                obtain ⟨cs, hc⟩ := own_blk14 KO3.out hg
                exact hkeep g hc.lt (fun e => by
                  subst e
                  exact blk_ne hc P1.out n1 rfl))
        | some b3 =>
          have P11 := p11 b3 rfl
          have hlm : lm3 ≠ none := fun e => by have := p10.2 e; cases this
          have HO3 := Lib.hid (show LedO W2 q D M L lv3 V3 lm3 b3 inn3 from ⟨p1, p2, p3, p4, p5, p7, p8, p9, hlm, P11⟩)
          clear p1 p2 p3 p4 p5 p8 p9 p10 p11 hlm P11
          go_wp2_with fail
          go_meet
          case rel =>
            exact ⟨D, lv3, V3, lm3, b3, inn3, HO3, HX3, HG68, HG8, Lib.hid (Chg.of_below HB3.out), Lib.hid (fun i h => .inl h), KO3⟩
      case rest =>
        obtain ⟨D1, lv1, V1, lm1, b1, inn1, HLO, HX, H6, H8, HCG, HD1, HOL⟩ := hcut
        clear HX3 HG68 HG8 HB3 KO3 HL3 KO HS3 HG6s K6 c2
        obtain ⟨X0, X1, X2, born, hX0, HE⟩ := (HLO.out.h5.out b1 rfl).2.entry keyU32 Tryz.underlying83 zeroS (x := y.a) hy.a (.agg (vec (plusL (bal M y.a) l)))
        have hqb := blk_map HLO.out.h1 (HLO.out.h5.out b1 rfl).2
        have h6b := blk_map H6.out (HLO.out.h5.out b1 rfl).2
        have h8b := blk_map H8.out (HLO.out.h5.out b1 rfl).2
        have hxb := blk_map HX.out (HLO.out.h5.out b1 rfl).2
        have AQ : ∀ W', AtR b1 (turn3 X0 X1 X2) wc W' → Blk W' q 87 (ledC lv1 (.map lm1) (.map (some b1)) M) := fun W' ha => (ha.block q HLO.out.h1.lt hqb).trans HLO.out.h1
        have LB : ∀ W', AtR b1 (turn3 X0 X1 X2) wc W' → (Instr.loadAt 83 (.pointer (some ⟨q, 2, none⟩))).run Tryz.prog W' = .ok (.map (some b1)) W' := fun W' ha => by
          have c2 := (AQ W' ha).cell 2
          unfold ledC at c2
          simp at c2
          go_simp
        have L6 : ∀ W', AtR b1 (turn3 X0 X1 X2) wc W' → (Instr.loadAt 85 (.pointer (some ⟨g6, 0, none⟩))).run Tryz.prog W' = .ok (.agg (vec (plusL (bal M y.a) l))) W' := fun W' ha => sumLoad ((ha.block g6 H6.out.lt h6b).trans H6.out)
        have L8 : ∀ W', AtR b1 (turn3 X0 X1 X2) wc W' → (Instr.loadAt 85 (.pointer (some ⟨g8, 0, none⟩))).run Tryz.prog W' = .ok (.agg (vec (plusL (ctl M) l))) W' := fun W' ha => sumLoad ((ha.block g8 H8.out.lt h8b).trans H8.out)
        have TH : ∀ W', AtR b1 (turn3 X0 X1 X2) wc W' → W'.there q 3 10 := fun W' ha j hj => by
          refine ⟨?_, (AQ W' ha).frozen _⟩
          rw [(AQ W' ha).cell]
          simp [ledC]
          omega
        have KA := Lib.hid AQ
        have K1 := Lib.hid LB
        have K2 := Lib.hid L6
        have K3 := Lib.hid L8
        have K4 := Lib.hid TH
        have KE := Lib.hid HE
        have KX := Lib.hid hX0
        clear AQ LB L6 L8 TH HE hX0
        go_wp2_with fail
        refine add_reg10 (q := q) (b := b1) (g6 := g6) (g8 := g8) (y := y) (r1 := plusL (bal M y.a) l) (r2 := plusL (ctl M) l) rfl rfl rfl rfl rfl KE.out KX.out K1.out K2.out K3.out K4.out (fun u3 W3 ha hX2 => ?_)
        simp only [putF, Act.put, List.setIfInBounds_toArray, List.set_cons_zero, List.set_cons_succ]
        have ho := onlyAt_setCells q (vec (plusL (ctl M) l)).toList 3 W3
        have hq4 := blk_setCells (vec (plusL (ctl M) l)).toList 3 W3 _ (KA.out W3 ha)
        rw [show putL (ledC lv1 (.map lm1) (.map (some b1)) M) 3 (vec (plusL (ctl M) l)).toList = ledC lv1 (.map lm1) (.map (some b1)) (M ++ [⟨y, l, o⟩]) by
          have e := ctl_snoc M ⟨y, l, o⟩
          simp [putL, ledC, vec, e]] at hq4
        have hm4 := KE.out.done (W3.setCells q 3 (vec (plusL (ctl M) l)).toList) ((ho.block b1 (fun e => hqb e.symm)).trans hX2)
        have hsame : ∀ i : Nat, i < wc.heap.size → i ≠ q → i ≠ b1 → (W3.setCells q 3 (vec (plusL (ctl M) l)).toList).heap[i]? = wc.heap[i]? := fun i h1 h2 h3 => (ho.block i h2).trans (ha.block i h1 h3)
        have hsz : wc.heap.size ≤ (W3.setCells q 3 (vec (plusL (ctl M) l)).toList).heap.size := by rw [ho.size]; exact ha.size
        have hos : Below 0 wc (W3.setCells q 3 (vec (plusL (ctl M) l)).toList) := ⟨ho.os.trans ha.os, ho.tape.trans ha.tape, ho.output.trans ha.output, hsz, fun i hi => absurd hi (Nat.not_lt_zero i)⟩
        obtain ⟨W4, hW4⟩ : ∃ W4, W3.setCells q 3 (vec (plusL (ctl M) l)).toList = W4 := ⟨_, rfl⟩
        rw [hW4] at hq4 hm4 hsame hsz hos ⊢
        obtain ⟨n1, n2, n3⟩ := legNe
        have hx4 : Blk W4 w.heap.size 42 #[.int .u32 (y.a : Int), .int .i32 y.d, .int .u8 (y.k : Int), .int .u32 (y.s : Int), .slice A n c, .int .i64 (o : Int)] := (hsame _ HX.out.lt (fun e => by
          have := HX.out
          rw [e] at this
          exact blk_ne HLO.out.h1 this n3 rfl) hxb).trans HX.out
        have hV4 : OwnS linT 42 W4 0 lv1 M.length V1 := HLO.out.h2.same (fun g hg => by
          obtain ⟨cs, hc⟩ := own_blk14 HLO.out.h2 hg
          exact hsame g hc.lt (fun e => by rw [e] at hc; exact blk_ne HLO.out.h1 hc n3 rfl) (fun e => by rw [e] at hc; exact blk_map hc (HLO.out.h5.out b1 rfl).2 rfl))
        have hL4 : OwnS legT 53 W4 0 (.slice A n c) n l := HOL.out.same (fun g hg => by
          obtain ⟨cs, hc⟩ := own_blk14 HOL.out hg
          exact hsame g hc.lt (fun e => by rw [e] at hc; exact blk_ne hc HLO.out.h1 n1 rfl) (fun e => by rw [e] at hc; exact blk_map hc (HLO.out.h5.out b1 rfl).2 rfl))
        clear hW4 ho ha hX2 KA K1 K2 K3 K4 KE KX H6 H8 HX h6b h8b hxb
        obtain ⟨_, A1, c1, rfl, hc1, _, _⟩ := hV4.form (by decide)
        have c0 := hq4.cell 0
        have f0 := hq4.frozen 0
        have b0 := hx4.cell 0
        have b1' := hx4.cell 1
        have b2 := hx4.cell 2
        have b3 := hx4.cell 3
        have b4 := hx4.cell 4
        have b5 := hx4.cell 5
        unfold ledC at c0
        simp at c0 b0 b1' b2 b3 b4 b5
        have l0 := hq4.lt
        have l1 := hx4.lt
        have s1 : (W4.alloc (.cells #[.int .u32 (y.a : Int), .int .i32 y.d, .int .u8 (y.k : Int), .int .u32 (y.s : Int), .slice A n c, .int .i64 (o : Int)] 42)).heap.size = W4.heap.size + 1 := by simp
        have HO2 := Lib.hid (hV4.alloc (.cells #[.int .u32 (y.a : Int), .int .i32 y.d, .int .u8 (y.k : Int), .int .u32 (y.s : Int), .slice A n c, .int .i64 (o : Int)] 42))
        have HR := Lib.hid (Rs.block (T := linT) (u := (⟨y, A, n, c, o⟩ : LinV)) (Blk.new W4 42 #[.int .u32 (y.a : Int), .int .i32 y.d, .int .u8 (y.k : Int), .int .u32 (y.s : Int), .slice A n c, .int .i64 (o : Int)]))
        rw [s1] at HR
        have HQ4 := Lib.hid hq4
        have HM4 := Lib.hid hm4
        have HSM := Lib.hid hsame
        have HSZ := Lib.hid hsz
        have HOS := Lib.hid hos
        have HL4 := Lib.hid hL4
        have HV4 := Lib.hid hV4
        have HQB := Lib.hid hqb
        have hqr : (Value.slice A1 M.length c1).ownBlock ≠ some q := fun e => by
          obtain ⟨cs, hc⟩ := own_blk14 HV4.out e
          exact blk_ne HQ4.out hc n3 rfl
        have HQR := Lib.hid hqr
        clear hq4 hm4 hsame hsz hos hL4 hV4 hx4 hqb hqr
        go_wp2_with fail
        go_region_law ((refine step_appendS rfl rowLin (.tmp 72) (.tmp 74) rfl 0 (.slice A1 M.length c1) M.length V1 (by rfl) (World.ownsRow.drew HO2.out) _ (some ⟨W4.heap.size, 0, none⟩) 1 1 [⟨y, A, n, c, o⟩] (by rfl) HR.out rfl (by unfold maxLen; omega) (by omega) (Nat.zero_le _) ?_; intro v2 w2 hown hg hat _; have hk1 := (HQ4.out.alloc (.cells #[.int .u32 (y.a : Int), .int .i32 y.d, .int .u8 (y.k : Int), .int .u32 (y.s : Int), .slice A n c, .int .i64 (o : Int)] 42)).drew.grown hg (fun e => HQR.out e.symm); have d1 := hk1.cell 0; have e1 := hk1.frozen 0; simp [ledC] at d1; obtain ⟨_, A2, c2, rfl, _, _, _⟩ := hown.form (by decide); have HO9 := Lib.hid hown; have HG9 := Lib.hid hg; have HT9 := Lib.hid hat; have HK9 := Lib.hid hk1; clear hown hg hat hk1))
        all_goals
          go_wp2_with fail
          go_ret
          have hn := HN.out
          subst hn
          have hG := HG9.out
          obtain ⟨n1, n2, n3⟩ := legNe
          have hstep : ∀ i : Nat, i < W4.heap.size → i ≠ q → (Value.slice A1 M.length c1).ownBlock ≠ some i → (w2.setCell ⟨q, 0, none⟩ (.slice A2 (M.length + 1) c2)).heap[i]? = W4.heap[i]? := fun i h1 h2 h3 => by
            rw [Below.heap_setCell _ _ _ _ (by exact h2), hG.block i (by simp; omega) (fun e => h3 e.symm)]
            exact (b_alloc W4 _).block i h1
          have hsz6 : (w2.setCell ⟨q, 0, none⟩ (.slice A2 (M.length + 1) c2)).heap.size = w2.heap.size := by simp [World.size_setCell]
          have hgs := hG.size
          simp at hgs
          have hb6 := (Below.refl 0 w2).setCell (Nat.zero_le _) (p := ⟨q, 0, none⟩) (.slice A2 (M.length + 1) c2)
          have hrow2 : ∀ g, (Value.slice A2 (M.length + 1) c2).ownBlock = some g → (Value.slice A1 M.length c1).ownBlock = some g ∨ wc.heap.size ≤ g := fun g hg => by
            rcases HT9.out with h | h
            · exact .inl (by rw [← h]; exact hg)
            · rw [h] at hg
              injection hg with hg
              have := HSZ.out
              simp at hg
              exact .inr (by omega)
          have hk4 : ∀ i, i < wc.heap.size → i ≠ q → i ≠ b1 → (Value.slice A1 M.length c1).ownBlock ≠ some i → (w2.setCell ⟨q, 0, none⟩ (.slice A2 (M.length + 1) c2)).heap[i]? = wc.heap[i]? := fun i h1 h2 h3 h4 => by
            rw [hstep i (Nat.lt_of_lt_of_le h1 HSZ.out) h2 h4]
            exact HSM.out i h1 h2 h3
          have hadd := LedL.added (w' := w2.setCell ⟨q, 0, none⟩ (.slice A2 (M.length + 1) c2)) (x := (⟨y, l, o⟩ : Li)) (A := A) (c := c) (v2 := .slice A2 (M.length + 1) c2) HLO.out.h1 HLO.out.h2 HLO.out.h3 HLO.out.h4 HLO.out.h5 HLO.out.h7 HLO.out.h8 HLO.out.h9 HLO.out.h10 HLO.out.h11 (KF.out ⟨HOK1.out, HOK2.out⟩)
            (by
              have := HK9.out.set_ 0 (.slice A2 (M.length + 1) c2)
              simpa [ledC] using this)
            (HO9.out.same (fun g hg => by
              rw [Below.heap_setCell]
              intro e
              obtain ⟨cs, hc⟩ := own_blk14 HO9.out hg
              have e' : g = q := e
              subst e'
              exact blk_ne HK9.out hc n3 rfl))
            (HM4.out.keep (hstep b1 HM4.out.lt (fun e => HQB.out e.symm) (fun e => by
              obtain ⟨cs, hc⟩ := own_blk14 HV4.out e
              exact blk_map hc HM4.out rfl)))
            (fun i hi h2 h3 h4 => hk4 i (HLO.out.h9 i hi) h2 h3 h4)
            (by rw [hsz6]; have := HSZ.out; omega)
            hrow2
            (HL4.out.same (fun g hg => by
              obtain ⟨cs, hc⟩ := own_blk14 HL4.out hg
              exact hstep g hc.lt (fun e => by subst e; exact blk_ne hc HQ4.out n1 rfl) (fun e => by
                obtain ⟨cs', hc'⟩ := own_blk14 HV4.out e
                exact blk_ne hc hc' n2 rfl)))
          have hcg := HCG.out
          refine ⟨fun _ => ⟨rfl, ⟨?_, ?_, ?_, ?_, fun i hi hn => ?_⟩, _, hadd, fun i hi => ?_⟩, fun h => absurd ⟨HOK1.out, HOK2.out⟩ h⟩
          · exact ((hb6.os.trans hG.os).trans HOS.out.os).trans hcg.os
          · exact ((hb6.tape.trans hG.tape).trans HOS.out.tape).trans hcg.tape
          · exact ((hb6.output.trans hG.output).trans HOS.out.output).trans hcg.output
          · rw [hsz6]
            have := HSZ.out
            have := hcg.size
            omega
          · have hsz := hcg.size
            have hd : ∀ k, D1 k → i = k → False := fun k hk e => by
              rcases HD1.out k hk with h | h
              · exact hn (by rw [e]; exact h)
              · omega
            rw [hk4 i (by omega) (fun e => hn (by rw [e]; exact p7)) (fun e => hd b1 (HLO.out.h5.out b1 rfl).1 e) (fun e => hd i (HLO.out.h8 i e) rfl)]
            exact hcg.block i hi hn
          · have hsz := hcg.size
            rcases hi with hi | hi | hi
            · rcases HD1.out i hi with h | h
              · exact .inl h
              · exact .inr (.inr (by omega))
            · exact .inr (.inl hi)
            · exact .inr (.inr (by omega))
end Go.Proofs.YtabiaeicejgeiaaGreatDoor
