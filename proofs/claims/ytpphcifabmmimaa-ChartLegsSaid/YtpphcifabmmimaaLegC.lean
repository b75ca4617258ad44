/-
  ChartLegs: the walk. Conditions: the legs are there.
-/
import Derived.Test.YtpphcifabmmimaaLegB
import Derived.Test.YtpphcifabmmimaaLegM
import Derived.Test.YtpphcifabmmimaaChK
import Derived.RegionTactic
import Derived.IntWalk
namespace Go.Proofs.Ytpphcifabmmimaa
open Go.ChangeShapes Go.WideShapes Go.ChangeAt Go.RowKit

def modL (l : List (Nat × Int)) : List (Nat × Int) := l.map fun u => (u.1, modA u.2)
def mTo (l : List (Nat × Int)) (k : Nat) : List (Nat × Int) := modL (l.take k) ++ l.drop k
theorem mTo_len (l : List (Nat × Int)) (k : Nat) : (mTo l k).length = l.length := by
  unfold mTo modL
  rw [List.length_append, List.length_map, List.length_take, List.length_drop]
  omega
theorem mTo_at {l : List (Nat × Int)} {k : Nat} (h : k < l.length) : (mTo l k)[k]? = some l[k] := by
  unfold mTo modL
  have hl : ((l.take k).map fun u : Nat × Int => (u.1, modA u.2)).length = k := by rw [List.length_map, List.length_take]; omega
  rw [List.getElem?_append_right (by rw [hl]; exact Nat.le_refl _), hl, Nat.sub_self, List.getElem?_drop, Nat.add_zero, List.getElem?_eq_getElem h]
theorem mTo_step {l : List (Nat × Int)} {k : Nat} (h : k < l.length) : (mTo l k).set k (l[k].1, modA l[k].2) = mTo l (k + 1) := by
  unfold mTo modL
  have hl : ((l.take k).map fun u : Nat × Int => (u.1, modA u.2)).length = k := by rw [List.length_map, List.length_take]; omega
  rw [List.set_append_right _ _ (by rw [hl]; exact Nat.le_refl _), hl, Nat.sub_self, List.drop_eq_getElem_cons h, List.set_cons_zero, List.take_succ_eq_append_getElem h, List.map_append, List.append_assoc]
  rfl
theorem mTo_all (l : List (Nat × Int)) : mTo l l.length = modL l := by
  unfold mTo
  rw [List.take_length, List.drop_length, List.append_nil]
theorem modL_bd {l : List (Nat × Int)} (hn : l.length ≤ 12) (hI : ∀ u ∈ l, LegIn u) : Bd (modL l) := ⟨by unfold modL; rw [List.length_map]; exact hn, fun u hu => by
  obtain ⟨v, hv, rfl⟩ := List.mem_map.1 hu
  exact ⟨(hI v hv).1, modA_bd v.2⟩⟩
theorem bd_leg {l : List (Nat × Int)} (h : Bd l) : ∀ u ∈ l, LegIn u := fun u hu => by
  have := h.b u hu
  exact ⟨this.1, by omega, by omega⟩
theorem own_ptr {e : TypeId} {w : World} {base n c : Nat} {A : Option Addr} {l : List (Nat × Int)} (h : OwnS legT e w base (.slice A n c) n l) (hl : 0 < n) : ∃ g, A = some ⟨g, 0, none⟩ := by
  unfold OwnS at h
  rcases h.2 with ⟨h1, h2⟩ | ⟨g', cap', cur, h1, _⟩
  · omega
  · injection h1 with e1
    exact ⟨g', e1⟩
theorem own_rsL {e : TypeId} {w : World} {base n c : Nat} {A : Option Addr} {l : List (Nat × Int)} (h : OwnS legT e w base (.slice A n c) n l) : Rs legT w w.heap.size A l := by
  obtain ⟨_, A9, c9, he, _, _, hr9⟩ := h.form (by decide)
  injection he with e1
  rw [e1]
  exact hr9
theorem rs_laterL {w w' : World} {A : Option Addr} {l : List (Nat × Int)} (h : Rs legT w w.heap.size A l) (hb : Below w.heap.size w w') : Rs legT w' w'.heap.size A l := (h.below hb).more hb.size
/-- A leg's two cells in an own row. -/
theorem own_cells {e : TypeId} {w : World} {base n c g : Nat} {l : List (Nat × Int)} (h : OwnS legT e w base (.slice (some ⟨g, 0, none⟩) n c) n l) {k : Nat} (hk : k < l.length) :
    w.cell? ⟨g, k * 2, none⟩ = some (.int .u8 (l[k].1 : Int)) ∧ w.cell? ⟨g, k * 2 + 1, none⟩ = some (.int .i64 l[k].2) ∧ (∀ i, w.frozen? ⟨g, i, none⟩ = false) ∧ base ≤ g ∧ g < w.heap.size := by
  have h' := h
  unfold OwnS at h
  rcases h.2 with ⟨h1, _⟩ | ⟨g', cap', cur, h1, h2, hg, h4, h5, h6, ht⟩
  · cases h1
  · injection h1 with e1 e2 e3
    injection e1 with e1
    injection e1 with e1
    subst e1
    obtain ⟨_, A9, c9, he, _, _, hr9⟩ := h'.form (by decide)
    injection he with e4
    obtain ⟨b1, o1, e5, _, y0, y1⟩ := hr9.leg hk
    rw [← e4] at e5
    injection e5 with e5
    injection e5 with e6 e7
    subst e6 e7
    rw [Nat.zero_add] at y0 y1
    exact ⟨y0, y1, fun i => Blk.frozen (show Blk w g e cur from hg) i, h2, (Array.getElem?_eq_some_iff.1 hg).1⟩
theorem own_setM {e : TypeId} {w : World} {base n c g : Nat} {l : List (Nat × Int)} {k : Nat} (h : OwnS legT e w base (.slice (some ⟨g, 0, none⟩) n c) n (mTo l k)) (hk : k < l.length) {z : Int} (hz : z = modA l[k].2) :
    OwnS legT e (w.setCell ⟨g, k * 2 + 1, none⟩ (.int .i64 z)) base (.slice (some ⟨g, 0, none⟩) n c) n (mTo l (k + 1)) := by
  subst hz
  have hk2 : k < (mTo l k).length := by rw [mTo_len]; exact hk
  have h2 := own_setAmt h hk2 (modA l[k].2)
  have e : (mTo l k)[k] = l[k] := by
    have := mTo_at hk
    rw [List.getElem?_eq_getElem hk2] at this
    injection this
  rw [e, mTo_step hk] at h2
  exact h2
theorem flat_set2 : ∀ (l : List (Nat × Int)) (k : Nat) (_ : k < l.length) (u : Nat × Int), ((l.flatMap legT.cells).set (k * 2) (.int .u8 (u.1 : Int))).set (k * 2 + 1) (.int .i64 u.2) = (l.set k u).flatMap legT.cells
  | g :: r, 0, _, u => rfl
  | g :: r, k + 1, hk, u => by
    have ih := flat_set2 r k (by simpa using hk) u
    have e : ∀ x : Nat × Int, legT.cells x = [.int .u8 (x.1 : Int), .int .i64 x.2] := fun x => rfl
    rw [List.flatMap_cons, List.set_cons_succ, List.flatMap_cons, e, ← ih]
    rw [show (k + 1) * 2 + 1 = (k * 2 + 1) + 1 + 1 by omega, show (k + 1) * 2 = (k * 2) + 1 + 1 by omega]
    rfl
/-- A leg of an own row, written over. -/
theorem own_setLeg {e : TypeId} {w : World} {base n c g : Nat} {l : List (Nat × Int)} (h : OwnS legT e w base (.slice (some ⟨g, 0, none⟩) n c) n l) {k : Nat} (hk : k < l.length) (u : Nat × Int) :
    OwnS legT e ((w.setCell ⟨g, k * 2, none⟩ (.int .u8 (u.1 : Int))).setCell ⟨g, k * 2 + 1, none⟩ (.int .i64 u.2)) base (.slice (some ⟨g, 0, none⟩) n c) n (l.set k u) := by
  have hl := h.length (by decide)
  unfold OwnS at h ⊢
  refine ⟨by rw [flatS_len, List.length_set, hl], ?_⟩
  rcases h.2 with ⟨h1, _⟩ | ⟨g', cap', cur, h1, h2, hg, h4, h5, h6, ht⟩
  · cases h1
  · injection h1 with e1 e2 e3
    injection e1 with e1
    injection e1 with e1
    subst e1
    refine .inr ⟨g, cap', (cur.setIfInBounds (k * 2) (.int .u8 (u.1 : Int))).setIfInBounds (k * 2 + 1) (.int .i64 u.2), by rw [e3], h2, ?_, h4, h5, by simp [h6], ?_⟩
    · exact Blk.set_ (Blk.set_ (show Blk w g e cur from hg) (k * 2) (.int .u8 (u.1 : Int))) (k * 2 + 1) (.int .i64 u.2)
    · rw [Array.toList_setIfInBounds, Array.toList_setIfInBounds, List.take_set, List.take_set, ht]
      unfold flatS
      exact flat_set2 l k hk u
/-- What holds at a round's head: the first loop. -/
def L1Rel (l : List (Nat × Int)) (A : Option Addr) (c base : Nat) (w1 : World) (i : Value) (w' : World) : Prop := ∃ k : Nat, k ≤ l.length ∧ i = .int .i64 k ∧ OwnS legT 51 w' base (.slice A l.length c) l.length (mTo l k) ∧ Below w1.heap.size w1 w'
def L2Rel (m : List (Nat × Int)) (A : Option Addr) (c q base : Nat) (w1 : World) (i : Value) (w' : World) : Prop := ∃ k : Nat, ∃ p : List (Nat × Int), k ≤ q ∧ i = .int .i64 k ∧ m.Perm p ∧ OwnS legT 51 w' base (.slice A q c) q p ∧ Below base w1 w'
def L3Rel (w1 : World) (i : Value) (w' : World) : Prop := ∃ k : Nat, k ≤ 12 ∧ i = .int .i64 k ∧ Below w1.heap.size w1 w'
set_option maxRecDepth 100000 in
set_option maxHeartbeats 4000000 in
theorem CLegs_any (y : Ky) (A : Option Addr) (n c a : Nat) (ha : a < 256) (l0 : List (Nat × Int)) (w : World) (hR : Rs legT w w.heap.size A l0) (hn : l0.length = n) (hnc : n ≤ c) (hm : n ≤ maxLen) (hI0 : ∀ u ∈ l0, LegIn u) :
    Calls Try.prog 6 #[y.v, .slice A n c, .int .u8 (a : Int)] w (Ret (.bool true) w) := by
  have HQ0 := Lib.hid (Blk.new w 25 #[.int .u32 (y.a : Int), .int .i32 y.d, .int .u8 (y.k : Int), .int .u32 (y.s : Int)])
  have HB0 := Lib.hid (b_alloc w (.cells #[.int .u32 (y.a : Int), .int .i32 y.d, .int .u8 (y.k : Int), .int .u32 (y.s : Int)] 25))
  have HR0 := Lib.hid (hR.below HB0.out)
  have HN := Lib.hid hn
  have HNC := Lib.hid hnc
  have HM := Lib.hid hm
  have hI1 : ∀ u ∈ l0.take 12, LegIn u := fun u hu => hI0 u (List.mem_of_mem_take hu)
  have hl1 : (l0.take 12).length ≤ 12 := by rw [List.length_take]; omega
  have HI1 := Lib.hid hI1
  have HL1 := Lib.hid hl1
  clear hR hn hnc hm hI0 hI1 hl1
  show Calls Try.prog 6 #[.agg #[.int .u32 (y.a : Int), .int .i32 y.d, .int .u8 (y.k : Int), .int .u32 (y.s : Int)], .slice A n c, .int .u8 (a : Int)] w (Ret (.bool true) w)
  go_enter Try.func6, Try.ntmps6
  go_wp2_with fail
  refine (awake13 _).mono ?_
  rintro e w1 ⟨rfl, hb1⟩
  have HB1 := Lib.hid (HB0.out.trans (hb1.mono HB0.out.size))
  have HQ1 := Lib.hid (HQ0.out.below hb1 HQ0.out.lt)
  have HR1 := Lib.hid (HR0.out.below (hb1.mono HB0.out.size))
  clear hb1 HB0 HQ0 HR0
  go_wp2_with fail
  refine (Few13_any A n c w.heap.size l0 w1 HR1.out HN.out HNC.out HM.out HB1.out.size).mono ?_
  rintro e w2 ⟨A2, c2, rfl, -, -, ho2, hb2⟩
  obtain ⟨l, hl⟩ : ∃ l, l0.take 12 = l := ⟨_, rfl⟩
  rw [hl] at ho2 HI1 HL1 ⊢
  have HO2 := Lib.hid ho2
  have HB2 := Lib.hid hb2
  have hll : l.length ≤ 12 := HL1.out
  clear hl ho2 hb2 HR1 HN HNC HM
  go_wp2_with fail
  go_loopw [23] (L1Rel l A2 c2 w1.heap.size w1) (fun i _ => l.length - (intOf i).toNat)
  case atStart => exact ⟨0, Nat.zero_le _, rfl, HO2.out, HB2.out⟩
  case round =>
    obtain ⟨k, hk, rfl, hown, hbw⟩ := hrel
    have HOW := Lib.hid hown
    have HBW := Lib.hid hbw
    clear hown hbw
    by_cases hlt : k < l.length
    · obtain ⟨gA, rfl⟩ := own_ptr HOW.out (by omega)
      have hk2 : k < (mTo l k).length := by rw [mTo_len]; exact hlt
      obtain ⟨y0, y1, hfr, hbg, hgw⟩ := own_cells HOW.out hk2
      have e9 : (mTo l k)[k] = l[k] := by
        have := mTo_at hlt
        rw [List.getElem?_eq_getElem hk2] at this
        injection this
      rw [e9] at y0 y1
      have hLI := HI1.out l[k] (List.getElem_mem hlt)
      obtain ⟨z, hz⟩ : ∃ z, l[k].2 = z := ⟨_, rfl⟩
      unfold LegIn at hLI
      rw [hz] at y1 hLI
      obtain ⟨-, hz1, hz2⟩ := hLI
      have hf1 := hfr (k * 2 + 1)
      have HZ := Lib.hid hz
      have HLT9 := Lib.hid hlt
      have HBG := Lib.hid hbg
      clear hz y0 hfr e9 hk2 hbg
      go_wp2_with fail
      go_roundw
      case rel => exact ⟨k + 1, HLT9.out, by go_num, own_setM HOW.out HLT9.out (by rw [HZ.out]; rfl), HBW.out.setCell HBG.out _ (p := ⟨gA, k * 2 + 1, none⟩)⟩
      case measure =>
        have := HLT9.out
        simp [intOf]
        omega
    · have hkn : k = l.length := by omega
      subst hkn
      obtain ⟨m, hm⟩ : ∃ m, modL l = m := ⟨_, rfl⟩
      have hbm : Bd m := by rw [← hm]; exact modL_bd HL1.out HI1.out
      have hmq : m.length = l.length := by rw [← hm]; unfold modL; rw [List.length_map]
      obtain ⟨q, hq⟩ : ∃ q, l.length = q := ⟨_, rfl⟩
      have ho3 := HOW.out
      rw [mTo_all, hm, hq] at ho3
      rw [hq] at hmq hll ⊢
      obtain ⟨w3, rfl⟩ : ∃ W, W = wr := ⟨_, rfl⟩
      have HO3 := Lib.hid ho3
      have HQ3 := Lib.hid (HQ1.out.below HBW.out HQ1.out.lt)
      have HB3 := Lib.hid (HB1.out.trans (HBW.out.mono HB1.out.size))
      have HM3 := Lib.hid hbm
      have HMQ := Lib.hid hmq
      clear ho3 HOW HBW HQ1 HB1 HO2 HB2 HI1 HL1 hk hlt hbm hmq hm hq
      have c0 := HQ3.out.cell 0
      have c1 := HQ3.out.cell 1
      have c2' := HQ3.out.cell 2
      have c3 := HQ3.out.cell 3
      simp at c0 c1 c2' c3
      go_wp2_with fail
      refine (Make_any y A2 q c2 w3.heap.size m w3 (own_rsL HO3.out) HMQ.out (by omega) (Nat.le_refl _) (bd_leg HM3.out)).mono ?_
      rintro e w4 ⟨A4, c4, rfl, ho4, hb4⟩
      have HQ4 := Lib.hid (HQ3.out.below hb4 HQ3.out.lt)
      have HO4 := Lib.hid (HO3.out.below hb4)
      have HB4 := Lib.hid (HB3.out.trans (hb4.mono HB3.out.size))
      have HR4 := Lib.hid (own_rsL ho4)
      clear c0 c1 c2' c3 ho4 hb4 HQ3 HO3 HB3
      obtain ⟨ma, hma⟩ : ∃ k, (mkL m).length = k := ⟨_, rfl⟩
      rw [hma]
      have HMA := Lib.hid hma
      clear hma
      unfold entV entC
      have hw5 : ∃ W G, w4.alloc (.cells #[.int .u32 (y.a : Int), .int .i32 y.d, .int .u8 (y.k : Int), .int .u32 (y.s : Int), .slice A4 ma c4] 30) = W ∧ w4.heap.size = G := ⟨_, _, rfl, rfl⟩
      obtain ⟨w5, g8, hW, hG⟩ := hw5
      have hq5 := HQ4.out.alloc (.cells #[.int .u32 (y.a : Int), .int .i32 y.d, .int .u8 (y.k : Int), .int .u32 (y.s : Int), .slice A4 ma c4] 30)
      have ho5 := HO4.out.alloc (.cells #[.int .u32 (y.a : Int), .int .i32 y.d, .int .u8 (y.k : Int), .int .u32 (y.s : Int), .slice A4 ma c4] 30)
      have hb5 := HB4.out.alloc HB4.out.size (.cells #[.int .u32 (y.a : Int), .int .i32 y.d, .int .u8 (y.k : Int), .int .u32 (y.s : Int), .slice A4 ma c4] 30)
      have hr5 := rs_laterL HR4.out (b_alloc w4 (.cells #[.int .u32 (y.a : Int), .int .i32 y.d, .int .u8 (y.k : Int), .int .u32 (y.s : Int), .slice A4 ma c4] 30))
      have he5 := Blk.new w4 30 #[.int .u32 (y.a : Int), .int .i32 y.d, .int .u8 (y.k : Int), .int .u32 (y.s : Int), .slice A4 ma c4]
      rw [hW] at hq5 ho5 hb5 hr5 he5
      rw [hG] at he5
      have HQ5 := Lib.hid hq5
      have HO5 := Lib.hid ho5
      have HB5 := Lib.hid hb5
      have HR5 := Lib.hid hr5
      have HE5 := Lib.hid he5
      have HO6 := Lib.hid (OwnS.made (T := legT) (e := 51) w5 (cap := 0) (cur := #[]) (b := w5.heap.size) (Nat.le_refl _) (by decide) rfl)
      have HB6 := Lib.hid (b_alloc w5 (.cells #[] 51))
      have HR6 := Lib.hid (rs_laterL (own_rsL HO5.out) HB6.out)
      have HRS6 := Lib.hid HR6.out
      clear hq5 ho5 hb5 hr5 he5 HQ4 HO4 HB4 HR4
      go_upto_region 10 with (fail)
      clear hW hG
      go_wp2_with (with_reducible refine wpList_appendS (o := ⟨some 40, _, _, _, _, _⟩) rfl rowLeg (.tmp 38) (.tmp 39) rfl w5.heap.size _ 0 [] ?g1 HO6.out _ A2 q c2 m ?g2 HR6.out HMQ.out ?g3 ?g4 ?g5 ?_)
      try (case g1 => rfl)
      try (case g2 => rfl)
      try (case g3 => unfold maxLen; omega)
      try (case g4 => omega)
      try (case g5 => simp)
      intro v1 w7 ho7 hg7 _ _
      try simp only [Nat.zero_add, List.nil_append] at ho7
      have hb7 : Below w5.heap.size w5 w7 := HB6.out.grown hg7 HB6.out.size (fun g hg => (HO6.out.lt g hg).1)
      obtain ⟨_, A7, c7, rfl, -, -, _⟩ := ho7.form (by decide)
      have HO7 := Lib.hid ho7
      have HB7 := Lib.hid hb7
      clear ho7 hg7 hb7 HO6 HB6 HR6 HRS6
      go_wp2_with fail
      go_loopw [43] (L2Rel m A7 c7 q w5.heap.size w5) (fun i _ => q - (intOf i).toNat)
      case atStart => exact ⟨0, m, Nat.zero_le _, rfl, List.Perm.refl _, HO7.out, HB7.out⟩
      case round =>
        obtain ⟨k, p, hk, rfl, hpm, hop, hbw⟩ := hrel
        obtain ⟨wq, rfl⟩ : ∃ W, W = wr := ⟨_, rfl⟩
        have HP := Lib.hid hpm
        have HOP := Lib.hid hop
        have HBW := Lib.hid hbw
        have hpq : p.length = q := by rw [← hpm.length_eq]; exact HMQ.out
        clear hpm hop hbw
        by_cases hlt : k < q
        · obtain ⟨gA, rfl⟩ := own_ptr HOP.out (by omega)
          have hkp : k < p.length := by omega
          obtain ⟨j, hj⟩ : ∃ j, (k + a) % q = j := ⟨_, rfl⟩
          have hjq : j < q := by rw [← hj]; exact Nat.mod_lt _ (by omega)
          have hjp : j < p.length := by omega
          have hje : ((k : Int) + (a : Int)).tmod (q : Int) = (j : Int) := by
            rw [Int.tmod_eq_emod_of_nonneg (by omega), ← hj]
            push_cast
            rfl
          obtain ⟨x0, x1, hfr, hbg, hgw⟩ := own_cells HOP.out hkp
          obtain ⟨y0, y1, -, -, -⟩ := own_cells HOP.out hjp
          have HLT9 := Lib.hid hlt
          have hpk : p[k] = p[k] := rfl
          obtain ⟨xk, hxk⟩ : ∃ x, p[k].1 = x := ⟨_, rfl⟩
          obtain ⟨zk, hzk⟩ : ∃ z, p[k].2 = z := ⟨_, rfl⟩
          obtain ⟨xj, hxj⟩ : ∃ x, p[j].1 = x := ⟨_, rfl⟩
          obtain ⟨zj, hzj⟩ : ∃ z, p[j].2 = z := ⟨_, rfl⟩
          rw [hxk] at x0
          rw [hzk] at x1
          rw [hxj] at y0
          rw [hzj] at y1
          have HX := Lib.hid (And.intro (And.intro hxk hzk) (And.intro hxj hzj))
          have HJ := Lib.hid hjp
          have HK := Lib.hid hkp
          go_upto_region 15 with (fail)
          have f0 := hfr (k * 2)
          have f1 := hfr (k * 2 + 1)
          have f2 := hfr (j * 2)
          have f3 := hfr (j * 2 + 1)
          have HF := Lib.hid hfr
          have HBG := Lib.hid hbg
          have HGW := Lib.hid hgw
          have hs1 := own_setLeg HOP.out hkp (xj, zj)
          have hjs : j < (p.set k (xj, zj)).length := by rw [List.length_set]; exact hjp
          obtain ⟨u0, u1, hfr2, -, -⟩ := own_cells hs1 hjs
          have hs2 := own_setLeg hs1 hjs (xk, zk)
          have hpp : p.Perm ((p.set k (xj, zj)).set j (xk, zk)) := by
            have h := swap_perm p hkp hjp
            rw [show p[j] = (xj, zj) from Prod.ext HX.out.2.1 HX.out.2.2, show p[k] = (xk, zk) from Prod.ext HX.out.1.1 HX.out.1.2] at h
            exact h
          have HPP := Lib.hid hpp
          clear hpp
          have HS2 := Lib.hid hs2
          obtain ⟨v0, hv0⟩ : ∃ v, ((p.set k (xj, zj))[j]'hjs).1 = v := ⟨_, rfl⟩
          obtain ⟨v1, hv1⟩ : ∃ v, ((p.set k (xj, zj))[j]'hjs).2 = v := ⟨_, rfl⟩
          rw [hv0] at u0
          rw [hv1] at u1
          have f4 := hfr2 (j * 2)
          have f5 := hfr2 (j * 2 + 1)
          clear hv0 hv1 hs1 hs2 hfr2 hjs
          clear hpk hxk hzk hxj hzj hfr hbg hgw hje hj
          go_region
          obtain ⟨V, hV⟩ : ∃ V, ((((wq.setCell ⟨gA, k * 2, none⟩ (.int .u8 (xj : Int))).setCell ⟨gA, k * 2 + 1, none⟩ (.int .i64 zj)).setCell ⟨gA, j * 2, none⟩ (.int .u8 (xk : Int))).setCell ⟨gA, j * 2 + 1, none⟩ (.int .i64 zk)).drew = V := ⟨_, rfl⟩
          have hs3 := HS2.out.below (Below.refl _ _).drew
          have hb3 := ((((HBW.out.setCell HBG.out (.int .u8 (xj : Int)) (p := ⟨gA, k * 2, none⟩)).setCell HBG.out (.int .i64 zj) (p := ⟨gA, k * 2 + 1, none⟩)).setCell HBG.out (.int .u8 (xk : Int)) (p := ⟨gA, j * 2, none⟩)).setCell HBG.out (.int .i64 zk) (p := ⟨gA, j * 2 + 1, none⟩)).drew
          rw [hV] at hs3 hb3 ⊢
          have HS3 := Lib.hid hs3
          have HB3 := Lib.hid hb3
          clear hs3 hb3 hV x0 x1 y0 y1 u0 u1 f0 f1 f2 f3 f4 f5 HS2 HOP HBW
          go_wp2_with fail
          go_roundw
          case rel => exact ⟨k + 1, _, HLT9.out, by go_num, HP.out.trans HPP.out, HS3.out, HB3.out⟩
          case measure =>
            have := HLT9.out
            simp [intOf]
            omega
        · have hkn : q = k := by omega
          subst hkn
          have hq8 := HQ5.out.below HBW.out HQ5.out.lt
          have he8 := HE5.out.below HBW.out HE5.out.lt
          have hr8 := rs_laterL HR5.out HBW.out
          have hl8 := rs_laterL (own_rsL HO5.out) HBW.out
          have hb8 := HB5.out.trans (HBW.out.mono HB5.out.size)
          have ho8 := own_rsL HOP.out
          have HQ8 := Lib.hid hq8
          have HE8 := Lib.hid he8
          have HR8 := Lib.hid hr8
          have HL8 := Lib.hid hl8
          have HB8 := Lib.hid hb8
          have HO8 := Lib.hid ho8
          have HPQ := Lib.hid hpq
          have hbp : Bd p := bd_perm HP.out HM3.out
          have HBP := Lib.hid hbp
          clear hq8 he8 hr8 hl8 hb8 ho8 hpq hbp HQ5 HE5 HR5 HO5 HB5 HBW HOP HO7 HB7 hk hlt
          have c0 := HQ8.out.cell 0
          have c1 := HQ8.out.cell 1
          have c2' := HQ8.out.cell 2
          have c3 := HQ8.out.cell 3
          simp at c0 c1 c2' c3
          go_wp2_with fail
          refine (Make_any y A7 q c7 wq.heap.size p wq HO8.out HPQ.out (by omega) (Nat.le_refl _) (bd_leg HBP.out)).mono ?_
          rintro e w9 ⟨A9, c9, rfl, ho9, hb9⟩
          rw [← mkL_perm HP.out HM3.out] at ho9 ⊢
          rw [HMA.out] at ho9 ⊢
          have HQ9 := Lib.hid (HQ8.out.below hb9 HQ8.out.lt)
          have HE9 := Lib.hid (HE8.out.below hb9 HE8.out.lt)
          have HR9 := Lib.hid (rs_laterL HR8.out hb9)
          have HL9 := Lib.hid (rs_laterL HL8.out hb9)
          have HO9 := Lib.hid (own_rsL ho9)
          have HB9 := Lib.hid (HB8.out.trans (hb9.mono HB8.out.size))
          clear c0 c1 c2' c3 ho9 hb9 HQ8 HE8 HR8 HL8 HO8 HB8 HPQ HBP HP
          unfold entV entC
          have hwA : ∃ W G, w9.alloc (.cells #[.int .u32 (y.a : Int), .int .i32 y.d, .int .u8 (y.k : Int), .int .u32 (y.s : Int), .slice A9 ma c9] 30) = W ∧ w9.heap.size = G := ⟨_, _, rfl, rfl⟩
          obtain ⟨wA, gB, hW, hG⟩ := hwA
          have heA := HE9.out.alloc (.cells #[.int .u32 (y.a : Int), .int .i32 y.d, .int .u8 (y.k : Int), .int .u32 (y.s : Int), .slice A9 ma c9] 30)
          have hrA := rs_laterL HR9.out (b_alloc w9 (.cells #[.int .u32 (y.a : Int), .int .i32 y.d, .int .u8 (y.k : Int), .int .u32 (y.s : Int), .slice A9 ma c9] 30))
          have hlA := rs_laterL HL9.out (b_alloc w9 (.cells #[.int .u32 (y.a : Int), .int .i32 y.d, .int .u8 (y.k : Int), .int .u32 (y.s : Int), .slice A9 ma c9] 30))
          have hoA := rs_laterL HO9.out (b_alloc w9 (.cells #[.int .u32 (y.a : Int), .int .i32 y.d, .int .u8 (y.k : Int), .int .u32 (y.s : Int), .slice A9 ma c9] 30))
          have hbA := HB9.out.alloc HB9.out.size (.cells #[.int .u32 (y.a : Int), .int .i32 y.d, .int .u8 (y.k : Int), .int .u32 (y.s : Int), .slice A9 ma c9] 30)
          have hfA := Blk.new w9 30 #[.int .u32 (y.a : Int), .int .i32 y.d, .int .u8 (y.k : Int), .int .u32 (y.s : Int), .slice A9 ma c9]
          rw [hW] at heA hrA hlA hoA hbA hfA
          rw [hG] at hfA
          have HEA := Lib.hid heA
          have HRA := Lib.hid hrA
          have HLA := Lib.hid hlA
          have HOA := Lib.hid hoA
          have HBA := Lib.hid hbA
          have HFA := Lib.hid hfA
          clear heA hrA hlA hoA hbA hfA HQ9 HE9 HR9 HL9 HO9 HB9
          go_upto_region 18 with (fail)
          clear hW hG
          go_wp2_with fail
          go_loopw [71] (L3Rel wA) (fun i _ => 12 - (intOf i).toNat)
          case atStart => exact ⟨0, Nat.zero_le _, rfl, Below.refl _ _⟩
          case round =>
            obtain ⟨k, hk, rfl, hbw⟩ := hrel
            obtain ⟨wB, rfl⟩ : ∃ W, W = wr := ⟨_, rfl⟩
            have HBW := Lib.hid hbw
            clear hbw
            by_cases hlt : k < 12
            · have HLT9 := Lib.hid hlt
              go_upto_region 22 with (fail)
              go_wp2_with fail
              go_loopw [14, 76] (fun s i wr => ∃ j : Nat, j ≤ q ∧ i = .int .i64 j ∧ s = .int .i64 (psum (m.take j) k) ∧ Below wA.heap.size wA wr) (fun _ i _ => q - (intOf i).toNat)
              case atStart => exact ⟨0, Nat.zero_le _, rfl, by simp [psum], HBW.out⟩
              case round =>
                obtain ⟨j, hj, rfl, rfl, hbw2⟩ := hrel
                obtain ⟨wC, rfl⟩ : ∃ W, W = wr := ⟨_, rfl⟩
                by_cases hlj : j < q
                · have hjm : j < m.length := by rw [HMQ.out]; exact hlj
                  obtain ⟨b1, o1, rfl, hb1, y0, y1⟩ := (HLA.out.below hbw2).leg hjm
                  have hps := psum_bd (l := m.take j) (fun u hu => HM3.out.b u (List.mem_of_mem_take hu)) k
                  have hnx := psum_snoc (m.take j) m[j] k
                  rw [← List.take_succ_eq_append_getElem hjm] at hnx
                  rw [List.length_take, HMQ.out, Nat.min_eq_left hj] at hps
                  have hxb := HM3.out.b m[j] (List.getElem_mem hjm)
                  obtain ⟨x, hx⟩ : ∃ x, m[j].1 = x := ⟨_, rfl⟩
                  obtain ⟨z, hz⟩ : ∃ z, m[j].2 = z := ⟨_, rfl⟩
                  obtain ⟨S, hS⟩ : ∃ S, psum (m.take j) k = S := ⟨_, rfl⟩
                  rw [hx] at y0
                  rw [hz] at y1
                  rw [hx, hz] at hxb hnx
                  rw [hS] at hps hnx ⊢
                  obtain ⟨hx1, hz1, hz2⟩ := hxb
                  have hS1 : -12000000 ≤ S := by omega
                  have hS2 : S ≤ 12000000 := by omega
                  have HNX := Lib.hid hnx
                  have HB2 := Lib.hid (hbw2.alloc hbw2.size (.cells #[.int .u8 (x : Int), .int .i64 z] 51))
                  have HLJ := Lib.hid hlj
                  clear hnx hps hx hz hS hbw2 hjm hb1
                  by_cases hxk : k = x
                  · subst hxk
                    go_wp2_with fail
                    go_roundw
                    case rel => exact ⟨j + 1, HLJ.out, by go_num, by rw [HNX.out, if_pos rfl], HB2.out⟩
                    case measure =>
                      have := HLJ.out
                      simp [intOf]
                      omega
                  · have hxi : ¬ (x : Int) = (k : Int) := by omega
                    go_wp2_with fail
                    go_roundw
                    case rel => exact ⟨j + 1, HLJ.out, by go_num, by rw [HNX.out, if_neg (fun e => hxk e.symm), Int.add_zero], HB2.out⟩
                    case measure =>
                      have := HLJ.out
                      simp [intOf]
                      omega
                · have hkn : q = j := by omega
                  subst hkn
                  have ht : m.take q = m := by rw [List.take_of_length_le (by rw [HMQ.out]; exact Nat.le_refl _)]
                  rw [ht]
                  have hof := of_mk HM3.out (a := k) (by omega)
                  obtain ⟨S, hS⟩ : ∃ S, psum m k = S := ⟨_, rfl⟩
                  rw [hS] at hof ⊢
                  have heC := HEA.out.below hbw2 HEA.out.lt
                  have hrC := rs_laterL HRA.out hbw2
                  have HRC := Lib.hid hrC
                  have HB2 := Lib.hid hbw2
                  have HOF := Lib.hid hof
                  have x0 := heC.cell 0
                  have x1 := heC.cell 1
                  have x2 := heC.cell 2
                  have x3 := heC.cell 3
                  have x4 := heC.cell 4
                  simp at x0 x1 x2 x3 x4
                  clear heC hrC hof hbw2 hj hlj hS ht
                  go_wp2_with fail
                  refine (Of_any y A4 ma c4 _ k (mkL m) wC HRC.out HMA.out (by have := mkL_len m; rw [HMA.out] at this; omega) (Nat.le_refl _) (by omega)).mono ?_
                  rintro e wD ⟨rfl, hbD⟩
                  rw [HOF.out]
                  have HBD := Lib.hid (HB2.out.trans (hbD.mono HB2.out.size))
                  clear x0 x1 x2 x3 x4 hbD
                  go_wp2_with fail
                  go_roundw
                  case rel => exact ⟨k + 1, HLT9.out, by go_num, HBD.out⟩
                  case measure =>
                    have := HLT9.out
                    simp [intOf]
                    omega
            · have hkn : 12 = k := by omega
              subst hkn
              have heC := HEA.out.below HBW.out HEA.out.lt
              have hfC := HFA.out.below HBW.out HFA.out.lt
              have hrC := rs_laterL HRA.out HBW.out
              have hoC := rs_laterL HOA.out HBW.out
              have hbC := HBA.out.trans (HBW.out.mono HBA.out.size)
              have HRC := Lib.hid hrC
              have HOC := Lib.hid hoC
              have HBC := Lib.hid hbC
              have x0 := heC.cell 0
              have x1 := heC.cell 1
              have x2 := heC.cell 2
              have x3 := heC.cell 3
              have x4 := heC.cell 4
              have u0 := hfC.cell 0
              have u1 := hfC.cell 1
              have u2 := hfC.cell 2
              have u3 := hfC.cell 3
              have u4 := hfC.cell 4
              simp at x0 x1 x2 x3 x4 u0 u1 u2 u3 u4
              clear hrC hoC hbC heC hfC hk hlt
              go_wp2_with fail
              refine (SameK_any y A4 A9 ma ma c4 c9 _ _ (mkL m) (mkL m) wB HRC.out HMA.out (by have := mkL_len m; rw [HMA.out] at this; omega) (Nat.le_refl _) HOC.out HMA.out (by have := mkL_len m; rw [HMA.out] at this; omega) (Nat.le_refl _)).mono ?_
              rintro e wC ⟨rfl, hbC⟩
              have HBD := Lib.hid (HBC.out.trans (hbC.mono HBC.out.size))
              clear x0 x1 x2 x3 x4 u0 u1 u2 u3 u4 hbC
              go_wp2_with fail
              go_ret
              exact ⟨by first | rfl | simp, HBD.out⟩
end Go.Proofs.Ytpphcifabmmimaa
