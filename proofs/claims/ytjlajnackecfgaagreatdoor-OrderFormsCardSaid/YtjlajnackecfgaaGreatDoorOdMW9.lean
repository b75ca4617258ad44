/-
order.Read: of any text an order that has it, or none. Conditions: what is laid.
The document's example of an order. Conditions: what is laid.
-/
import Derived.Test.YtjlajnackecfgaaGreatDoorOdKW9
namespace Go.Proofs.YtjlajnackecfgaaGreatDoor
open Go.ChangeShapes Go.WideShapes Go.ChangeAt Go.RowKit Go.Shelf
def zeroO : Array Value := #[.int .u8 0, .int .u32 0, .int .u8 0, .int .i64 0, .int .u32 0, .int .u8 0, .int .i64 0, .int .i32 0, .int .i64 0, .int .i64 0, .int .u32 0, .int .i32 0, .int .u8 0, .int .i64 0]
/-- What Read tells of what is read. -/
def RdP (P : Ord → Prop) (s : ByteArray) (w : World) (e : Ending) (w' : World) : Prop := ((∃ o, P o ∧ o.Right ∧ o.text = s ∧ e = .returned (.tuple #[Ord.v o, .nilIface])) ∨ ((∃ o, P o ∧ (s.toList = [] ∨ ¬ (o.Right ∧ o.text = s))) ∧ e = .returned (.tuple #[.agg zeroO, .iface 54 (.int .i64 15)]))) ∧ Below w.heap.size w w'
set_option maxRecDepth 100000 in
set_option maxHeartbeats 4000000 in
theorem Read_of {s : ByteArray} {Pr : Ord → Prop} (cR : ∀ W, TLd W → Calls Tryz.prog 41 #[.string s] W (OrP Pr W)) (hPI : ∀ o, Pr o → o.Right → o.In) (w : World) (hl : TLd w) :
    Calls Tryz.prog 19 #[.string s] w (RdP Pr s w) := by
  have HR0 := Lib.hid (Blk.new w 32 #[.int .u8 0, .int .u32 0, .int .u8 0, .int .i64 0, .int .u32 0, .int .u8 0, .int .i64 0, .int .i32 0, .int .i64 0, .int .i64 0, .int .u32 0, .int .i32 0, .int .u8 0, .int .i64 0])
  have HB0 := Lib.hid (b_alloc w (.cells #[.int .u8 0, .int .u32 0, .int .u8 0, .int .i64 0, .int .u32 0, .int .u8 0, .int .i64 0, .int .i32 0, .int .i64 0, .int .i64 0, .int .u32 0, .int .i32 0, .int .u8 0, .int .i64 0] 32))
  have HL0 := Lib.hid (hl.below HB0.out)
  clear hl
  obtain ⟨b, hb0⟩ : ∃ b, decide (s.toList = []) = b := ⟨_, rfl⟩
  have x0 : s.toList.isEmpty = b := by rw [← hb0]; cases s.toList <;> simp
  have x1 : (s.toList == []) = b := by rw [← hb0]; cases s.toList <;> simp
  have HX0 := Lib.hid hb0
  clear hb0
  go_enter Tryz.func19, Tryz.ntmps19
  go_wp2_with fail
  refine (cR _ HL0.out).mono ?_
  rintro e w1 ⟨⟨o, hP, rfl⟩, hb⟩
  have HB1 := Lib.hid (HB0.out.trans (hb.mono HB0.out.size))
  have HR1 := Lib.hid (HR0.out.below hb HR0.out.lt)
  have HL1 := Lib.hid (HL0.out.below hb)
  have HP := Lib.hid hP
  clear hb HB0 HR0 HL0 cR hP
  have cT : o.Right → ∀ W, TLd W → Calls Tryz.prog 20 #[o.v] W (Ret (.string o.text) W) := fun h W hl => OText_yes (hPI _ HP.out h) h W hl
  have cF : ¬ o.Right → ∀ W, Calls Tryz.prog 20 #[o.v] W (Ret (.string ⟨#[]⟩) W) := fun h W => OText_no h W
  have hRt := Classical.em o.Right
  obtain ⟨tx, htx⟩ : ∃ tx, o.text = tx := ⟨_, rfl⟩
  rw [htx] at cT
  have HTX0 := Lib.hid htx
  clear htx
  obtain ⟨k, a, ⟨K, P, R, B, M, S, F, G⟩, s1, d, ek, m⟩ := o
  change _ → ∀ W, TLd W → Calls Tryz.prog _ #[.agg #[.int .u8 (k : Int), .int .u32 (a : Int), .int .u8 (K : Int), .int .i64 P, .int .u32 (R : Int), .int .u8 (B : Int), .int .i64 M, .int .i32 S, .int .i64 F, .int .i64 G, .int .u32 (s1 : Int), .int .i32 d, .int .u8 (ek : Int), .int .i64 m]] W _ at cT
  change _ → ∀ W, Calls Tryz.prog _ #[.agg #[.int .u8 (k : Int), .int .u32 (a : Int), .int .u8 (K : Int), .int .i64 P, .int .u32 (R : Int), .int .u8 (B : Int), .int .i64 M, .int .i32 S, .int .i64 F, .int .i64 G, .int .u32 (s1 : Int), .int .i32 d, .int .u8 (ek : Int), .int .i64 m]] W _ at cF
  have hG5 := Blk.new w1 32 #[.int .u8 (k : Int), .int .u32 (a : Int), .int .u8 (K : Int), .int .i64 P, .int .u32 (R : Int), .int .u8 (B : Int), .int .i64 M, .int .i32 S, .int .i64 F, .int .i64 G, .int .u32 (s1 : Int), .int .i32 d, .int .u8 (ek : Int), .int .i64 m]
  have hR5 := HR1.out.alloc (.cells #[.int .u8 (k : Int), .int .u32 (a : Int), .int .u8 (K : Int), .int .i64 P, .int .u32 (R : Int), .int .u8 (B : Int), .int .i64 M, .int .i32 S, .int .i64 F, .int .i64 G, .int .u32 (s1 : Int), .int .i32 d, .int .u8 (ek : Int), .int .i64 m] 32)
  have hB5 := HB1.out.alloc HB1.out.size (.cells #[.int .u8 (k : Int), .int .u32 (a : Int), .int .u8 (K : Int), .int .i64 P, .int .u32 (R : Int), .int .u8 (B : Int), .int .i64 M, .int .i32 S, .int .i64 F, .int .i64 G, .int .u32 (s1 : Int), .int .i32 d, .int .u8 (ek : Int), .int .i64 m] 32)
  have hL5 := HL1.out.below (b_alloc w1 (.cells #[.int .u8 (k : Int), .int .u32 (a : Int), .int .u8 (K : Int), .int .i64 P, .int .u32 (R : Int), .int .u8 (B : Int), .int .i64 M, .int .i32 S, .int .i64 F, .int .i64 G, .int .u32 (s1 : Int), .int .i32 d, .int .u8 (ek : Int), .int .i64 m] 32))
  have hrg : w.heap.size < w1.heap.size := HR1.out.lt
  obtain ⟨w5, hw5⟩ : ∃ W, w1.alloc (.cells #[.int .u8 (k : Int), .int .u32 (a : Int), .int .u8 (K : Int), .int .i64 P, .int .u32 (R : Int), .int .u8 (B : Int), .int .i64 M, .int .i32 S, .int .i64 F, .int .i64 G, .int .u32 (s1 : Int), .int .i32 d, .int .u8 (ek : Int), .int .i64 m] 32) = W := ⟨_, rfl⟩
  obtain ⟨g, hg⟩ : ∃ g, w1.heap.size = g := ⟨_, rfl⟩
  obtain ⟨r, hr⟩ : ∃ r, w.heap.size = r := ⟨_, rfl⟩
  rw [hw5, hg] at hG5
  rw [hw5, hr] at hR5
  rw [hw5] at hB5 hL5
  rw [hg, hr] at hrg
  have HG5 := Lib.hid hG5
  have HR5 := Lib.hid hR5
  have HB5 := Lib.hid hB5
  have HL5 := Lib.hid hL5
  have HX := Lib.hid (And.intro hr hrg)
  have HW := Lib.hid (And.intro hw5 (And.intro hg hr))
  clear hG5 hR5 hB5 hL5 hw5 hg hr hrg HB1 HR1 HL1 hPI
  unfold Ord.v Ord.cs
  dsimp only
  go_upto_region 2 with (fail)
  rw [HW.out.1, HW.out.2.1, HW.out.2.2]
  clear HW
  cases b
  · rcases hRt with hRt | hRt
    · have cT := cT hRt
      have HRT := Lib.hid hRt
      clear cF hRt
      by_cases hq : tx = s
      · have y0 : (tx.toList != s.toList) = false := by rw [hq]; simp
        have y2 : (tx.toList == s.toList) = true := by rw [hq]; simp
        have HTX := Lib.hid (HTX0.out.trans hq)
        clear hq HTX0
        obtain ⟨z0, z1, z2, z3, z4, z5, z6, z7, z8, z9, z10, z11, z12, z13⟩ := blk14 HG5.out
        go_wp2_with fail
        refine (cT _ HL5.out).mono ?_
        rintro e w6 ⟨rfl, hb⟩
        have HB6 := Lib.hid (HB5.out.trans (hb.mono (by have := HB5.out.size; omega)))
        have HR6 := Lib.hid (HR5.out.below hb HR5.out.lt)
        have HG6 := Lib.hid (HG5.out.below hb HG5.out.lt)
        clear hb HB5 HR5 HG5 HL5 cT z0 z1 z2 z3 z4 z5 z6 z7 z8 z9 z10 z11 z12 z13
        go_wp2_with (first | (with_reducible refine wpl_loadB (o := ⟨some 17, _, _, _, _, _⟩) rfl 32 (.tmp 4) rfl g 0 rfl HG6.out #[.int .u8 (k : Int), .int .u32 (a : Int), .int .u8 (K : Int), .int .i64 P, .int .u32 (R : Int), .int .u8 (B : Int), .int .i64 M, .int .i32 S, .int .i64 F, .int .i64 G, .int .u32 (s1 : Int), .int .i32 d, .int .u8 (ek : Int), .int .i64 m] ?g1 ?g2 ?_) | (with_reducible refine wpl_storeA (o := ⟨none, _, _, _, _, _⟩) rfl 32 (.tmp 2) (.tmp 17) rfl r rfl #[.int .u8 (k : Int), .int .u32 (a : Int), .int .u8 (K : Int), .int .i64 P, .int .u32 (R : Int), .int .u8 (B : Int), .int .i64 M, .int .i32 S, .int .i64 F, .int .i64 G, .int .u32 (s1 : Int), .int .i32 d, .int .u8 (ek : Int), .int .i64 m] rfl HR6.out ?g5 ?g6 ?g7 ?_))
        case g1 => exact part_of (by rfl)
        case g2 => exact rowOr
        case g5 => rfl
        case g6 => exact rowOr
        case g7 => simp [Value.oneCell']
        intro w10 ho hY10
        have hB10 := HB6.out.trans (below_only ho (show w.heap.size ≤ r by have := HX.out; omega))
        go_wp2_with fail
        obtain ⟨r0, r1, r2, r3, r4, r5, r6, r7, r8, r9, r10, r11, r12, r13⟩ := blk14 hY10
        refine bodyPost_ret (v := .tuple #[.agg #[.int .u8 (k : Int), .int .u32 (a : Int), .int .u8 (K : Int), .int .i64 P, .int .u32 (R : Int), .int .u8 (B : Int), .int .i64 M, .int .i32 S, .int .i64 F, .int .i64 G, .int .u32 (s1 : Int), .int .i32 d, .int .u8 (ek : Int), .int .i64 m], .nilIface]) ?_ rfl ⟨.inl ⟨_, HP.out, HRT.out, HTX.out, rfl⟩, hB10⟩
        simp [results, Tryz.results19, go_sem, Result.andThen, r0, r1, r2, r3, r4, r5, r6, r7, r8, r9, r10, r11, r12, r13]
      · have y0 : (tx.toList != s.toList) = true := by
          rw [bne_iff_ne, Lib.toList_data, Lib.toList_data]
          exact fun e => hq (bytes_inj _ _ e)
        have y2 : (tx.toList == s.toList) = false := by
          rw [beq_eq_false_iff_ne, Lib.toList_data, Lib.toList_data]
          exact fun e => hq (bytes_inj _ _ e)
        have HQ := Lib.hid hq
        clear hq
        obtain ⟨z0, z1, z2, z3, z4, z5, z6, z7, z8, z9, z10, z11, z12, z13⟩ := blk14 HG5.out
        go_wp2_with fail
        refine (cT _ HL5.out).mono ?_
        rintro e w6 ⟨rfl, hb⟩
        have HB6 := Lib.hid (HB5.out.trans (hb.mono (by have := HB5.out.size; omega)))
        have HR6 := Lib.hid (HR5.out.below hb HR5.out.lt)
        clear hb HB5 HR5 HG5 HL5 cT z0 z1 z2 z3 z4 z5 z6 z7 z8 z9 z10 z11 z12 z13
        go_wp2_with (with_reducible refine wpl_storeA (o := ⟨none, _, _, _, _, _⟩) rfl 32 (.tmp 2) (.tmp 15) rfl r rfl #[.int .u8 0, .int .u32 0, .int .u8 0, .int .i64 0, .int .u32 0, .int .u8 0, .int .i64 0, .int .i32 0, .int .i64 0, .int .i64 0, .int .u32 0, .int .i32 0, .int .u8 0, .int .i64 0] rfl HR6.out ?g5 ?g6 ?g7 ?_)
        case g5 => rfl
        case g6 => exact rowOr
        case g7 => simp [Value.oneCell']
        intro w10 ho hY10
        have hB10 := HB6.out.trans (below_only ho (show w.heap.size ≤ r by have := HX.out; omega))
        go_wp2_with fail
        obtain ⟨r0, r1, r2, r3, r4, r5, r6, r7, r8, r9, r10, r11, r12, r13⟩ := blk14 hY10
        refine bodyPost_ret (v := .tuple #[.agg #[.int .u8 0, .int .u32 0, .int .u8 0, .int .i64 0, .int .u32 0, .int .u8 0, .int .i64 0, .int .i32 0, .int .i64 0, .int .i64 0, .int .u32 0, .int .i32 0, .int .u8 0, .int .i64 0], .iface 54 (.int .i64 15)]) ?_ rfl ⟨.inr ⟨⟨_, HP.out, .inr (fun h => HQ.out (HTX0.out.symm.trans h.2))⟩, rfl⟩, hB10⟩
        simp [results, Tryz.results19, go_sem, Result.andThen, r0, r1, r2, r3, r4, r5, r6, r7, r8, r9, r10, r11, r12, r13]
    · have cF := cF hRt
      have HRT := Lib.hid hRt
      clear cT hRt
      have y0 : (([] : List UInt8) != s.toList) = true := by
        have h := HX0.out
        rw [decide_eq_false_iff_not] at h
        rw [bne_iff_ne]
        exact fun e => h e.symm
      have y2 : (([] : List UInt8) == s.toList) = false := by
        have h := HX0.out
        rw [decide_eq_false_iff_not] at h
        rw [beq_eq_false_iff_ne]
        exact fun e => h e.symm
      have y1 : s.toList ≠ [] := by
        have h := HX0.out
        rw [decide_eq_false_iff_not] at h
        exact h
      obtain ⟨z0, z1, z2, z3, z4, z5, z6, z7, z8, z9, z10, z11, z12, z13⟩ := blk14 HG5.out
      go_wp2_with fail
      refine (cF _).mono ?_
      rintro e w6 ⟨rfl, hb⟩
      have HB6 := Lib.hid (HB5.out.trans (hb.mono (by have := HB5.out.size; omega)))
      have HR6 := Lib.hid (HR5.out.below hb HR5.out.lt)
      clear hb HB5 HR5 HG5 HL5 cF z0 z1 z2 z3 z4 z5 z6 z7 z8 z9 z10 z11 z12 z13
      go_wp2_with (with_reducible refine wpl_storeA (o := ⟨none, _, _, _, _, _⟩) rfl 32 (.tmp 2) (.tmp 15) rfl r rfl #[.int .u8 0, .int .u32 0, .int .u8 0, .int .i64 0, .int .u32 0, .int .u8 0, .int .i64 0, .int .i32 0, .int .i64 0, .int .i64 0, .int .u32 0, .int .i32 0, .int .u8 0, .int .i64 0] rfl HR6.out ?g5 ?g6 ?g7 ?_)
      case g5 => rfl
      case g6 => exact rowOr
      case g7 => simp [Value.oneCell']
      intro w10 ho hY10
      have hB10 := HB6.out.trans (below_only ho (show w.heap.size ≤ r by have := HX.out; omega))
      go_wp2_with fail
      obtain ⟨r0, r1, r2, r3, r4, r5, r6, r7, r8, r9, r10, r11, r12, r13⟩ := blk14 hY10
      refine bodyPost_ret (v := .tuple #[.agg #[.int .u8 0, .int .u32 0, .int .u8 0, .int .i64 0, .int .u32 0, .int .u8 0, .int .i64 0, .int .i32 0, .int .i64 0, .int .i64 0, .int .u32 0, .int .i32 0, .int .u8 0, .int .i64 0], .iface 54 (.int .i64 15)]) ?_ rfl ⟨.inr ⟨⟨_, HP.out, .inr (fun h => HRT.out h.1)⟩, rfl⟩, hB10⟩
      simp [results, Tryz.results19, go_sem, Result.andThen, r0, r1, r2, r3, r4, r5, r6, r7, r8, r9, r10, r11, r12, r13]
  · clear cT cF hRt
    go_wp2_with (with_reducible refine wpl_storeA (o := ⟨none, _, _, _, _, _⟩) rfl 32 (.tmp 2) (.tmp 15) rfl r rfl #[.int .u8 0, .int .u32 0, .int .u8 0, .int .i64 0, .int .u32 0, .int .u8 0, .int .i64 0, .int .i32 0, .int .i64 0, .int .i64 0, .int .u32 0, .int .i32 0, .int .u8 0, .int .i64 0] rfl HR5.out ?g5 ?g6 ?g7 ?_)
    case g5 => rfl
    case g6 => exact rowOr
    case g7 => simp [Value.oneCell']
    intro w10 ho hY10
    have hB10 := HB5.out.trans (below_only ho (show w.heap.size ≤ r by have := HX.out; omega))
    go_wp2_with fail
    obtain ⟨r0, r1, r2, r3, r4, r5, r6, r7, r8, r9, r10, r11, r12, r13⟩ := blk14 hY10
    refine bodyPost_ret (v := .tuple #[.agg #[.int .u8 0, .int .u32 0, .int .u8 0, .int .i64 0, .int .u32 0, .int .u8 0, .int .i64 0, .int .i32 0, .int .i64 0, .int .i64 0, .int .u32 0, .int .i32 0, .int .u8 0, .int .i64 0], .iface 54 (.int .i64 15)]) ?_ rfl ⟨.inr ⟨⟨_, HP.out, .inl (of_decide_eq_true HX0.out)⟩, rfl⟩, hB10⟩
    simp [results, Tryz.results19, go_sem, Result.andThen, r0, r1, r2, r3, r4, r5, r6, r7, r8, r9, r10, r11, r12, r13]
theorem trm_inO {t : Trm} (h : t.Right) : t.In := by
  obtain ⟨hK, ⟨hR, hB⟩, hP, hM, hS, hF, hG⟩ := h
  exact ⟨by omega, by omega, by omega, by omega, by omega, by omega, by omega, by omega⟩
theorem any_in {o : Ord} (h : anyO o) (hr : o.Right) : o.In := by
  obtain ⟨h0, h1, h2, h3, h4⟩ := hr
  have hz : Trm.zero.In := ⟨by decide, by decide, by decide, by decide, by decide, by decide, by decide, by decide⟩
  by_cases k1 : o.k = 1
  · have ht := trm_inO (h1 k1)
    have he : o.e = Evt.zero := by rw [h0]; unfold Ord.named; rw [if_pos k1]
    exact ⟨by omega, h.1, ht, by rw [he]; exact ⟨by decide, by decide, by decide, by decide⟩⟩
  · have ht : o.t = Trm.zero := by
      rw [h0]
      unfold Ord.named
      rw [if_neg k1]
      split
      · rfl
      · split <;> rfl
    refine ⟨by omega, h.1, by rw [ht]; exact hz, ?_⟩
    by_cases k2 : o.k = 2
    · obtain ⟨hd, hk⟩ := h2 k2
      exact ⟨h.2, by omega, by omega, by omega⟩
    · have he : o.e.d = 0 ∧ o.e.k = 0 ∧ o.e.m = 0 := by
        rw [h0]
        unfold Ord.named
        rw [if_neg k1, if_neg k2]
        split <;> exact ⟨rfl, rfl, rfl⟩
      exact ⟨h.2, by omega, by omega, by omega⟩
theorem Read_any9 (s : ByteArray) (hs : s.size ≤ 120) (w : World) (hl : TLd w) : Calls Tryz.prog 19 #[.string s] w (RdP anyO s w) :=
  Read_of (fun W h => read_any s hs W h) (fun _ h hr => any_in h hr) w hl
theorem text_some {o : Ord} (h : o.Right) : o.text.toList ≠ [] := by
  obtain ⟨h0, h1, h2, h3, h4⟩ := h
  rw [Lib.toList_data]
  have key : ∀ (a b : ByteArray) (r : List ByteArray), (sps (a :: b :: r)).data.toList ≠ [] := fun a b r => by
    rw [sps_two]
    simp
  unfold Ord.text
  split
  · exact key _ _ _
  · split
    · exact key _ _ _
    · split
      · decide
      · split <;> exact key _ _ _
/-- What has been told is read again. -/
theorem Read_own (o : Ord) (hi : o.In) (h : o.Right) (w : World) (hl : TLd w) : Calls Tryz.prog 19 #[.string o.text] w (Ret (.tuple #[o.v, .nilIface]) w) :=
  (Read_of (fun W hl => read_own o hi h W hl) (fun _ e _ => by rw [e]; exact hi) w hl).mono fun e w' hp => by
    obtain ⟨hp, hb⟩ := hp
    rcases hp with ⟨x, rfl, -, -, he⟩ | ⟨⟨x, rfl, hx⟩, -⟩
    · exact ⟨he, hb⟩
    · rcases hx with hx | hx
      · exact absurd hx (text_some h)
      · exact absurd ⟨h, rfl⟩ hx
end Go.Proofs.YtjlajnackecfgaaGreatDoor
namespace Go.Proofs.YtjlajnackecfgaaGreatDoor
open Go.ChangeShapes Go.WideShapes Go.ChangeAt Go.RowKit Go.Shelf
def exO : Ord := ⟨2, 3, Trm.zero, ⟨1, 738002, 4, 500⟩⟩
theorem exO_in : exO.In := ⟨by decide, by decide, ⟨by decide, by decide, by decide, by decide, by decide, by decide, by decide, by decide⟩, ⟨by decide, by decide, by decide, by decide⟩⟩
theorem exO_right : exO.Right := ⟨rfl, fun h => absurd h (by decide), fun _ => ⟨by decide, by decide⟩, by decide, by decide⟩
theorem exO_text : exO.text = ⟨#[112, 97, 121, 32, 51, 32, 49, 32, 50, 48, 50, 49, 45, 48, 56, 45, 48, 49, 32, 53, 46, 48, 48]⟩ := by kernel_rfl
set_option maxRecDepth 100000 in
set_option maxHeartbeats 4000000 in
theorem awake20 (w : World) (hl : TLd w) : Calls Tryz.prog 7 #[] w (Ret (.bool true) w) := by
  have cR : ∀ W, TLd W → Calls Tryz.prog 19 #[.string ⟨#[112, 97, 121, 32, 51, 32, 49, 32, 50, 48, 50, 49, 45, 48, 56, 45, 48, 49, 32, 53, 46, 48, 48]⟩] W (Ret (.tuple #[.agg #[.int .u8 2, .int .u32 3, .int .u8 0, .int .i64 0, .int .u32 0, .int .u8 0, .int .i64 0, .int .i32 0, .int .i64 0, .int .i64 0, .int .u32 1, .int .i32 738002, .int .u8 4, .int .i64 500], .nilIface]) W) := fun W h => by
    have := Read_own exO exO_in exO_right W h
    rw [exO_text] at this
    exact this
  have cT : ∀ W, TLd W → Calls Tryz.prog 20 #[.agg #[.int .u8 2, .int .u32 3, .int .u8 0, .int .i64 0, .int .u32 0, .int .u8 0, .int .i64 0, .int .i32 0, .int .i64 0, .int .i64 0, .int .u32 1, .int .i32 738002, .int .u8 4, .int .i64 500]] W (Ret (.string ⟨#[112, 97, 121, 32, 51, 32, 49, 32, 50, 48, 50, 49, 45, 48, 56, 45, 48, 49, 32, 53, 46, 48, 48]⟩) W) := fun W h => by
    have := OText_yes exO_in exO_right W h
    rw [exO_text] at this
    exact this
  have HL := Lib.hid hl
  clear hl
  go_enter Tryz.func7, Tryz.ntmps7
  go_wp2_with fail
  refine (cR _ HL.out).mono ?_
  rintro e w1 ⟨rfl, hb⟩
  have HL1 := Lib.hid (HL.out.below hb)
  have HB1 := Lib.hid (hb.alloc hb.size (.cells #[.int .u8 2, .int .u32 3, .int .u8 0, .int .i64 0, .int .u32 0, .int .u8 0, .int .i64 0, .int .i32 0, .int .i64 0, .int .i64 0, .int .u32 1, .int .i32 738002, .int .u8 4, .int .i64 500] 32))
  have HL2 := Lib.hid (HL1.out.below (b_alloc w1 (.cells #[.int .u8 2, .int .u32 3, .int .u8 0, .int .i64 0, .int .u32 0, .int .u8 0, .int .i64 0, .int .i32 0, .int .i64 0, .int .i64 0, .int .u32 1, .int .i32 738002, .int .u8 4, .int .i64 500] 32)))
  clear hb cR HL HL1
  go_wp2_with fail
  refine (cT _ HL2.out).mono ?_
  rintro e w3 ⟨rfl, hb⟩
  have HB3 := Lib.hid (HB1.out.trans (hb.mono HB1.out.size))
  clear hb cT
  go_wp2_with fail
  go_ret
  exact ⟨by first | rfl | simp, HB3.out⟩
end Go.Proofs.YtjlajnackecfgaaGreatDoor
