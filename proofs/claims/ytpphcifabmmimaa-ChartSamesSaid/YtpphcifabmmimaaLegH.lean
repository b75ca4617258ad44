/-
  ChartSames: the walk, region 3 apart. Conditions: the legs are there.
-/
import Derived.Test.YtpphcifabmmimaaLegG
namespace Go.Proofs.Ytpphcifabmmimaa
open Go.ChangeShapes Go.WideShapes Go.ChangeAt Go.RowKit

/-- What region 3 of the law comes to. -/
def Reg3 (y1 y2 : Ky) (A1 A2 : Option Addr) (n1 n2 c1 c2 : Nat) (m1 m2 : List (Nat × Int)) (w w1 : World) : Prop :=
  ∀ Q : Exit → Act → World → Prop, (∀ (u17 u18 u19 u20 u21 u22 u23 u24 : Value) (A9 A10 : Option Addr) (c9 c10 g9 g10 : Nat) (W : World), Blk W g9 30 (entC y1 (.slice A9 m1.length c9)) → Blk W g10 30 (entC y2 (.slice A10 m2.length c10)) → Rs legT W W.heap.size A9 m1 → Rs legT W W.heap.size A10 m2 → Below w.heap.size w W → Q .normal { tmps := #[.agg #[.int .u32 (y1.a : Int), .int .i32 y1.d, .int .u8 (y1.k : Int), .int .u32 (y1.s : Int)], .agg #[.int .u32 (y2.a : Int), .int .i32 y2.d, .int .u8 (y2.k : Int), .int .u32 (y2.s : Int)], .slice A1 n1 c1, .slice A2 n2 c2, .pointer (some ⟨w.heap.size, 0, none⟩), .pointer (some ⟨w.heap.size + 1, 0, none⟩), undef, undef, .bool false, .pointer (some ⟨g9, 0, none⟩), .pointer (some ⟨g10, 0, none⟩), undef, undef, undef, undef, .bool true, .bool false, u17, u18, u19, u20, u21, u22, u23, u24, undef, undef, undef, undef, undef, undef, undef, undef, undef, undef, undef, undef, undef, undef, undef, undef, undef, undef, undef, undef, undef, undef, undef, undef, undef, undef, undef, undef, undef, undef, undef, undef, undef, undef, undef, undef, undef, undef, undef, undef, undef, undef, undef, undef, undef, undef, undef, undef, undef, undef], defers := [] } W) →
    (Code.region 3 ([{ dst := some 17, op := Go.Op.load 25 (Go.Operand.tmp 4), type := 25, pos := "law.go:117", after := #[], guard := none }, { dst := some 18, op := Go.Op.move (Go.Operand.tmp 2), type := 26, pos := "law.go:117", after := #[], guard := none }, { dst := some 19, op := Go.Op.call { callee := Go.Callee.value (Go.Operand.func 8), args := #[Go.Operand.tmp 18], argTypes := #[26] }, type := 26, pos := "law.go:117", after := #[{ on := 1, ground := Go.Ground.data }], guard := none }, { dst := some 20, op := Go.Op.call { callee := Go.Callee.value (Go.Operand.func 9), args := #[Go.Operand.tmp 17, Go.Operand.tmp 19], argTypes := #[25, 26] }, type := 30, pos := "law.go:117", after := #[{ on := 0, ground := Go.Ground.data }, { on := 2, ground := Go.Ground.data }, { on := 2, ground := Go.Ground.chain }], guard := none }, { dst := some 21, op := Go.Op.load 25 (Go.Operand.tmp 5), type := 25, pos := "law.go:117", after := #[], guard := none }, { dst := some 22, op := Go.Op.move (Go.Operand.tmp 3), type := 26, pos := "law.go:117", after := #[], guard := none }, { dst := some 23, op := Go.Op.call { callee := Go.Callee.value (Go.Operand.func 8), args := #[Go.Operand.tmp 22], argTypes := #[26] }, type := 26, pos := "law.go:117", after := #[{ on := 5, ground := Go.Ground.data }, { on := 3, ground := Go.Ground.chain }], guard := none }, { dst := some 24, op := Go.Op.call { callee := Go.Callee.value (Go.Operand.func 9), args := #[Go.Operand.tmp 21, Go.Operand.tmp 23], argTypes := #[25, 26] }, type := 30, pos := "law.go:117", after := #[{ on := 4, ground := Go.Ground.data }, { on := 6, ground := Go.Ground.data }, { on := 6, ground := Go.Ground.chain }], guard := none }, { dst := some 9, op := Go.Op.alloc 30, type := 0, pos := "law.go:117", after := #[], guard := none }, { dst := some 10, op := Go.Op.alloc 30, type := 0, pos := "law.go:117", after := #[], guard := none }, { dst := none, op := Go.Op.store 30 (Go.Operand.tmp 9) (Go.Operand.tmp 20), type := 0, pos := "law.go:117", after := #[{ on := 8, ground := Go.Ground.data }, { on := 3, ground := Go.Ground.data }, { on := 7, ground := Go.Ground.chain }, { on := 0, ground := Go.Ground.phase }, { on := 1, ground := Go.Ground.phase }, { on := 2, ground := Go.Ground.phase }, { on := 3, ground := Go.Ground.phase }, { on := 4, ground := Go.Ground.textOnly Go.Departure.lateStores }, { on := 5, ground := Go.Ground.textOnly Go.Departure.lateStores }, { on := 6, ground := Go.Ground.textOnly Go.Departure.lateStoresUnsure }, { on := 7, ground := Go.Ground.textOnly Go.Departure.lateStoresUnsure }, { on := 8, ground := Go.Ground.phase }, { on := 9, ground := Go.Ground.phase }], guard := none }, { dst := none, op := Go.Op.store 30 (Go.Operand.tmp 10) (Go.Operand.tmp 24), type := 0, pos := "law.go:117", after := #[{ on := 9, ground := Go.Ground.data }, { on := 7, ground := Go.Ground.data }, { on := 10, ground := Go.Ground.chain }, { on := 0, ground := Go.Ground.phase }, { on := 1, ground := Go.Ground.phase }, { on := 2, ground := Go.Ground.phase }, { on := 3, ground := Go.Ground.phase }, { on := 4, ground := Go.Ground.phase }, { on := 5, ground := Go.Ground.phase }, { on := 6, ground := Go.Ground.phase }, { on := 7, ground := Go.Ground.phase }, { on := 8, ground := Go.Ground.phase }, { on := 9, ground := Go.Ground.phase }, { on := 10, ground := Go.Ground.phase }], guard := none }] : List Oper).toArray true).wp Try.prog Q { tmps := #[.agg #[.int .u32 (y1.a : Int), .int .i32 y1.d, .int .u8 (y1.k : Int), .int .u32 (y1.s : Int)], .agg #[.int .u32 (y2.a : Int), .int .i32 y2.d, .int .u8 (y2.k : Int), .int .u32 (y2.s : Int)], .slice A1 n1 c1, .slice A2 n2 c2, .pointer (some ⟨w.heap.size, 0, none⟩), .pointer (some ⟨w.heap.size + 1, 0, none⟩), undef, undef, .bool false, undef, undef, undef, undef, undef, undef, .bool true, .bool false, undef, undef, undef, undef, undef, undef, undef, undef, undef, undef, undef, undef, undef, undef, undef, undef, undef, undef, undef, undef, undef, undef, undef, undef, undef, undef, undef, undef, undef, undef, undef, undef, undef, undef, undef, undef, undef, undef, undef, undef, undef, undef, undef, undef, undef, undef, undef, undef, undef, undef, undef, undef, undef, undef, undef, undef, undef, undef], defers := [] } w1
theorem wp_ret_any {Q : Exit → Act → World → Prop} {a : Act} {w : World} (h : Q .ret a w) : Code.ret.wp Try.prog Q a w := by first | exact wp_ret h | exact (wp_ret).2 h | (unfold Code.wp; exact h) | (simp only [wp_ret]; exact h)
theorem fin_bool {w W : World} {T : Array Value} (hB : Below w.heap.size w W) (h2 : T[8]? = some (.bool true)) :
    bodyPost Try.prog Try.f5 (Ret (.bool true) w) Exit.ret { tmps := T, defers := [] } W := by
  exact bodyPost_ret (v := .bool true) (by simp [results, Try.results5, go_sem, h2]) rfl ⟨rfl, hB⟩
theorem wrap_step (S z : Int) : wrap64 (wrap64 S + z) = wrap64 (S + z) := by unfold wrap64; omega
theorem amts_step {l : List (Nat × Int)} {k : Nat} (h : k < l.length) : (amts (l.take (k + 1))).sum = (amts (l.take k)).sum + l[k].2 := by
  rw [List.take_succ_eq_append_getElem h]
  unfold amts
  rw [List.map_append, List.sum_append, List.map_cons, List.map_nil, List.sum_cons, List.sum_nil, Int.add_zero]
set_option maxRecDepth 100000 in
set_option maxHeartbeats 4000000 in
theorem CSames_any (y1 y2 : Ky) (hy1 : y1.In) (hy2 : y2.In) (A1 A2 : Option Addr) (n1 n2 c1 c2 : Nat) (m1 m2 : List (Nat × Int)) (w : World) (hl1 : m1.length ≤ 256) (hl2 : m2.length ≤ 256) (hi1 : ∀ u ∈ m1, LegIn u) (hi2 : ∀ u ∈ m2, LegIn u)
    (h3 : ∀ w1, Below w.heap.size w w1 → Blk w1 w.heap.size 25 #[.int .u32 (y1.a : Int), .int .i32 y1.d, .int .u8 (y1.k : Int), .int .u32 (y1.s : Int)] → Blk w1 (w.heap.size + 1) 25 #[.int .u32 (y2.a : Int), .int .i32 y2.d, .int .u8 (y2.k : Int), .int .u32 (y2.s : Int)] → Reg3 y1 y2 A1 A2 n1 n2 c1 c2 m1 m2 w w1) :
    Calls Try.prog 5 #[y1.v, y2.v, .slice A1 n1 c1, .slice A2 n2 c2] w (Ret (.bool true) w) := by
  have HB0 := Lib.hid ((b_alloc w (.cells #[.int .u32 (y1.a : Int), .int .i32 y1.d, .int .u8 (y1.k : Int), .int .u32 (y1.s : Int)] 25)).alloc (by simp) (.cells #[.int .u32 (y2.a : Int), .int .i32 y2.d, .int .u8 (y2.k : Int), .int .u32 (y2.s : Int)] 25))
  have HQA := Lib.hid ((Blk.new w 25 #[.int .u32 (y1.a : Int), .int .i32 y1.d, .int .u8 (y1.k : Int), .int .u32 (y1.s : Int)]).alloc (.cells #[.int .u32 (y2.a : Int), .int .i32 y2.d, .int .u8 (y2.k : Int), .int .u32 (y2.s : Int)] 25))
  have HQB : Hid (Blk ((w.alloc (.cells #[.int .u32 (y1.a : Int), .int .i32 y1.d, .int .u8 (y1.k : Int), .int .u32 (y1.s : Int)] 25)).alloc (.cells #[.int .u32 (y2.a : Int), .int .i32 y2.d, .int .u8 (y2.k : Int), .int .u32 (y2.s : Int)] 25)) (w.heap.size + 1) 25 #[.int .u32 (y2.a : Int), .int .i32 y2.d, .int .u8 (y2.k : Int), .int .u32 (y2.s : Int)]) := Lib.hid (by
    have h := Blk.new (w.alloc (.cells #[.int .u32 (y1.a : Int), .int .i32 y1.d, .int .u8 (y1.k : Int), .int .u32 (y1.s : Int)] 25)) 25 #[.int .u32 (y2.a : Int), .int .i32 y2.d, .int .u8 (y2.k : Int), .int .u32 (y2.s : Int)]
    rw [show (w.alloc (.cells #[.int .u32 (y1.a : Int), .int .i32 y1.d, .int .u8 (y1.k : Int), .int .u32 (y1.s : Int)] 25)).heap.size = w.heap.size + 1 by simp] at h
    exact h)
  have HI1 := Lib.hid hi1
  have HI2 := Lib.hid hi2
  have H3 := Lib.hid h3
  have HY := Lib.hid (And.intro hy1 hy2)
  clear hi1 hi2 h3 hy1 hy2
  show Calls Try.prog 5 #[.agg #[.int .u32 (y1.a : Int), .int .i32 y1.d, .int .u8 (y1.k : Int), .int .u32 (y1.s : Int)], .agg #[.int .u32 (y2.a : Int), .int .i32 y2.d, .int .u8 (y2.k : Int), .int .u32 (y2.s : Int)], .slice A1 n1 c1, .slice A2 n2 c2] w (Ret (.bool true) w)
  go_enter Try.func5, Try.ntmps5
  go_wp2_with fail
  refine (awake13 _).mono ?_
  rintro e w1 ⟨rfl, hb1⟩
  have HB1 := Lib.hid (HB0.out.trans (hb1.mono HB0.out.size))
  have HQA1 := Lib.hid (HQA.out.below hb1 HQA.out.lt)
  have HQB1 := Lib.hid (HQB.out.below hb1 HQB.out.lt)
  clear hb1 HB0 HQA HQB
  go_upto_region 3 with (fail)
  refine H3.out w1 HB1.out HQA1.out HQB1.out _ ?_
  clear HB1 H3 HQA1 HQB1
  intro u17 u18 u19 u20 u21 u22 u23 u24 A9 A10 c9 c10 g9 g10 W h9 h10 hr9 hr10 hbW
  have HE9 := Lib.hid h9
  have HE10 := Lib.hid h10
  have HR9 := Lib.hid hr9
  have HR10 := Lib.hid hr10
  have HBW := Lib.hid hbW
  have z9 := h9.lt
  have x0 := h9.cell 0
  have x1 := h9.cell 1
  have x2 := h9.cell 2
  have x3 := h9.cell 3
  have x4 := h9.cell 4
  have v0 := h10.cell 0
  have v1 := h10.cell 1
  have v2 := h10.cell 2
  have v3 := h10.cell 3
  have v4 := h10.cell 4
  unfold entC at x0 x1 x2 x3 x4 v0 v1 v2 v3 v4
  simp at x0 x1 x2 x3 x4 v0 v1 v2 v3 v4
  clear h9 h10 hr9 hr10 hbW
  obtain ⟨q1, hq1⟩ : ∃ k, m1.length = k := ⟨_, rfl⟩
  obtain ⟨q2, hq2⟩ : ∃ k, m2.length = k := ⟨_, rfl⟩
  rw [hq1] at HE9 x4 hl1
  rw [hq2] at HE10 v4 hl2
  have HQ1 := Lib.hid hq1
  have HQ2 := Lib.hid hq2
  clear hq1 hq2
  go_wp2_with fail
  refine (Same13_any y1 y2 A9 A10 q1 q2 c9 c10 _ _ m1 m2 W HR9.out HQ1.out (by omega) (Nat.le_refl _) HR10.out HQ2.out (by omega) (Nat.le_refl _)).mono ?_
  rintro e w5 ⟨rfl, hb5⟩
  obtain ⟨SM, hSM⟩ : ∃ b, decide (y1 = y2 ∧ m1 = m2) = b := ⟨_, rfl⟩
  rw [hSM]
  have HSM := Lib.hid hSM
  have HF9 := Lib.hid (HE9.out.below hb5 HE9.out.lt)
  have HF10 := Lib.hid (HE10.out.below hb5 HE10.out.lt)
  have HS9 := Lib.hid (rs_later HR9.out hb5)
  have HS10 := Lib.hid (rs_later HR10.out hb5)
  have HB5 := Lib.hid (HBW.out.trans (hb5.mono HBW.out.size))
  clear x0 x1 x2 x3 x4 v0 v1 v2 v3 v4 hb5 hSM z9 HE9 HE10 HR9 HR10 HBW
  have x4 := HF9.out.cell 4
  unfold entC at x4
  simp at x4
  go_wp2_with fail
  clear x4
  go_loopw [12, 31] (fun s i wr => ∃ j : Nat, j ≤ q1 ∧ i = .int .i64 j ∧ s = .int .i64 (wrap64 (amts (m1.take j)).sum) ∧ Below w5.heap.size w5 wr) (fun _ i _ => q1 - (intOf i).toNat)
  case atStart => exact ⟨0, Nat.zero_le _, rfl, by simp [amts, wrap64], Below.refl _ _⟩
  case round =>
    obtain ⟨j, hj, rfl, rfl, hbw⟩ := hrel
    obtain ⟨wq, rfl⟩ : ∃ W, W = wr := ⟨_, rfl⟩
    by_cases hlt : j < q1
    · have hjl : j < m1.length := by rw [HQ1.out]; exact hlt
      obtain ⟨b1, o1, rfl, hb1, y0, y1'⟩ := (HS9.out.below hbw).leg hjl
      have hst := amts_step hjl
      obtain ⟨x, hx⟩ : ∃ x, m1[j].1 = x := ⟨_, rfl⟩
      obtain ⟨z, hz⟩ : ∃ z, m1[j].2 = z := ⟨_, rfl⟩
      obtain ⟨S, hS⟩ : ∃ S, (amts (m1.take j)).sum = S := ⟨_, rfl⟩
      rw [hx] at y0
      rw [hz] at y1'
      rw [hz, hS] at hst
      rw [hS]
      obtain ⟨S', hS'⟩ : ∃ s, wrap64 S = s := ⟨_, rfl⟩
      have hnext : wrap64 (amts (m1.take (j + 1))).sum = wrap64 (S' + z) := by rw [hst, ← hS', wrap_step]
      rw [hS']
      have HNX := Lib.hid hnext
      have HLT9 := Lib.hid hlt
      have HB2 := Lib.hid (hbw.alloc hbw.size (.cells #[.int .u8 (x : Int), .int .i64 z] 51))
      clear hnext hst hx hz hS hS' hb1 hbw hjl
      go_wp2_with fail
      go_roundw
      case rel => exact ⟨j + 1, HLT9.out, by go_num, by rw [HNX.out], HB2.out⟩
      case measure =>
        have := HLT9.out
        simp [intOf]
        omega
    · have hkn : q1 = j := by omega
      subst hkn
      rw [List.take_of_length_le (by rw [HQ1.out]; exact Nat.le_refl _)]
      have hS0 : entB y1 m1 = true → wrap64 (amts m1).sum = 0 := fun h => by rw [ent_sum h]; unfold wrap64; omega
      obtain ⟨S, hS⟩ : ∃ S, wrap64 (amts m1).sum = S := ⟨_, rfl⟩
      rw [hS] at hS0 ⊢
      have h9 := HF9.out.below hbw HF9.out.lt
      have h10 := HF10.out.below hbw HF10.out.lt
      rw [← HQ1.out] at h9
      rw [← HQ2.out] at h10
      have HG9 := Lib.hid h9
      have HG10 := Lib.hid h10
      have HT9 := Lib.hid (rs_later HS9.out hbw)
      have HT10 := Lib.hid (rs_later HS10.out hbw)
      have HB9 := Lib.hid (HB5.out.trans (hbw.mono HB5.out.size))
      have HS0 := Lib.hid hS0
      clear h9 h10 hbw hS0 hS HF9 HF10 HS9 HS10 HB5 hlt hj
      go_upto_region 11 with (fail)
      refine Reg11 y1 y2 HY.out.1 HY.out.2 m1 m2 (by rw [HQ1.out]; omega) (by rw [HQ2.out]; omega) HI1.out HI2.out SM HSM.out S HS0.out A9 A10 c9 c10 g9 g10 wq HG9.out HG10.out HT9.out HT10.out _ _ _ _ _ _ _ _ _ _ _ _ _ _ _ _ _ _ _ _ _ _ _ _ _ _ _ _ _ _ _ _ _ _ _ _ _ _ _ _ _ _ _ _ _ _ _ _ _ _ _ _ _ _ _ _ _ _ _ _ _ _ _ _ _ _ _ _ _ _ _ _ ?_
      rename_i Kq hKq
      intro T w' hT hb
      have HBZ := Lib.hid (HB9.out.trans (hb.mono HB9.out.size))
      refine hKq _ _ ?_
      refine wp_ret_any ?_
      exact fin_bool HBZ.out hT
end Go.Proofs.Ytpphcifabmmimaa
