/-
  yield's statements: what may be, the document's Unit, the example. Conditions: the numbers' kinds.
-/
import Derived.Test.YtbfekonlgbolcaaDoorYldB
namespace Go.Proofs.YtbfekonlgbolcaaDoor
open Go.RowKit

/-- A rate of the document's. -/
def rr (p : Nat) (th : Bool) : Value := .agg #[.int .u32 (p : Int), .bool th]
theorem set2 {w : World} {g : Nat} {t : TypeId} {c0 c1 : Value} (h : Blk w g t #[c0, c1]) (x y : Value) :
    ((w.setCell ⟨g, 0, none⟩ x).setCell ⟨g, 1, none⟩ y).cell? ⟨g, 0, none⟩ = some x ∧ ((w.setCell ⟨g, 0, none⟩ x).setCell ⟨g, 1, none⟩ y).cell? ⟨g, 1, none⟩ = some y :=
  ⟨((h.set_ 0 x).set_ 1 y).cell 0, ((h.set_ 0 x).set_ 1 y).cell 1⟩
set_option maxRecDepth 20000 in
set_option maxHeartbeats 4000000 in
theorem own_1 (p : Nat) (w : World) : Calls Tryd.prog 8 #[rv p 1] w (Ret (rr p false) w) := by
  have HK := Blk.new (w.alloc (.cells #[.int .u32 (p : Int), .int .u8 1] 24)) 34 #[.int .u32 (p : Int), .bool false]
  have s0 := HK.cell 0
  have s1 := HK.cell 1
  simp at s0 s1
  clear HK
  unfold rv rr
  go_enter Tryd.func8, Tryd.ntmps8
  go_wp2_with fail
  exact bodyPost_ret (v := .agg #[.int .u32 (p : Int), .bool false]) (by simp [results, Tryd.results8, go_sem, s0, s1, Result.andThen]) rfl ⟨rfl, (b_alloc w _).alloc (by simp) _⟩
set_option maxRecDepth 20000 in
set_option maxHeartbeats 4000000 in
theorem RUnit_1 (p : Nat) (w : World) : Calls Tryd.prog 7 #[rr p false] w (Ret (.int .u64 365000000) w) := by
  unfold rr
  go_enter Tryd.func7, Tryd.ntmps7
  go_wp2_with fail
  go_ret
  exact ⟨rfl, b_alloc _ _⟩
set_option maxRecDepth 20000 in
set_option maxHeartbeats 4000000 in
theorem own_2 (p : Nat) (w : World) : Calls Tryd.prog 8 #[rv p 2] w (Ret (rr p true) w) := by
  have HK := Blk.new (w.alloc (.cells #[.int .u32 (p : Int), .int .u8 2] 24)) 34 #[.int .u32 (p : Int), .bool true]
  have s0 := HK.cell 0
  have s1 := HK.cell 1
  simp at s0 s1
  clear HK
  unfold rv rr
  go_enter Tryd.func8, Tryd.ntmps8
  go_wp2_with fail
  exact bodyPost_ret (v := .agg #[.int .u32 (p : Int), .bool true]) (by simp [results, Tryd.results8, go_sem, s0, s1, Result.andThen]) rfl ⟨rfl, (b_alloc w _).alloc (by simp) _⟩
set_option maxRecDepth 20000 in
set_option maxHeartbeats 4000000 in
theorem RUnit_2 (p : Nat) (w : World) : Calls Tryd.prog 7 #[rr p true] w (Ret (.int .u64 360000000) w) := by
  unfold rr
  go_enter Tryd.func7, Tryd.ntmps7
  go_wp2_with fail
  go_ret
  exact ⟨rfl, b_alloc _ _⟩
set_option maxRecDepth 20000 in
set_option maxHeartbeats 4000000 in
theorem lr_yes {p b : Nat} {P d : Int} {c : Nat} (hp : p ≤ 1000000) (hb : b = 1 ∨ b = 2) (h0 : 0 ≤ P) (h1 : P ≤ 1000000000000) (g0 : 0 ≤ d) (g1 : d ≤ 100000) (hc : c < unitN b) (w : World) :
    Calls Tryd.prog 11 #[rv p b, .int .i64 P, .int .i64 d, .int .u64 (c : Int)] w (Ret (.bool true) w) := by
  have i1 : (p : Int) ≤ 1000000 := by omega
  clear hp
  unfold rv
  rcases hb with rfl | rfl
  · rw [show unitN 1 = 365000000 from rfl] at hc
    have i3 : (c : Int) < 365000000 := by omega
    clear hc
    go_enter Tryd.func11, Tryd.ntmps11
    have HQ0 := Lib.hid (Blk.new w 24 #[.int .u32 (p : Int), .int .u8 1])
    have HB0 := Lib.hid (b_alloc w (.cells #[.int .u32 (p : Int), .int .u8 1] 24))
    go_wp2_with fail
    refine (own_1 p _).mono ?_
    rintro e w1 ⟨rfl, hb1⟩
    have HQ1_0 := Lib.hid (HQ0.out.below hb1 HQ0.out.lt)
    have HB1 := Lib.hid (HB0.out.trans (hb1.mono HB0.out.size))
    clear hb1
    have c1_0_0 := HQ1_0.out.cell 0
    have c1_0_1 := HQ1_0.out.cell 1
    have z1_0 := HQ1_0.out.lt
    simp at c1_0_0 c1_0_1
    go_wp2_with fail
    refine (RUnit_1 p _).mono ?_
    rintro e w2 ⟨rfl, hb2⟩
    have HQ2_0 := Lib.hid (HQ1_0.out.below hb2 HQ1_0.out.lt)
    have HB2 := Lib.hid (HB1.out.trans (hb2.mono HB1.out.size))
    clear hb2 c1_0_0 c1_0_1 z1_0
    have c2_0_0 := HQ2_0.out.cell 0
    have c2_0_1 := HQ2_0.out.cell 1
    have z2_0 := HQ2_0.out.lt
    simp at c2_0_0 c2_0_1
    go_wp2_with fail
    go_ret
    exact ⟨by simp [i3], HB2.out⟩
  · rw [show unitN 2 = 360000000 from rfl] at hc
    have i3 : (c : Int) < 360000000 := by omega
    clear hc
    go_enter Tryd.func11, Tryd.ntmps11
    have HQ0 := Lib.hid (Blk.new w 24 #[.int .u32 (p : Int), .int .u8 2])
    have HB0 := Lib.hid (b_alloc w (.cells #[.int .u32 (p : Int), .int .u8 2] 24))
    go_wp2_with fail
    refine (own_2 p _).mono ?_
    rintro e w1 ⟨rfl, hb1⟩
    have HQ1_0 := Lib.hid (HQ0.out.below hb1 HQ0.out.lt)
    have HB1 := Lib.hid (HB0.out.trans (hb1.mono HB0.out.size))
    clear hb1
    have c1_0_0 := HQ1_0.out.cell 0
    have c1_0_1 := HQ1_0.out.cell 1
    have z1_0 := HQ1_0.out.lt
    simp at c1_0_0 c1_0_1
    go_wp2_with fail
    refine (RUnit_2 p _).mono ?_
    rintro e w2 ⟨rfl, hb2⟩
    have HQ2_0 := Lib.hid (HQ1_0.out.below hb2 HQ1_0.out.lt)
    have HB2 := Lib.hid (HB1.out.trans (hb2.mono HB1.out.size))
    clear hb2 c1_0_0 c1_0_1 z1_0
    have c2_0_0 := HQ2_0.out.cell 0
    have c2_0_1 := HQ2_0.out.cell 1
    have z2_0 := HQ2_0.out.lt
    simp at c2_0_0 c2_0_1
    go_wp2_with fail
    go_ret
    exact ⟨by simp [i3], HB2.out⟩
set_option maxRecDepth 20000 in
set_option maxHeartbeats 4000000 in
theorem lr_unit {p b : Nat} {P d : Int} {c : Nat} (hp : p ≤ 1000000) (hb : b = 1 ∨ b = 2) (h0 : 0 ≤ P) (h1 : P ≤ 1000000000000) (g0 : 0 ≤ d) (g1 : d ≤ 100000) (hc : ¬ c < unitN b) (w : World) :
    Calls Tryd.prog 11 #[rv p b, .int .i64 P, .int .i64 d, .int .u64 (c : Int)] w (Ret (.bool false) w) := by
  have i1 : (p : Int) ≤ 1000000 := by omega
  clear hp
  unfold rv
  rcases hb with rfl | rfl
  · rw [show unitN 1 = 365000000 from rfl] at hc
    have i3 : ¬ (c : Int) < 365000000 := by omega
    clear hc
    go_enter Tryd.func11, Tryd.ntmps11
    have HQ0 := Lib.hid (Blk.new w 24 #[.int .u32 (p : Int), .int .u8 1])
    have HB0 := Lib.hid (b_alloc w (.cells #[.int .u32 (p : Int), .int .u8 1] 24))
    go_wp2_with fail
    refine (own_1 p _).mono ?_
    rintro e w1 ⟨rfl, hb1⟩
    have HQ1_0 := Lib.hid (HQ0.out.below hb1 HQ0.out.lt)
    have HB1 := Lib.hid (HB0.out.trans (hb1.mono HB0.out.size))
    clear hb1
    have c1_0_0 := HQ1_0.out.cell 0
    have c1_0_1 := HQ1_0.out.cell 1
    have z1_0 := HQ1_0.out.lt
    simp at c1_0_0 c1_0_1
    go_wp2_with fail
    refine (RUnit_1 p _).mono ?_
    rintro e w2 ⟨rfl, hb2⟩
    have HQ2_0 := Lib.hid (HQ1_0.out.below hb2 HQ1_0.out.lt)
    have HB2 := Lib.hid (HB1.out.trans (hb2.mono HB1.out.size))
    clear hb2 c1_0_0 c1_0_1 z1_0
    have c2_0_0 := HQ2_0.out.cell 0
    have c2_0_1 := HQ2_0.out.cell 1
    have z2_0 := HQ2_0.out.lt
    simp at c2_0_0 c2_0_1
    go_wp2_with fail
    go_ret
    exact ⟨by simp [i3], HB2.out⟩
  · rw [show unitN 2 = 360000000 from rfl] at hc
    have i3 : ¬ (c : Int) < 360000000 := by omega
    clear hc
    go_enter Tryd.func11, Tryd.ntmps11
    have HQ0 := Lib.hid (Blk.new w 24 #[.int .u32 (p : Int), .int .u8 2])
    have HB0 := Lib.hid (b_alloc w (.cells #[.int .u32 (p : Int), .int .u8 2] 24))
    go_wp2_with fail
    refine (own_2 p _).mono ?_
    rintro e w1 ⟨rfl, hb1⟩
    have HQ1_0 := Lib.hid (HQ0.out.below hb1 HQ0.out.lt)
    have HB1 := Lib.hid (HB0.out.trans (hb1.mono HB0.out.size))
    clear hb1
    have c1_0_0 := HQ1_0.out.cell 0
    have c1_0_1 := HQ1_0.out.cell 1
    have z1_0 := HQ1_0.out.lt
    simp at c1_0_0 c1_0_1
    go_wp2_with fail
    refine (RUnit_2 p _).mono ?_
    rintro e w2 ⟨rfl, hb2⟩
    have HQ2_0 := Lib.hid (HQ1_0.out.below hb2 HQ1_0.out.lt)
    have HB2 := Lib.hid (HB1.out.trans (hb2.mono HB1.out.size))
    clear hb2 c1_0_0 c1_0_1 z1_0
    have c2_0_0 := HQ2_0.out.cell 0
    have c2_0_1 := HQ2_0.out.cell 1
    have z2_0 := HQ2_0.out.lt
    simp at c2_0_0 c2_0_1
    go_wp2_with fail
    go_ret
    exact ⟨by simp [i3], HB2.out⟩
set_option maxRecDepth 20000 in
set_option maxHeartbeats 4000000 in
theorem lr_long {p b : Nat} {P d : Int} {c : Nat} (hp : p ≤ 1000000) (hb : b = 1 ∨ b = 2) (h0 : 0 ≤ P) (h1 : P ≤ 1000000000000) (g0 : 0 ≤ d) (g1 : ¬ d ≤ 100000) (w : World) :
    Calls Tryd.prog 11 #[rv p b, .int .i64 P, .int .i64 d, .int .u64 (c : Int)] w (Ret (.bool false) w) := by
  have i1 : (p : Int) ≤ 1000000 := by omega
  clear hp
  unfold rv
  rcases hb with rfl | rfl
  · skip
    go_enter Tryd.func11, Tryd.ntmps11
    have HQ0 := Lib.hid (Blk.new w 24 #[.int .u32 (p : Int), .int .u8 1])
    have HB0 := Lib.hid (b_alloc w (.cells #[.int .u32 (p : Int), .int .u8 1] 24))
    go_wp2_with fail
    go_ret
    exact ⟨by first | rfl | simp, HB0.out⟩
  · skip
    go_enter Tryd.func11, Tryd.ntmps11
    have HQ0 := Lib.hid (Blk.new w 24 #[.int .u32 (p : Int), .int .u8 2])
    have HB0 := Lib.hid (b_alloc w (.cells #[.int .u32 (p : Int), .int .u8 2] 24))
    go_wp2_with fail
    go_ret
    exact ⟨by first | rfl | simp, HB0.out⟩
set_option maxRecDepth 20000 in
set_option maxHeartbeats 4000000 in
theorem lr_neg {p b : Nat} {P d : Int} {c : Nat} (hp : p ≤ 1000000) (hb : b = 1 ∨ b = 2) (h0 : 0 ≤ P) (h1 : P ≤ 1000000000000) (g0 : ¬ 0 ≤ d) (w : World) :
    Calls Tryd.prog 11 #[rv p b, .int .i64 P, .int .i64 d, .int .u64 (c : Int)] w (Ret (.bool false) w) := by
  have i1 : (p : Int) ≤ 1000000 := by omega
  clear hp
  unfold rv
  rcases hb with rfl | rfl
  · skip
    go_enter Tryd.func11, Tryd.ntmps11
    have HQ0 := Lib.hid (Blk.new w 24 #[.int .u32 (p : Int), .int .u8 1])
    have HB0 := Lib.hid (b_alloc w (.cells #[.int .u32 (p : Int), .int .u8 1] 24))
    go_wp2_with fail
    go_ret
    exact ⟨by first | rfl | simp, HB0.out⟩
  · skip
    go_enter Tryd.func11, Tryd.ntmps11
    have HQ0 := Lib.hid (Blk.new w 24 #[.int .u32 (p : Int), .int .u8 2])
    have HB0 := Lib.hid (b_alloc w (.cells #[.int .u32 (p : Int), .int .u8 2] 24))
    go_wp2_with fail
    go_ret
    exact ⟨by first | rfl | simp, HB0.out⟩
set_option maxRecDepth 20000 in
set_option maxHeartbeats 4000000 in
theorem lr_rich {p b : Nat} {P d : Int} {c : Nat} (hp : p ≤ 1000000) (hb : b = 1 ∨ b = 2) (h0 : 0 ≤ P) (h1 : ¬ P ≤ 1000000000000) (w : World) :
    Calls Tryd.prog 11 #[rv p b, .int .i64 P, .int .i64 d, .int .u64 (c : Int)] w (Ret (.bool false) w) := by
  have i1 : (p : Int) ≤ 1000000 := by omega
  clear hp
  unfold rv
  rcases hb with rfl | rfl
  · skip
    go_enter Tryd.func11, Tryd.ntmps11
    have HQ0 := Lib.hid (Blk.new w 24 #[.int .u32 (p : Int), .int .u8 1])
    have HB0 := Lib.hid (b_alloc w (.cells #[.int .u32 (p : Int), .int .u8 1] 24))
    go_wp2_with fail
    go_ret
    exact ⟨by first | rfl | simp, HB0.out⟩
  · skip
    go_enter Tryd.func11, Tryd.ntmps11
    have HQ0 := Lib.hid (Blk.new w 24 #[.int .u32 (p : Int), .int .u8 2])
    have HB0 := Lib.hid (b_alloc w (.cells #[.int .u32 (p : Int), .int .u8 2] 24))
    go_wp2_with fail
    go_ret
    exact ⟨by first | rfl | simp, HB0.out⟩
set_option maxRecDepth 20000 in
set_option maxHeartbeats 4000000 in
theorem lr_poor {p b : Nat} {P d : Int} {c : Nat} (hp : p ≤ 1000000) (hb : b = 1 ∨ b = 2) (h0 : ¬ 0 ≤ P) (w : World) :
    Calls Tryd.prog 11 #[rv p b, .int .i64 P, .int .i64 d, .int .u64 (c : Int)] w (Ret (.bool false) w) := by
  have i1 : (p : Int) ≤ 1000000 := by omega
  clear hp
  unfold rv
  rcases hb with rfl | rfl
  · skip
    go_enter Tryd.func11, Tryd.ntmps11
    have HQ0 := Lib.hid (Blk.new w 24 #[.int .u32 (p : Int), .int .u8 1])
    have HB0 := Lib.hid (b_alloc w (.cells #[.int .u32 (p : Int), .int .u8 1] 24))
    go_wp2_with fail
    go_ret
    exact ⟨by first | rfl | simp, HB0.out⟩
  · skip
    go_enter Tryd.func11, Tryd.ntmps11
    have HQ0 := Lib.hid (Blk.new w 24 #[.int .u32 (p : Int), .int .u8 2])
    have HB0 := Lib.hid (b_alloc w (.cells #[.int .u32 (p : Int), .int .u8 2] 24))
    go_wp2_with fail
    go_ret
    exact ⟨by first | rfl | simp, HB0.out⟩
set_option maxRecDepth 20000 in
set_option maxHeartbeats 4000000 in
theorem lr_base {p b : Nat} (P d : Int) (c : Nat) (hp : p ≤ 1000000) (hb : ¬ (b = 1 ∨ b = 2)) (w : World) :
    Calls Tryd.prog 11 #[rv p b, .int .i64 P, .int .i64 d, .int .u64 (c : Int)] w (Ret (.bool false) w) := by
  have i1 : (p : Int) ≤ 1000000 := by omega
  have j1 : ((b : Int) == 1) = false := by rw [beq_eq_false_iff_ne]; omega
  have j2 : ((b : Int) == 2) = false := by rw [beq_eq_false_iff_ne]; omega
  have k1 : ¬ (b : Int) = 1 := by omega
  have k2 : ¬ (b : Int) = 2 := by omega
  clear hp hb
  unfold rv
  go_enter Tryd.func11, Tryd.ntmps11
  have HQ0 := Lib.hid (Blk.new w 24 #[.int .u32 (p : Int), .int .u8 (b : Int)])
  have HB0 := Lib.hid (b_alloc w (.cells #[.int .u32 (p : Int), .int .u8 (b : Int)] 24))
  go_wp2_with fail
  go_ret
  exact ⟨by first | rfl | simp, HB0.out⟩
set_option maxRecDepth 20000 in
set_option maxHeartbeats 4000000 in
theorem lr_rate {p : Nat} (b : Nat) (P d : Int) (c : Nat) (hp : ¬ p ≤ 1000000) (w : World) :
    Calls Tryd.prog 11 #[rv p b, .int .i64 P, .int .i64 d, .int .u64 (c : Int)] w (Ret (.bool false) w) := by
  have i1 : ¬ (p : Int) ≤ 1000000 := by omega
  clear hp
  unfold rv
  go_enter Tryd.func11, Tryd.ntmps11
  have HQ0 := Lib.hid (Blk.new w 24 #[.int .u32 (p : Int), .int .u8 (b : Int)])
  have HB0 := Lib.hid (b_alloc w (.cells #[.int .u32 (p : Int), .int .u8 (b : Int)] 24))
  go_wp2_with fail
  go_ret
  exact ⟨by first | rfl | simp, HB0.out⟩
/-- What may be. -/
def okB (p b : Nat) (P d : Int) (c : Nat) : Prop := rateB p b ∧ 0 ≤ P ∧ P ≤ 1000000000000 ∧ 0 ≤ d ∧ d ≤ 100000 ∧ c < unitN b
instance (p b : Nat) (P d : Int) (c : Nat) : Decidable (okB p b P d c) := inferInstanceAs (Decidable (_ ∧ _))
theorem lright_yes {p b : Nat} {P d : Int} {c : Nat} (h : okB p b P d c) (w : World) : Calls Tryd.prog 11 #[rv p b, .int .i64 P, .int .i64 d, .int .u64 (c : Int)] w (Ret (.bool true) w) := by
  obtain ⟨⟨h1, h2⟩, h3, h4, h5, h6, h7⟩ := h
  exact lr_yes h1 h2 h3 h4 h5 h6 h7 w
theorem lright_no {p b : Nat} {P d : Int} {c : Nat} (h : ¬ okB p b P d c) (w : World) : Calls Tryd.prog 11 #[rv p b, .int .i64 P, .int .i64 d, .int .u64 (c : Int)] w (Ret (.bool false) w) := by
  by_cases h1 : p ≤ 1000000
  · by_cases h2 : b = 1 ∨ b = 2
    · by_cases h3 : 0 ≤ P
      · by_cases h4 : P ≤ 1000000000000
        · by_cases h5 : 0 ≤ d
          · by_cases h6 : d ≤ 100000
            · by_cases h7 : c < unitN b
              · exact absurd ⟨⟨h1, h2⟩, h3, h4, h5, h6, h7⟩ h
              · exact lr_unit h1 h2 h3 h4 h5 h6 h7 w
            · exact lr_long h1 h2 h3 h4 h5 h6 w
          · exact lr_neg h1 h2 h3 h4 h5 w
        · exact lr_rich h1 h2 h3 h4 w
      · exact lr_poor h1 h2 h3 w
    · exact lr_base P d c h1 h2 w
  · exact lr_rate b P d c h1 w
set_option maxRecDepth 20000 in
set_option maxHeartbeats 4000000 in
theorem awake9 (w : World) : Calls Tryd.prog 5 #[] w (Ret (.bool true) w) := by
  have hD := fun W => Days_yes (P := 10000) (p := 365000) (b := 1) (d := 1) (c := 0) (by decide) ⟨by decide, by decide⟩ (by decide) (by decide) W
  rw [show (10000 * 365000 * 1 + 0) / unitN 1 = 10 from rfl, show (10000 * 365000 * 1 + 0) % unitN 1 = 0 from rfl] at hD
  unfold rv at hD
  go_enter Tryd.func5, Tryd.ntmps5
  go_wp2_with fail
  refine (hD _).mono ?_
  rintro e w1 ⟨rfl, hb1⟩
  go_wp2_with fail
  go_ret
  exact ⟨rfl, hb1⟩
end Go.Proofs.YtbfekonlgbolcaaDoor
