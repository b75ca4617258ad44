/-
  chart's Bytes. Conditions: the row is there.
-/
import Derived.Test.YtdknhjnbkmcicaaDoorLegD
import Derived.Test.YtdknhjnbkmcicaaDoorQuD
import Derived.Test.YtdknhjnbkmcicaaDoorChK
namespace Go.Proofs.YtdknhjnbkmcicaaDoor
open Go.ChangeShapes Go.WideShapes Go.ChangeAt Go.RowKit

/-- A Quill that has written l since world w0, in which it was empty. -/
def St (w0 : World) (B q : Nat) (l : List UInt8) (W : World) : Prop := ∃ r, Qu W B q r l ∧ Stays w0 none r ∧ Far w0 W q none
theorem St.drew {w0 W : World} {B q : Nat} {l : List UInt8} (h : St w0 B q l W) : St w0 B q l W.drew := by
  obtain ⟨r, h1, h2, h3⟩ := h
  exact ⟨r, h1.drew, h2, h3.drew⟩
theorem St.alloc {w0 W : World} {B q : Nat} {l : List UInt8} (h : St w0 B q l W) (o : Obj) : St w0 B q l (W.alloc o) := by
  obtain ⟨r, h1, h2, h3⟩ := h
  exact ⟨r, h1.below (b_alloc W o), h2, h3.alloc o⟩
theorem St.blk {w0 W : World} {B q g : Nat} {l : List UInt8} {t : TypeId} {cs : Array Value} (h : St w0 B q l W) (hb : Blk w0 g t cs) (hg : g ≠ q) : Blk W g t cs := by
  obtain ⟨r, h1, h2, h3⟩ := h
  exact hb.past h3 hg (by simp)
theorem St.size {w0 W : World} {B q : Nat} {l : List UInt8} (h : St w0 B q l W) : w0.heap.size ≤ W.heap.size := by
  obtain ⟨r, h1, h2, h3⟩ := h
  exact h3.2.2.2.1
theorem St.rows {w0 W : World} {B q B0 : Nat} {l : List UInt8} {A : Option Addr} {u : List (Nat × Int)} (h : St w0 B q l W) (hr : Rs legT w0 B0 A u) (hB : B0 ≤ q) (hq : q < w0.heap.size) : Rs legT W B0 A u := by
  obtain ⟨r, h1, h2, h3⟩ := h
  exact hr.keep fun p hp => World.cell?_of_block (h3.2.2.2.2 p.block (by omega) (by omega) (by simp))
theorem St.below {w0 W a : World} {B q B0 : Nat} {l : List UInt8} (h : St w0 B q l W) (ha : Below B0 a w0) (hB : B0 ≤ w0.heap.size) (hq : B0 ≤ q) : Below B0 a W := by
  obtain ⟨r, h1, h2, h3⟩ := h
  exact h3.to_below ha hB hq (by simp)
def StP (w0 : World) (B q : Nat) (l : List UInt8) (e : Ending) (w' : World) : Prop := e = .returned (.pointer (some ⟨q, 0, none⟩)) ∧ St w0 B q l w'
theorem St.step {w0 W w' : World} {B q : Nat} {r : Option Nat} {l m : List UInt8} {e : Ending} (h2 : Stays w0 none r) (h3 : Far w0 W q none) (h : QPost W B q r m e w') : StP w0 B q m e w' := by
  obtain ⟨rfl, ⟨r', h4, h5⟩, h6⟩ := h
  exact ⟨rfl, r', h4, h2.trans h5 h3.2.2.2.1, h3.trans h6 h2⟩
theorem cUintS {w0 W : World} {B q : Nat} {l : List UInt8} (h : St w0 B q l W) (n : Nat) (hn : n < 18446744073709551616) (hl : l.length ≤ 1000000) :
    Calls Tryd.prog 22 #[.pointer (some ⟨q, 0, none⟩), .int .u64 (n : Int)] W (StP w0 B q (l ++ layN 0 n)) := by
  obtain ⟨r, h1, h2, h3⟩ := h
  exact (QUint_any B q r l n hn hl W h1).mono fun e w' hp => St.step (l := l) h2 h3 hp
theorem cIntS {w0 W : World} {B q : Nat} {l : List UInt8} (h : St w0 B q l W) (i : Int) (hi : -9223372036854775808 ≤ i ∧ i ≤ 9223372036854775807) (hl : l.length ≤ 1000000) :
    Calls Tryd.prog 23 #[.pointer (some ⟨q, 0, none⟩), .int .i64 i] W (StP w0 B q (l ++ layI i)) := by
  obtain ⟨r, h1, h2, h3⟩ := h
  exact (QInt_any B q r l i hi hl W h1).mono fun e w' hp => St.step (l := l) h2 h3 hp
/-- The same from a world in which its row lay in block r0. -/
def Sr (w0 : World) (r0 : Option Nat) (B q : Nat) (l : List UInt8) (W : World) : Prop := ∃ r, Qu W B q r l ∧ Stays w0 r0 r ∧ Far w0 W q r0
theorem Sr.drew {w0 W : World} {r0 : Option Nat} {B q : Nat} {l : List UInt8} (h : Sr w0 r0 B q l W) : Sr w0 r0 B q l W.drew := by
  obtain ⟨r, h1, h2, h3⟩ := h
  exact ⟨r, h1.drew, h2, h3.drew⟩
theorem Sr.blk {w0 W : World} {r0 : Option Nat} {B q g : Nat} {l : List UInt8} {t : TypeId} {cs : Array Value} (h : Sr w0 r0 B q l W) (hb : Blk w0 g t cs) (hg : g ≠ q) (hr : r0 ≠ some g) : Blk W g t cs := by
  obtain ⟨r, h1, h2, h3⟩ := h
  exact hb.past h3 hg hr
def SrP (w0 : World) (r0 : Option Nat) (B q : Nat) (l : List UInt8) (e : Ending) (w' : World) : Prop := e = .returned (.pointer (some ⟨q, 0, none⟩)) ∧ Sr w0 r0 B q l w'
theorem Sr.step {w0 W w' : World} {B q : Nat} {r0 r : Option Nat} {m : List UInt8} {e : Ending} (h2 : Stays w0 r0 r) (h3 : Far w0 W q r0) (h : QPost W B q r m e w') : SrP w0 r0 B q m e w' := by
  obtain ⟨rfl, ⟨r', h4, h5⟩, h6⟩ := h
  exact ⟨rfl, r', h4, h2.trans h5 h3.2.2.2.1, h3.trans h6 h2⟩
theorem cUintR {w0 W : World} {r0 : Option Nat} {B q : Nat} {l : List UInt8} (h : Sr w0 r0 B q l W) (n : Nat) (hn : n < 18446744073709551616) (hl : l.length ≤ 1000000) :
    Calls Tryd.prog 22 #[.pointer (some ⟨q, 0, none⟩), .int .u64 (n : Int)] W (SrP w0 r0 B q (l ++ layN 0 n)) := by
  obtain ⟨r, h1, h2, h3⟩ := h
  exact (QUint_any B q r l n hn hl W h1).mono fun e w' hp => Sr.step h2 h3 hp
theorem cIntR {w0 W : World} {r0 : Option Nat} {B q : Nat} {l : List UInt8} (h : Sr w0 r0 B q l W) (i : Int) (hi : -9223372036854775808 ≤ i ∧ i ≤ 9223372036854775807) (hl : l.length ≤ 1000000) :
    Calls Tryd.prog 23 #[.pointer (some ⟨q, 0, none⟩), .int .i64 i] W (SrP w0 r0 B q (l ++ layI i)) := by
  obtain ⟨r, h1, h2, h3⟩ := h
  exact (QInt_any B q r l i hi hl W h1).mono fun e w' hp => Sr.step h2 h3 hp
theorem St.base {w0 W : World} {B q : Nat} {l : List UInt8} (h : St w0 B q l W) (o : Obj) : ∃ r, Sr (W.alloc o) r B q l (W.alloc o) ∧ r ≠ some W.heap.size ∧ q < W.heap.size ∧ ∀ m W', Sr (W.alloc o) r B q m W' → St w0 B q m W' := by
  obtain ⟨r, h1, h2, h3⟩ := h
  refine ⟨r, ⟨r, h1.below (b_alloc W o), Stays.refl _ _, Far.refl _ _ _⟩, fun e => ?_, h1.lt, ?_⟩
  · have := (h1.row _ e).2
    omega
  · rintro m W' ⟨r', h4, h5, h6⟩
    exact ⟨r', h4, h2.trans h5 (h3.alloc o).2.2.2.1, (h3.alloc o).trans h6 h2⟩
/-- A leg's bytes, and an entry's. -/
def layG (u : Nat × Int) : List UInt8 := layN 0 u.1 ++ layI u.2
def layGs (l : List (Nat × Int)) : List UInt8 := l.flatMap layG
def layKy (y : Ky) : List UInt8 := ((([] ++ layN 0 y.a) ++ layN 0 y.d.toNat) ++ layN 0 y.k) ++ layN 0 y.s
def layE (y : Ky) (l : List (Nat × Int)) : List UInt8 := (layKy y ++ layN 0 l.length) ++ layGs l
theorem layN_le (m n : Nat) (h : n < 18446744073709551616) : (layN m n).length ≤ 9 := by
  unfold layN
  rw [List.length_cons, digs_len]
  have := nb_le n h
  omega
theorem layI_le (i : Int) (hi : -9223372036854775808 ≤ i ∧ i ≤ 9223372036854775807) : (layI i).length ≤ 9 := by
  unfold layI
  split
  · exact layN_le _ _ (by omega)
  · exact layN_le _ _ (by omega)
theorem layGs_le : ∀ (l : List (Nat × Int)), (∀ u ∈ l, LegIn u) → (layGs l).length ≤ 18 * l.length
  | [], _ => by simp [layGs]
  | u :: l, h => by
    have h1 := layGs_le l fun v hv => h v (List.mem_cons_of_mem _ hv)
    have h2 := h u List.mem_cons_self
    have e : layGs (u :: l) = layG u ++ layGs l := rfl
    have h3 := layN_le 0 u.1 (by have := h2.1; omega)
    have h4 := layI_le u.2 h2.2
    rw [e, List.length_append, List.length_cons]
    unfold layG
    rw [List.length_append]
    omega
theorem layGs_snoc (l : List (Nat × Int)) (u : Nat × Int) : layGs (l ++ [u]) = (layGs l ++ layN 0 u.1) ++ layI u.2 := by
  unfold layGs
  rw [List.flatMap_append, List.flatMap_cons, List.flatMap_nil, List.append_nil, List.append_assoc]
  rfl
theorem entB_in {y : Ky} {l : List (Nat × Int)} (h : entB y l = true) : 0 ≤ y.d ∧ y.d ≤ 3652058 ∧ l.length ≤ 8 := by
  unfold entB dayB at h
  simp only [Bool.and_eq_true, decide_eq_true_eq] at h
  exact ⟨h.2.1.1, h.2.1.2, h.2.2.1.2⟩
set_option maxRecDepth 100000 in
set_option maxHeartbeats 4000000 in
/-- Of one that isn't Right there are none. -/
theorem Bytes_no (y : Ky) (A : Option Addr) (n c B : Nat) (l : List (Nat × Int)) (w : World) (hR : Rs legT w B A l) (hn : l.length = n) (hm : n ≤ 100000) (hB : B ≤ w.heap.size) (hI : ∀ u ∈ l, LegIn u) (hE : entB y l = false) :
    Calls Tryd.prog 8 #[entV y (.slice A n c)] w (Ret (.slice none 0 0) w) := by
  have HQ := Lib.hid (Blk.new w 32 (entC y (.slice A n c)))
  have HB0 := Lib.hid (b_alloc w (.cells (entC y (.slice A n c)) 32))
  have hC := Right_any13 y A n c B l _ (hR.below (HB0.out.mono hB)) hn hm (Nat.le_trans hB HB0.out.size) hI
  rw [hE] at hC
  have HC := Lib.hid hC
  clear hR hn hI hE hC
  unfold entC at HQ HB0 HC
  unfold entV entC
  obtain ⟨W, hW⟩ : ∃ W, (w.alloc (.cells #[.int .u32 (y.a : Int), .int .i32 y.d, .int .u8 (y.k : Int), .int .u32 (y.s : Int), .slice A n c] 32)) = W := ⟨_, rfl⟩
  rw [hW] at HQ HB0 HC
  have HW := Lib.hid hW
  clear hW
  go_enter Tryd.func8, Tryd.ntmps8
  go_upto_region 1 with (fail)
  rw [HW.out]
  have x0 := HQ.out.cell 0
  have x1 := HQ.out.cell 1
  have x2 := HQ.out.cell 2
  have x3 := HQ.out.cell 3
  have x4 := HQ.out.cell 4
  simp at x0 x1 x2 x3 x4
  go_wp2_with fail
  refine HC.out.mono ?_
  rintro e w1 ⟨rfl, hb1⟩
  have HB1 := Lib.hid (HB0.out.trans (hb1.mono HB0.out.size))
  clear hb1 x0 x1 x2 x3 x4 HC
  go_wp2_with fail
  go_ret
  exact ⟨by first | rfl | simp, HB1.out⟩
set_option maxRecDepth 100000 in
set_option maxHeartbeats 4000000 in
theorem Bytes_ok (a D k s : Nat) (ha : a < 4294967296) (hk : k < 256) (hs : s < 4294967296) (A : Option Addr) (n c B : Nat) (l : List (Nat × Int)) (w : World) (hR : Rs legT w B A l) (hn : l.length = n) (hB : B ≤ w.heap.size) (hI : ∀ u ∈ l, LegIn u) (hE : entB ⟨a, (D : Int), k, s⟩ l = true) :
    Calls Tryd.prog 8 #[entV ⟨a, (D : Int), k, s⟩ (.slice A n c)] w (DPost w (layE ⟨a, (D : Int), k, s⟩ l)) := by
  obtain ⟨-, hD, hl8⟩ := entB_in hE
  have hD2 : D ≤ 3652058 := by have h : ((D : Nat) : Int) ≤ 3652058 := hD; omega
  have hn8 : n ≤ 8 := by omega
  have HQ := Lib.hid (Blk.new w 32 (entC ⟨a, (D : Int), k, s⟩ (.slice A n c)))
  have HB0 := Lib.hid (b_alloc w (.cells (entC ⟨a, (D : Int), k, s⟩ (.slice A n c)) 32))
  have HR0 := Lib.hid (hR.below (HB0.out.mono hB))
  have hC := Right_any13 ⟨a, (D : Int), k, s⟩ A n c B l _ HR0.out hn (by omega) (Nat.le_trans hB HB0.out.size) hI
  rw [hE] at hC
  have HC := Lib.hid hC
  have HI := Lib.hid hI
  have HN := Lib.hid hn
  clear hR hn hI hE hC hD hl8
  unfold entC at HQ HB0 HC HR0
  unfold entV entC
  dsimp only at HQ HB0 HC HR0 ⊢
  obtain ⟨W, hW⟩ : ∃ W, (w.alloc (.cells #[.int .u32 (a : Int), .int .i32 (D : Int), .int .u8 (k : Int), .int .u32 (s : Int), .slice A n c] 32)) = W := ⟨_, rfl⟩
  rw [hW] at HQ HB0 HC HR0
  have HW := Lib.hid hW
  clear hW
  go_enter Tryd.func8, Tryd.ntmps8
  go_upto_region 1 with (fail)
  rw [HW.out]
  have x0 := HQ.out.cell 0
  have x1 := HQ.out.cell 1
  have x2 := HQ.out.cell 2
  have x3 := HQ.out.cell 3
  have x4 := HQ.out.cell 4
  simp at x0 x1 x2 x3 x4
  go_wp2_with fail
  refine HC.out.mono ?_
  rintro e w1 ⟨rfl, hb1⟩
  have HB1 := Lib.hid (HB0.out.trans (hb1.mono HB0.out.size))
  have HQ1 := Lib.hid (HQ.out.below hb1 HQ.out.lt)
  have hBW : B ≤ W.heap.size := Nat.le_trans hB HB0.out.size
  have HR1 := Lib.hid (HR0.out.below (hb1.mono hBW))
  have hB1 : B ≤ w1.heap.size := Nat.le_trans hBW hb1.size
  have HBB := Lib.hid (And.intro hB1 HQ1.out.lt)
  clear hb1 x0 x1 x2 x3 x4 HC HQ HB0 HR0 HW hBW hB1
  have x0 := HQ1.out.cell 0
  have x1 := HQ1.out.cell 1
  have x2 := HQ1.out.cell 2
  have x3 := HQ1.out.cell 3
  have x4 := HQ1.out.cell 4
  simp at x0 x1 x2 x3 x4
  have hz := HQ1.out.lt
  go_upto_region 5 with (fail)
  have hnew := (Qu.new (w := w1) (B := w1.heap.size) (Nat.le_refl _)).below (b_alloc _ (.cells #[.int .u32 (a : Int), .int .i32 (D : Int), .int .u8 (k : Int), .int .u32 (s : Int)] 25))
  have hkey := Blk.new (w1.alloc (.cells #[.slice none 0 0] 65)) 25 #[.int .u32 (a : Int), .int .i32 (D : Int), .int .u8 (k : Int), .int .u32 (s : Int)]
  rw [show (w1.alloc (.cells #[.slice none 0 0] 65)).heap.size = w1.heap.size + 1 by simp] at hkey
  have hent := (HQ1.out.alloc (.cells #[.slice none 0 0] 65)).alloc (.cells #[.int .u32 (a : Int), .int .i32 (D : Int), .int .u8 (k : Int), .int .u32 (s : Int)] 25)
  have hb2 := (Below.refl w1.heap.size w1).alloc (Nat.le_refl _) (.cells #[.slice none 0 0] 65)
  have hb3 := hb2.alloc hb2.size (.cells #[.int .u32 (a : Int), .int .i32 (D : Int), .int .u8 (k : Int), .int .u32 (s : Int)] 25)
  have hrow := HR1.out.below (hb3.mono HBB.out.1)
  have hbw := HB1.out.trans (hb3.mono HB1.out.size)
  have hsz2 : w1.heap.size < (((w1.alloc (.cells #[.slice none 0 0] 65)).alloc (.cells #[.int .u32 (a : Int), .int .i32 (D : Int), .int .u8 (k : Int), .int .u32 (s : Int)] 25))).heap.size := by simp; omega
  have hwq := HB1.out.size
  obtain ⟨w2, hw2⟩ : ∃ W, ((w1.alloc (.cells #[.slice none 0 0] 65)).alloc (.cells #[.int .u32 (a : Int), .int .i32 (D : Int), .int .u8 (k : Int), .int .u32 (s : Int)] 25)) = W := ⟨_, rfl⟩
  rw [hw2] at hnew hkey hent hrow hbw hsz2
  rw [hw2]
  have hBq := HBB.out.1
  obtain ⟨q, hq⟩ : ∃ q, w1.heap.size = q := ⟨_, rfl⟩
  rw [hq] at hnew hkey hsz2 hwq hBq hz
  rw [hq]
  have S0 : St w2 q q [] w2.drew := St.drew ⟨none, hnew, Stays.refl _ _, Far.refl _ _ _⟩
  have HKEY := Lib.hid hkey
  have HENT := Lib.hid hent
  have HROW := Lib.hid hrow
  have HBW := Lib.hid hbw
  have HSZ := Lib.hid (And.intro hsz2 (And.intro hz hBq))
  have KC4 : ∀ (m : List UInt8) (W' : World), St w2 q q m W' → W'.cell? ⟨q + 1, 0, none⟩ = some (.int .u32 (a : Int)) ∧ W'.cell? ⟨q + 1, 1, none⟩ = some (.int .i32 (D : Int)) ∧ W'.cell? ⟨q + 1, 2, none⟩ = some (.int .u8 (k : Int)) ∧ W'.cell? ⟨q + 1, 3, none⟩ = some (.int .u32 (s : Int)) := fun m W' h => by
    have hb := h.blk HKEY.out (by omega)
    have c0 := hb.cell 0
    have c1 := hb.cell 1
    have c2 := hb.cell 2
    have c3 := hb.cell 3
    simp at c0 c1 c2 c3
    exact ⟨c0, c1, c2, c3⟩
  have i1 : IntKind.u64.wrap (a : Int) = (a : Int) := by rw [IntKind.wrap_u64]; omega
  have i2 : IntKind.u64.wrap (D : Int) = (D : Int) := by rw [IntKind.wrap_u64]; omega
  have i3 : IntKind.u64.wrap (k : Int) = (k : Int) := by rw [IntKind.wrap_u64]; omega
  have i4 : IntKind.u64.wrap (s : Int) = (s : Int) := by rw [IntKind.wrap_u64]; omega
  have m1 := layN_le 0 a (by omega)
  have m2 := layN_le 0 D (by omega)
  have m3 := layN_le 0 k (by omega)
  have m4 := layN_le 0 s (by omega)
  have L0 : ([] : List UInt8).length ≤ 1000000 := by simp
  have L1 : ([] ++ layN 0 a).length ≤ 1000000 := by rw [List.length_append]; simp only [List.length_nil]; omega
  have L2 : (([] ++ layN 0 a) ++ layN 0 D).length ≤ 1000000 := by rw [List.length_append, List.length_append]; simp only [List.length_nil]; omega
  have L3 : ((([] ++ layN 0 a) ++ layN 0 D) ++ layN 0 k).length ≤ 1000000 := by rw [List.length_append, List.length_append, List.length_append]; simp only [List.length_nil]; omega
  have A1 : a < 18446744073709551616 := by omega
  have A2 : D < 18446744073709551616 := by omega
  have A3 : k < 18446744073709551616 := by omega
  have A4 : s < 18446744073709551616 := by omega
  clear hnew hkey hent hb2 hb3 hrow hbw hsz2 hwq hBq hw2 hq x0 x1 x2 x3 x4 hz HQ1 HR1 HB1 HBB m1 m2 m3 m4
  go_region_held3 (fun W' => W'.cell? ⟨q + 1, 0, none⟩ = some (.int .u32 (a : Int)) ∧ W'.cell? ⟨q + 1, 1, none⟩ = some (.int .i32 (D : Int)) ∧ W'.cell? ⟨q + 1, 2, none⟩ = some (.int .u8 (k : Int)) ∧ W'.cell? ⟨q + 1, 3, none⟩ = some (.int .u32 (s : Int)))
    (first | exact KC4 _ _ S4 | exact KC4 _ _ S3 | exact KC4 _ _ S2 | exact KC4 _ _ S1 | exact KC4 _ _ S0)
    (first
      | (go_at_call 22; refine (cUintS S3 s A4 L3).mono ?_; rintro e w6 ⟨rfl, S4⟩)
      | (go_at_call 22; refine (cUintS S2 k A3 L2).mono ?_; rintro e w5 ⟨rfl, S3⟩)
      | (go_at_call 22; refine (cUintS S1 D A2 L1).mono ?_; rintro e w4 ⟨rfl, S2⟩)
      | (go_at_call 22; refine (cUintS S0 a A1 L0).mono ?_; rintro e w3 ⟨rfl, S1⟩))
  have hlk : (((([] ++ layN 0 a) ++ layN 0 D) ++ layN 0 k) ++ layN 0 s).length ≤ 1000 := by
    have m1 := layN_le 0 a A1
    have m2 := layN_le 0 D A2
    have m3 := layN_le 0 k A3
    have m4 := layN_le 0 s A4
    rw [List.length_append, List.length_append, List.length_append, List.length_append]
    simp only [List.length_nil]
    omega
  obtain ⟨LK, hLK⟩ : ∃ x, (((([] ++ layN 0 a) ++ layN 0 D) ++ layN 0 k) ++ layN 0 s) = x := ⟨_, rfl⟩
  rw [hLK] at S4 hlk
  have HS4 := Lib.hid S4
  have HLK := Lib.hid hLK
  have e6 := S4.blk HENT.out (by have := HSZ.out.2.1; omega)
  have x4 := e6.cell 4
  simp at x4
  clear S0 S1 S2 S3 S4 KC4 L0 L1 L2 L3 A1 A2 A3 A4 i1 i2 i3 i4 hLK e6
  have i5 : IntKind.u64.wrap (n : Int) = (n : Int) := by rw [IntKind.wrap_u64]; omega
  go_wp2_with fail
  refine (cUintS HS4.out n (by omega) (by omega)).mono ?_
  rintro e w7 ⟨rfl, S5⟩
  have hlh : (LK ++ layN 0 n).length ≤ 2000 := by
    have m1 := layN_le 0 n (by omega)
    rw [List.length_append]
    omega
  obtain ⟨LH, hLH⟩ : ∃ x, LK ++ layN 0 n = x := ⟨_, rfl⟩
  rw [hLH] at S5 hlh
  have HS5 := Lib.hid S5
  have HLH := Lib.hid hLH
  have e7 := S5.blk HENT.out (by have := HSZ.out.2.1; omega)
  clear x4
  have x4 := e7.cell 4
  simp at x4
  clear S5 hLH e7 HS4 i5 hlk
  go_wp2_with fail
  clear x4
  go_loopw [36] (fun i wr => ∃ j : Nat, j ≤ n ∧ i = .int .i64 j ∧ Hid (St w2 q q (LH ++ layGs (l.take j)) wr)) (fun i _ => n - (intOf i).toNat)
  case atStart => exact ⟨0, Nat.zero_le _, rfl, Lib.hid (by simpa [layGs] using HS5.out)⟩
  case round =>
    obtain ⟨j, hj, rfl, HST⟩ := hrel
    obtain ⟨wq, rfl⟩ : ∃ W, W = wr := ⟨_, rfl⟩
    have hgl := layGs_le (l.take j) (fun u hu => HI.out u (List.mem_of_mem_take hu))
    rw [List.length_take, HN.out, Nat.min_eq_left hj] at hgl
    have hll : (LH ++ layGs (l.take j)).length ≤ 3000 := by rw [List.length_append]; omega
    have HLL := Lib.hid hll
    clear hgl hll
    by_cases hlt : j < n
    · have hjl : j < l.length := by rw [HN.out]; exact hlt
      obtain ⟨b1, o1, rfl, hb1, y0, y1⟩ := (HST.out.rows HROW.out HSZ.out.2.2 HSZ.out.1).leg hjl
      have hxb := HI.out l[j] (List.getElem_mem hjl)
      have hsn := layGs_snoc (l.take j) l[j]
      rw [← List.take_succ_eq_append_getElem hjl] at hsn
      obtain ⟨x, hx⟩ : ∃ x, l[j].1 = x := ⟨_, rfl⟩
      obtain ⟨z, hz⟩ : ∃ z, l[j].2 = z := ⟨_, rfl⟩
      unfold LegIn at hxb
      rw [hx] at y0
      rw [hz] at y1
      rw [hx, hz] at hxb hsn
      obtain ⟨hx1, hz1⟩ := hxb
      have HSN := Lib.hid hsn
      have HLT9 := Lib.hid hlt
      obtain ⟨LJ, hLJ⟩ : ∃ x, LH ++ layGs (l.take j) = x := ⟨_, rfl⟩
      have hst := HST.out
      have hll := HLL.out
      rw [hLJ] at hst hll
      obtain ⟨r, T0, hr6, hq6, back⟩ := hst.base (.cells #[.int .u8 (x : Int), .int .i64 z] 56)
      have hleg := Blk.new wq 56 #[.int .u8 (x : Int), .int .i64 z]
      have HLJ := Lib.hid hLJ
      clear hLJ hst HST hsn hx hz hb1 HLL
      go_upto_region 10 with (fail)
      obtain ⟨w8, hw8⟩ : ∃ W, wq.alloc (.cells #[.int .u8 (x : Int), .int .i64 z] 56) = W := ⟨_, rfl⟩
      obtain ⟨g6, hg6⟩ : ∃ G, wq.heap.size = G := ⟨_, rfl⟩
      rw [hw8] at T0 back hleg ⊢
      rw [hg6] at hleg hr6 hq6 ⊢
      have BACK := Lib.hid back
      have T1 := T0.drew
      have KG : ∀ (m : List UInt8) (W' : World), Sr w8 r q q m W' → W'.cell? ⟨g6, 0, none⟩ = some (.int .u8 (x : Int)) ∧ W'.cell? ⟨g6, 1, none⟩ = some (.int .i64 z) := fun m W' h => by
        have hb := h.blk hleg (by omega) hr6
        have c0 := hb.cell 0
        have c1 := hb.cell 1
        simp at c0 c1
        exact ⟨c0, c1⟩
      have i1 : IntKind.u64.wrap (x : Int) = (x : Int) := by rw [IntKind.wrap_u64]; omega
      have A1 : x < 18446744073709551616 := by omega
      have m1 := layN_le 0 x A1
      have L1 : LJ.length ≤ 1000000 := by omega
      have L2 : (LJ ++ layN 0 x).length ≤ 1000000 := by rw [List.length_append]; omega
      clear hw8 hg6 hleg back T0 y0 y1 m1 hll hjl
      go_region_held3 (fun W' => W'.cell? ⟨g6, 0, none⟩ = some (.int .u8 (x : Int)) ∧ W'.cell? ⟨g6, 1, none⟩ = some (.int .i64 z))
        (first | exact KG _ _ T3 | exact KG _ _ T2 | exact KG _ _ T1)
        (first
          | (go_at_call 23; refine (cIntR T2 z hz1 L2).mono ?_; rintro e w10 ⟨rfl, T3⟩)
          | (go_at_call 22; refine (cUintR T1 x A1 L1).mono ?_; rintro e w9 ⟨rfl, T2⟩))
      have S9 := BACK.out _ _ T3
      rw [← HLJ.out, List.append_assoc, List.append_assoc, ← List.append_assoc (layGs (l.take j)), ← HSN.out] at S9
      have HS9 := Lib.hid S9
      clear S9 T1 T2 T3 KG i1 A1 L1 L2 BACK hr6 hq6
      go_wp2_with fail
      go_roundw
      case rel => exact ⟨j + 1, HLT9.out, by go_num, HS9⟩
      case measure =>
        have := HLT9.out
        simp [intOf]
        omega
    · have hkn : n = j := by omega
      subst hkn
      have hst := HST.out
      have hll := HLL.out
      rw [List.take_of_length_le (by rw [HN.out]; exact Nat.le_refl _)] at hst hll
      have hb9 := hst.below HBW.out (by have := HSZ.out; omega) (by have := HSZ.out; omega)
      have hsz9 := hst.size
      obtain ⟨r, h1, h2, h3⟩ := hst
      have HQD := Lib.hid (QDone_any q q r _ (by omega) wq h1)
      have HB9 := Lib.hid hb9
      have HZ9 := Lib.hid hsz9
      clear h1 h2 h3 hb9 hll HST HLL hsz9
      go_wp2_with fail
      refine HQD.out.mono ?_
      rintro e w9 ⟨⟨A9, g9, rfl, hA9, hg9, hrg9⟩, hbd⟩
      have HPOST : Hid (DPost w (layE ⟨a, (D : Int), k, s⟩ l) (.returned (.slice A9 (LH ++ layGs l).length (LH ++ layGs l).length)) w9) := Lib.hid (by
        have e : LH ++ layGs l = layE ⟨a, (D : Int), k, s⟩ l := by
          rw [← HLH.out, ← HLK.out]
          unfold layE layKy
          rw [HN.out]
          rfl
        rw [e] at hA9 hrg9 ⊢
        have z1 := HB9.out.size
        exact ⟨⟨A9, g9, rfl, hA9, by omega, hrg9⟩, HB9.out.trans (hbd.mono z1)⟩)
      clear hA9 hg9 hrg9 hbd HQD
      go_wp2_with fail
      go_ret
      simpa using HPOST.out
end Go.Proofs.YtdknhjnbkmcicaaDoor
