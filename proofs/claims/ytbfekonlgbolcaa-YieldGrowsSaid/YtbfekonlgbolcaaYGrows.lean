/-
  YieldGrows: the walk. Conditions: the numbers' kinds.
-/
import Derived.Test.YtbfekonlgbolcaaYBounds
import Derived.RegionTactic
import Derived.BigRegion
namespace Go.Proofs.Ytbfekonlgbolcaa
open Go.RowKit Go.BigFrame

set_option maxRecDepth 20000 in
set_option maxHeartbeats 8000000 in
theorem Grows_all {p b p2 b2 d m lo hi : Nat} {P Q : Int} (hd : d < 65536) (hm : m < 65536) (hlo : min p p2 = lo) (hhi : max p p2 = hi) (hlh : lo < 4294967296) (hhh : hi < 4294967296) (w : World) :
    Calls Try.prog 4 #[rv p b, rv p2 b2, .int .i64 P, .int .i64 Q, .int .u16 (d : Int), .int .u16 (m : Int)] w (Ret (.bool true) w) := by
  obtain ⟨u, hu⟩ : ∃ u, lo % 1000001 = u := ⟨_, rfl⟩
  obtain ⟨v, hv⟩ : ∃ v, hi % 1000001 = v := ⟨_, rfl⟩
  have i1 : min (p : Int) (p2 : Int) = (lo : Int) := by omega
  have i2 : max (p : Int) (p2 : Int) = (hi : Int) := by omega
  have i3 : (lo : Int) % 1000001 = (u : Int) := by omega
  have i4 : (hi : Int) % 1000001 = (v : Int) := by omega
  have hu1 : u ≤ 1000000 := by omega
  have hv1 : v ≤ 1000000 := by omega
  unfold rv
  go_enter Try.func4, Try.ntmps4
  go_wp2_with fail
  refine (awake9 _).mono ?_
  rintro e w1 ⟨rfl, hb1⟩
  have HA := Lib.hid ((Blk.new w 24 #[.int .u32 (p : Int), .int .u8 (b : Int)]).alloc (.cells #[.int .u32 (p2 : Int), .int .u8 (b2 : Int)] 24))
  have HB := Lib.hid (Blk.new (w.alloc (.cells #[.int .u32 (p : Int), .int .u8 (b : Int)] 24)) 24 #[.int .u32 (p2 : Int), .int .u8 (b2 : Int)])
  have kA := HA.out.below hb1 HA.out.lt
  have kB := HB.out.below hb1 HB.out.lt
  rw [show (w.alloc (.cells #[.int .u32 (p : Int), .int .u8 (b : Int)] 24)).heap.size = w.heap.size + 1 by simp] at kB
  have a0 := kA.cell 0
  have a1 := kA.cell 1
  have b0 := kB.cell 0
  have b1 := kB.cell 1
  have fa0 := kA.frozen 0
  have fa1 := kA.frozen 1
  have fb0 := kB.frozen 0
  have fb1 := kB.frozen 1
  simp at a0 a1 b0 b1
  have HKA := Lib.hid kA
  have HKB := Lib.hid kB
  have HB1 := Lib.hid (((b_alloc w (.cells #[.int .u32 (p : Int), .int .u8 (b : Int)] 24)).alloc (by simp) (.cells #[.int .u32 (p2 : Int), .int .u8 (b2 : Int)] 24)).trans (hb1.mono (by simp; omega)))
  have HU1 := Lib.hid hu1
  have HV1 := Lib.hid hv1
  have HD := Lib.hid hd
  clear kA kB hb1 hu hv hd hm hlo hhi hlh hhh HA HB hu1 hv1
  go_wp2_with fail
  go_region
  obtain ⟨W2, hW2⟩ : ∃ W, (((w1.setCell ⟨w.heap.size, 0, none⟩ (.int .u32 (u : Int))).setCell ⟨w.heap.size + 1, 0, none⟩ (.int .u32 (v : Int))).setCell ⟨w.heap.size + 1, 1, none⟩ (.int .u8 (b : Int))).drew = W := ⟨_, rfl⟩
  have HA2 : Hid (Blk W2 w.heap.size 24 #[.int .u32 (u : Int), .int .u8 (b : Int)]) := Lib.hid (by
    rw [← hW2]
    exact (((HKA.out.set_ 0 (.int .u32 (u : Int))).far (p := ⟨w.heap.size + 1, 0, none⟩) (by simp) (.int .u32 (v : Int))).far (p := ⟨w.heap.size + 1, 1, none⟩) (by simp) (.int .u8 (b : Int))).drew)
  have HB2 : Hid (Blk W2 (w.heap.size + 1) 24 #[.int .u32 (v : Int), .int .u8 (b : Int)]) := Lib.hid (by
    rw [← hW2]
    exact (((HKB.out.far (p := ⟨w.heap.size, 0, none⟩) (by simp) (.int .u32 (u : Int))).set_ 0 (.int .u32 (v : Int))).set_ 1 (.int .u8 (b : Int))).drew)
  have HW2 : Hid (Below w.heap.size w W2) := Lib.hid (by
    rw [← hW2]
    exact (((HB1.out.setCell (Nat.le_refl _) _).setCell (Nat.le_succ _) _).setCell (Nat.le_succ _) _).drew)
  rw [hW2]
  clear hW2 a0 a1 b0 b1 fa0 fa1 fb0 fb1 HKA HKB HB1 i1 i2 i3 i4
  obtain ⟨y, hy⟩ : ∃ y, m % 1000 = y := ⟨_, rfl⟩
  have HY := Lib.hid (show y < 1000 by omega)
  have j1 : (m : Int) % 1000 = (y : Int) := by omega
  clear hy
  by_cases huv : v < u
  · have j2 : (v : Int) < (u : Int) := by omega
    clear huv
    have c30_0_0 := HA2.out.cell 0
    have c30_0_1 := HA2.out.cell 1
    have z30_0 := HA2.out.lt
    have c30_1_0 := HB2.out.cell 0
    have c30_1_1 := HB2.out.cell 1
    have z30_1 := HB2.out.lt
    simp at c30_0_0 c30_0_1 c30_1_0 c30_1_1
    go_wp2_with fail
    go_ret
    exact ⟨by first | rfl | simp, HW2.out⟩
  · have j2 : ¬ (v : Int) < (u : Int) := by omega
    by_cases hA : okB u b P 0 0
    · have hLA := fun W => lright_yes hA W
      unfold rv at hLA
      by_cases hB : okB v b Q 0 0
      · have hLB := fun W => lright_yes hB W
        unfold rv at hLB
        by_cases hPQ : Q < P
        · clear hA hB huv
          have c30_0_0 := HA2.out.cell 0
          have c30_0_1 := HA2.out.cell 1
          have z30_0 := HA2.out.lt
          have c30_1_0 := HB2.out.cell 0
          have c30_1_1 := HB2.out.cell 1
          have z30_1 := HB2.out.lt
          simp at c30_0_0 c30_0_1 c30_1_0 c30_1_1
          go_wp2_with fail
          refine (hLA _).mono ?_
          rintro e w31 ⟨rfl, hb31⟩
          have HQ31_0 := Lib.hid (HA2.out.below hb31 HA2.out.lt)
          have HQ31_1 := Lib.hid (HB2.out.below hb31 HB2.out.lt)
          have HB31 := Lib.hid (HW2.out.trans (hb31.mono HW2.out.size))
          clear hb31 c30_0_0 c30_0_1 z30_0 c30_1_0 c30_1_1 z30_1
          have c31_0_0 := HQ31_0.out.cell 0
          have c31_0_1 := HQ31_0.out.cell 1
          have z31_0 := HQ31_0.out.lt
          have c31_1_0 := HQ31_1.out.cell 0
          have c31_1_1 := HQ31_1.out.cell 1
          have z31_1 := HQ31_1.out.lt
          simp at c31_0_0 c31_0_1 c31_1_0 c31_1_1
          go_wp2_with fail
          refine (hLB _).mono ?_
          rintro e w32 ⟨rfl, hb32⟩
          have HQ32_0 := Lib.hid (HQ31_0.out.below hb32 HQ31_0.out.lt)
          have HQ32_1 := Lib.hid (HQ31_1.out.below hb32 HQ31_1.out.lt)
          have HB32 := Lib.hid (HB31.out.trans (hb32.mono HB31.out.size))
          clear hb32 c31_0_0 c31_0_1 z31_0 c31_1_0 c31_1_1 z31_1
          have c32_0_0 := HQ32_0.out.cell 0
          have c32_0_1 := HQ32_0.out.cell 1
          have z32_0 := HQ32_0.out.lt
          have c32_1_0 := HQ32_1.out.cell 0
          have c32_1_1 := HQ32_1.out.cell 1
          have z32_1 := HQ32_1.out.lt
          simp at c32_0_0 c32_0_1 c32_1_0 c32_1_1
          go_wp2_with fail
          go_ret
          exact ⟨by first | rfl | simp, HB32.out⟩
        · obtain ⟨hr, p0, p1, -, -, hc⟩ := hA
          obtain ⟨hr2, q0, q1, -, -, -⟩ := hB
          obtain ⟨P', rfl⟩ : ∃ n : Nat, P = (n : Int) := ⟨P.toNat, by omega⟩
          obtain ⟨Q', rfl⟩ : ∃ n : Nat, Q = (n : Int) := ⟨Q.toNat, by omega⟩
          have hd := HD.out
          have hy := HY.out
          have hUb := (unitN_bd b).1
          have i5 : IntKind.i64.wrap (y : Int) = (y : Int) := by rw [IntKind.wrap_i64]; omega
          have i6 : IntKind.i64.wrap (d : Int) = (d : Int) := by rw [IntKind.wrap_i64]; omega
          obtain ⟨e, he⟩ : ∃ e, d + y = e := ⟨_, rfl⟩
          have i7 : (d : Int) + (y : Int) = (e : Int) := by omega
          have i8 : IntKind.i64.wrap (e : Int) = (e : Int) := by rw [IntKind.wrap_i64]; omega
          have hDA := fun W => Days_yes (P := P') (p := u) (b := b) (d := d) (c := 0) (by omega) hr (by omega) hc W
          have hDB := fun W => Days_yes (P := Q') (p := v) (b := b) (d := e) (c := 0) (by omega) hr2 (by omega) hc W
          have hDZ := fun W => Days_yes (P := 0) (p := u) (b := b) (d := d) (c := 0) (by omega) hr (by omega) hc W
          rw [show 0 * u * d + 0 = 0 by simp, Nat.zero_div, Nat.zero_mod] at hDZ
          have hg := grows (P := P') (Q := Q') (p := u) (q := v) (d := d) (e := e) (U := unitN b) (by omega) (by omega) (by omega)
          obtain ⟨n1, hn1⟩ : ∃ n, (P' * u * d + 0) / unitN b = n := ⟨_, rfl⟩
          obtain ⟨n2, hn2⟩ : ∃ n, (Q' * v * e + 0) / unitN b = n := ⟨_, rfl⟩
          obtain ⟨s1, hs1⟩ : ∃ n, (P' * u * d + 0) % unitN b = n := ⟨_, rfl⟩
          obtain ⟨s2, hs2⟩ : ∃ n, (Q' * v * e + 0) % unitN b = n := ⟨_, rfl⟩
          rw [hn1, hs1] at hDA
          rw [hn2, hs2] at hDB
          rw [hn1, hn2] at hg
          replace hDZ : ∀ W, Calls Try.prog 8 #[rv u b, .int .i64 0, .int .i64 (d : Int), .int .u64 0] W (Ret (.tuple #[.int .i64 0, .int .u64 0, .nilIface]) W) := hDZ
          replace hDA : ∀ W, Calls Try.prog 8 #[rv u b, .int .i64 (P' : Int), .int .i64 (d : Int), .int .u64 0] W (Ret (.tuple #[.int .i64 (n1 : Int), .int .u64 (s1 : Int), .nilIface]) W) := hDA
          replace hDB : ∀ W, Calls Try.prog 8 #[rv v b, .int .i64 (Q' : Int), .int .i64 (e : Int), .int .u64 0] W (Ret (.tuple #[.int .i64 (n2 : Int), .int .u64 (s2 : Int), .nilIface]) W) := hDB
          have j3 : (n1 : Int) ≤ (n2 : Int) := by omega
          have j4 : ¬ (Q' : Int) < (P' : Int) := by omega
          unfold rv at hDA hDB hDZ
          clear hr hr2 hc p0 p1 q0 q1 hg hn1 hn2 hs1 hs2 he hd hy hUb huv hPQ
          have c30_0_0 := HA2.out.cell 0
          have c30_0_1 := HA2.out.cell 1
          have z30_0 := HA2.out.lt
          have c30_1_0 := HB2.out.cell 0
          have c30_1_1 := HB2.out.cell 1
          have z30_1 := HB2.out.lt
          simp at c30_0_0 c30_0_1 c30_1_0 c30_1_1
          go_wp2_with fail
          refine (hLA _).mono ?_
          rintro e w31 ⟨rfl, hb31⟩
          have HQ31_0 := Lib.hid (HA2.out.below hb31 HA2.out.lt)
          have HQ31_1 := Lib.hid (HB2.out.below hb31 HB2.out.lt)
          have HB31 := Lib.hid (HW2.out.trans (hb31.mono HW2.out.size))
          clear hb31 c30_0_0 c30_0_1 z30_0 c30_1_0 c30_1_1 z30_1
          have c31_0_0 := HQ31_0.out.cell 0
          have c31_0_1 := HQ31_0.out.cell 1
          have z31_0 := HQ31_0.out.lt
          have c31_1_0 := HQ31_1.out.cell 0
          have c31_1_1 := HQ31_1.out.cell 1
          have z31_1 := HQ31_1.out.lt
          simp at c31_0_0 c31_0_1 c31_1_0 c31_1_1
          go_wp2_with fail
          refine (hLB _).mono ?_
          rintro e w32 ⟨rfl, hb32⟩
          have HQ32_0 := Lib.hid (HQ31_0.out.below hb32 HQ31_0.out.lt)
          have HQ32_1 := Lib.hid (HQ31_1.out.below hb32 HQ31_1.out.lt)
          have HB32 := Lib.hid (HB31.out.trans (hb32.mono HB31.out.size))
          clear hb32 c31_0_0 c31_0_1 z31_0 c31_1_0 c31_1_1 z31_1
          have c32_0_0 := HQ32_0.out.cell 0
          have c32_0_1 := HQ32_0.out.cell 1
          have z32_0 := HQ32_0.out.lt
          have c32_1_0 := HQ32_1.out.cell 0
          have c32_1_1 := HQ32_1.out.cell 1
          have z32_1 := HQ32_1.out.lt
          simp at c32_0_0 c32_0_1 c32_1_0 c32_1_1
          go_wp2_with fail
          refine (hDA _).mono ?_
          rintro e w33 ⟨rfl, hb33⟩
          have HQ33_0 := Lib.hid (HQ32_0.out.below hb33 HQ32_0.out.lt)
          have HQ33_1 := Lib.hid (HQ32_1.out.below hb33 HQ32_1.out.lt)
          have HB33 := Lib.hid (HB32.out.trans (hb33.mono HB32.out.size))
          clear hb33 c32_0_0 c32_0_1 z32_0 c32_1_0 c32_1_1 z32_1
          have c33_0_0 := HQ33_0.out.cell 0
          have c33_0_1 := HQ33_0.out.cell 1
          have z33_0 := HQ33_0.out.lt
          have c33_1_0 := HQ33_1.out.cell 0
          have c33_1_1 := HQ33_1.out.cell 1
          have z33_1 := HQ33_1.out.lt
          simp at c33_0_0 c33_0_1 c33_1_0 c33_1_1
          go_wp2_with fail
          refine (hDB _).mono ?_
          rintro e w34 ⟨rfl, hb34⟩
          have HQ34_0 := Lib.hid (HQ33_0.out.below hb34 HQ33_0.out.lt)
          have HQ34_1 := Lib.hid (HQ33_1.out.below hb34 HQ33_1.out.lt)
          have HB34 := Lib.hid (HB33.out.trans (hb34.mono HB33.out.size))
          clear hb34 c33_0_0 c33_0_1 z33_0 c33_1_0 c33_1_1 z33_1
          have c34_0_0 := HQ34_0.out.cell 0
          have c34_0_1 := HQ34_0.out.cell 1
          have z34_0 := HQ34_0.out.lt
          have c34_1_0 := HQ34_1.out.cell 0
          have c34_1_1 := HQ34_1.out.cell 1
          have z34_1 := HQ34_1.out.lt
          simp at c34_0_0 c34_0_1 c34_1_0 c34_1_1
          go_wp2_with fail
          refine (hDZ _).mono ?_
          rintro e w35 ⟨rfl, hb35⟩
          have HQ35_0 := Lib.hid (HQ34_0.out.below hb35 HQ34_0.out.lt)
          have HQ35_1 := Lib.hid (HQ34_1.out.below hb35 HQ34_1.out.lt)
          have HB35 := Lib.hid (HB34.out.trans (hb35.mono HB34.out.size))
          clear hb35 c34_0_0 c34_0_1 z34_0 c34_1_0 c34_1_1 z34_1
          have c35_0_0 := HQ35_0.out.cell 0
          have c35_0_1 := HQ35_0.out.cell 1
          have z35_0 := HQ35_0.out.lt
          have c35_1_0 := HQ35_1.out.cell 0
          have c35_1_1 := HQ35_1.out.cell 1
          have z35_1 := HQ35_1.out.lt
          simp at c35_0_0 c35_0_1 c35_1_0 c35_1_1
          go_wp2_with fail
          go_ret
          exact ⟨by first | rfl | simp, HB35.out⟩
      · have hLB := fun W => lright_no hB W
        unfold rv at hLB
        clear hA hB huv
        have c30_0_0 := HA2.out.cell 0
        have c30_0_1 := HA2.out.cell 1
        have z30_0 := HA2.out.lt
        have c30_1_0 := HB2.out.cell 0
        have c30_1_1 := HB2.out.cell 1
        have z30_1 := HB2.out.lt
        simp at c30_0_0 c30_0_1 c30_1_0 c30_1_1
        go_wp2_with fail
        refine (hLA _).mono ?_
        rintro e w31 ⟨rfl, hb31⟩
        have HQ31_0 := Lib.hid (HA2.out.below hb31 HA2.out.lt)
        have HQ31_1 := Lib.hid (HB2.out.below hb31 HB2.out.lt)
        have HB31 := Lib.hid (HW2.out.trans (hb31.mono HW2.out.size))
        clear hb31 c30_0_0 c30_0_1 z30_0 c30_1_0 c30_1_1 z30_1
        have c31_0_0 := HQ31_0.out.cell 0
        have c31_0_1 := HQ31_0.out.cell 1
        have z31_0 := HQ31_0.out.lt
        have c31_1_0 := HQ31_1.out.cell 0
        have c31_1_1 := HQ31_1.out.cell 1
        have z31_1 := HQ31_1.out.lt
        simp at c31_0_0 c31_0_1 c31_1_0 c31_1_1
        go_wp2_with fail
        refine (hLB _).mono ?_
        rintro e w32 ⟨rfl, hb32⟩
        have HQ32_0 := Lib.hid (HQ31_0.out.below hb32 HQ31_0.out.lt)
        have HQ32_1 := Lib.hid (HQ31_1.out.below hb32 HQ31_1.out.lt)
        have HB32 := Lib.hid (HB31.out.trans (hb32.mono HB31.out.size))
        clear hb32 c31_0_0 c31_0_1 z31_0 c31_1_0 c31_1_1 z31_1
        have c32_0_0 := HQ32_0.out.cell 0
        have c32_0_1 := HQ32_0.out.cell 1
        have z32_0 := HQ32_0.out.lt
        have c32_1_0 := HQ32_1.out.cell 0
        have c32_1_1 := HQ32_1.out.cell 1
        have z32_1 := HQ32_1.out.lt
        simp at c32_0_0 c32_0_1 c32_1_0 c32_1_1
        go_wp2_with fail
        go_ret
        exact ⟨by first | rfl | simp, HB32.out⟩
    · have hLA := fun W => lright_no hA W
      unfold rv at hLA
      clear hA huv
      have c30_0_0 := HA2.out.cell 0
      have c30_0_1 := HA2.out.cell 1
      have z30_0 := HA2.out.lt
      have c30_1_0 := HB2.out.cell 0
      have c30_1_1 := HB2.out.cell 1
      have z30_1 := HB2.out.lt
      simp at c30_0_0 c30_0_1 c30_1_0 c30_1_1
      go_wp2_with fail
      refine (hLA _).mono ?_
      rintro e w31 ⟨rfl, hb31⟩
      have HQ31_0 := Lib.hid (HA2.out.below hb31 HA2.out.lt)
      have HQ31_1 := Lib.hid (HB2.out.below hb31 HB2.out.lt)
      have HB31 := Lib.hid (HW2.out.trans (hb31.mono HW2.out.size))
      clear hb31 c30_0_0 c30_0_1 z30_0 c30_1_0 c30_1_1 z30_1
      have c31_0_0 := HQ31_0.out.cell 0
      have c31_0_1 := HQ31_0.out.cell 1
      have z31_0 := HQ31_0.out.lt
      have c31_1_0 := HQ31_1.out.cell 0
      have c31_1_1 := HQ31_1.out.cell 1
      have z31_1 := HQ31_1.out.lt
      simp at c31_0_0 c31_0_1 c31_1_0 c31_1_1
      go_wp2_with fail
      go_ret
      exact ⟨by first | rfl | simp, HB31.out⟩
theorem Grows_any {p b p2 b2 d m : Nat} {P Q : Int} (hp : p < 4294967296) (hp2 : p2 < 4294967296) (hd : d < 65536) (hm : m < 65536) (w : World) :
    Calls Try.prog 4 #[rv p b, rv p2 b2, .int .i64 P, .int .i64 Q, .int .u16 (d : Int), .int .u16 (m : Int)] w (Ret (.bool true) w) :=
  Grows_all hd hm rfl rfl (by omega) (by omega) w
end Go.Proofs.Ytbfekonlgbolcaa
