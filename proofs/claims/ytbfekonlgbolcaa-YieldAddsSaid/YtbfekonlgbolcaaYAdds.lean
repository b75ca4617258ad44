/-
  YieldAdds: the walk. Conditions: the numbers' kinds; the days are there.
-/
import Derived.Test.YtbfekonlgbolcaaYBounds
import Derived.Test.YtbfekonlgbolcaaRowsS
import Derived.LoopTactic
namespace Go.Proofs.Ytbfekonlgbolcaa
open Go.RowKit Go.BigFrame

theorem sums_lt {X U S L A c : Nat} (h : S * U + L = X * A + c) (hX : X ≤ 1000000000000000000) (hA : A ≤ 100000) (hU : 360000000 ≤ U) (hc : c < U) (hL : L < U) : S < 1000000000000000 := by
  rw [← (adds_end h hL).1]
  exact div_small hX hA hU hc
theorem at_S {l : List Int} {k n : Nat} (hl : ∀ u ∈ l, 0 ≤ u ∧ u ≤ 65535) (hn : l.length = n) (hk : k < n) : ∃ x : Nat, x ≤ 65535 ∧ (l.map encS)[k]? = some (.int .u16 (x : Int)) := by
  have hk' : k < l.length := by omega
  obtain ⟨h0, h1⟩ := hl l[k] (List.getElem_mem hk')
  refine ⟨l[k].toNat, by omega, ?_⟩
  rw [List.getElem?_map, List.getElem?_eq_getElem hk']
  simp only [Option.map_some, encS]
  rw [Int.toNat_of_nonneg h0]

set_option maxRecDepth 20000 in
set_option maxHeartbeats 4000000 in
theorem Adds_no {p b c : Nat} {P : Int} (A : Option Addr) (n cc : Nat) (h : ¬ okB p b P 0 c) (w : World) :
    Calls Try.prog 3 #[rv p b, .int .i64 P, .slice A n cc, .int .u64 (c : Int)] w (Ret (.bool true) w) := by
  have hL := fun W => lright_no h W
  unfold rv at hL ⊢
  clear h
  go_enter Try.func3, Try.ntmps3
  have HQ0 := Lib.hid (Blk.new w 24 #[.int .u32 (p : Int), .int .u8 (b : Int)])
  have HB0 := Lib.hid (b_alloc w (.cells #[.int .u32 (p : Int), .int .u8 (b : Int)] 24))
  go_wp2_with fail
  refine (awake9 _).mono ?_
  rintro e w1 ⟨rfl, hb1⟩
  have HQ1_0 := Lib.hid (HQ0.out.below hb1 HQ0.out.lt)
  have HB1 := Lib.hid (HB0.out.trans (hb1.mono HB0.out.size))
  clear hb1
  have c1_0_0 := HQ1_0.out.cell 0
  have c1_0_1 := HQ1_0.out.cell 1
  have z1_0 := HQ1_0.out.lt
  simp at c1_0_0 c1_0_1
  go_wp2_with fail
  refine (hL _).mono ?_
  rintro e w2 ⟨rfl, hb2⟩
  have HQ2_0 := Lib.hid (HQ1_0.out.below hb2 HQ1_0.out.lt)
  have HB2 := Lib.hid (HB1.out.trans (hb2.mono HB1.out.size))
  clear hb2 c1_0_0 c1_0_1 z1_0
  have c2_0_0 := HQ2_0.out.cell 0
  have c2_0_1 := HQ2_0.out.cell 1
  have z2_0 := HQ2_0.out.lt
  simp at c2_0_0 c2_0_1
  go_wp2_with fail
  go_ret
  exact ⟨rfl, HB2.out⟩
set_option maxRecDepth 20000 in
set_option maxHeartbeats 4000000 in
theorem Adds_yes {P p b c : Nat} (A : Option Addr) (n cc : Nat) (l : List Int) (h : okB p b P 0 c) (w : World) (hR : Rv w w.heap.size A (l.map encS)) (hn : l.length = n) (hm : n ≤ 140737488355328) (hl : ∀ u ∈ l, 0 ≤ u ∧ u ≤ 65535) :
    Calls Try.prog 3 #[rv p b, .int .i64 (P : Int), .slice A n cc, .int .u64 (c : Int)] w (Ret (.bool true) w) := by
  have hL := fun W => lright_yes h W
  obtain ⟨hr, h0, h1, -, -, hc⟩ := h
  have hP : P ≤ 1000000000000 := by omega
  have hX := pp_le hP hr.1
  have hU := (unitN_bd b).1
  obtain ⟨X, hXe⟩ : ∃ X, P * p = X := ⟨_, rfl⟩
  obtain ⟨U, hUe⟩ : ∃ U, unitN b = U := ⟨_, rfl⟩
  rw [hXe] at hX
  rw [hUe] at hU
  have HR := Lib.hid hR
  have HN := Lib.hid hn
  have HL := Lib.hid hl
  have HC := Lib.hid hc
  have HXe := Lib.hid hXe
  have HUe := Lib.hid hUe
  have HRt := Lib.hid hr
  unfold rv at hL ⊢
  clear h0 h1 hR hn hl hc hXe hUe hr
  go_enter Try.func3, Try.ntmps3
  have HQ0 := Lib.hid (Blk.new w 24 #[.int .u32 (p : Int), .int .u8 (b : Int)])
  have HB0 := Lib.hid (b_alloc w (.cells #[.int .u32 (p : Int), .int .u8 (b : Int)] 24))
  go_wp2_with fail
  refine (awake9 _).mono ?_
  rintro e w1 ⟨rfl, hb1⟩
  have HQ1_0 := Lib.hid (HQ0.out.below hb1 HQ0.out.lt)
  have HB1 := Lib.hid (HB0.out.trans (hb1.mono HB0.out.size))
  clear hb1
  have c1_0_0 := HQ1_0.out.cell 0
  have c1_0_1 := HQ1_0.out.cell 1
  have z1_0 := HQ1_0.out.lt
  simp at c1_0_0 c1_0_1
  go_wp2_with fail
  refine (hL _).mono ?_
  rintro e w2 ⟨rfl, hb2⟩
  have HQ2_0 := Lib.hid (HQ1_0.out.below hb2 HQ1_0.out.lt)
  have HB2 := Lib.hid (HB1.out.trans (hb2.mono HB1.out.size))
  clear hb2 c1_0_0 c1_0_1 z1_0
  have c2_0_0 := HQ2_0.out.cell 0
  have c2_0_1 := HQ2_0.out.cell 1
  have z2_0 := HQ2_0.out.lt
  simp at c2_0_0 c2_0_1
  go_wp2_with fail
  clear c2_0_0 c2_0_1 z2_0 hL
  go_loopw [9, 10, 11, 30] (fun s a e i wr => ∃ k S L AA : Nat, s = .int .i64 (S : Int) ∧ a = .int .i64 (AA : Int) ∧ e = .int .u64 (L : Int) ∧ i = .int .i64 (k : Int) ∧ k ≤ n ∧ k ≤ 40 ∧ Hid (S * U + L = X * AA + c) ∧ L < U ∧ AA ≤ 1000 * k ∧ Blk wr w.heap.size 24 #[.int .u32 (p : Int), .int .u8 (b : Int)] ∧ Below w.heap.size w wr) (fun _ _ _ i _ => n - (intOf i).toNat)
  case atStart =>
    refine ⟨0, 0, c, 0, rfl, rfl, rfl, rfl, Nat.zero_le _, Nat.zero_le _, Lib.hid (by omega), ?_, Nat.zero_le _, HQ2_0.out, HB2.out⟩
    rw [← HUe.out]
    exact HC.out
  case round =>
    obtain ⟨k, S, L, AA, rfl, rfl, rfl, rfl, hk, h40, HI, hL, hAA, hQr, hBr⟩ := hrel
    have HQr := Lib.hid hQr
    have HBr := Lib.hid hBr
    have hc := HC.out
    have hr := HRt.out
    have hXe := HXe.out
    have hUe := HUe.out
    clear hQr hBr
    by_cases hlt : k < n
    · by_cases h40' : k < 40
  
      · have hR1 := (HR.out.below HBr.out).at_ (k := k) (by rw [List.length_map, HN.out]; exact hlt)
        obtain ⟨b0, o0, hAe, hb0, hc0⟩ := hR1
        obtain ⟨x, hx, hxe⟩ := at_S HL.out HN.out hlt
        rw [List.getElem?_eq_getElem (by rw [List.length_map, HN.out]; exact hlt)] at hxe
        rw [Option.some.inj hxe] at hc0
        obtain ⟨y, hy⟩ : ∃ y, x % 1000 = y := ⟨_, rfl⟩
        have hy1 : y < 1000 := by omega
        have hD := fun W => Days_yes (P := P) (p := p) (b := b) (d := y) (c := L) hP hr (by omega) (by rw [hUe]; exact hL) W
        rw [hXe, hUe] at hD
        have HI2 := Lib.hid (adds_step (k := y) HI.out)
        have hL2 := Nat.mod_lt (X * y + L) (show 0 < U by omega)
        obtain ⟨q, hq⟩ : ∃ q, (X * y + L) / U = q := ⟨_, rfl⟩
        obtain ⟨s, hs⟩ : ∃ s, (X * y + L) % U = s := ⟨_, rfl⟩
        rw [hq, hs] at HI2 hD
        rw [hs] at hL2
        have hS := sums_lt HI2.out hX (by omega) hU (by rw [← hUe]; exact hc) hL2
        have i1 : IntKind.i64.wrap ((S : Int) + (q : Int)) = (S : Int) + (q : Int) := by rw [IntKind.wrap_i64]; omega
        have i2 : (x : Int) % 1000 = (y : Int) := by omega
        have i3 : IntKind.i64.wrap (y : Int) = (y : Int) := by rw [IntKind.wrap_i64]; omega
        have i4 : IntKind.i64.wrap ((AA : Int) + (y : Int)) = (AA : Int) + (y : Int) := by rw [IntKind.wrap_i64]; omega
        have hH : Hid (AA + y ≤ 1000 * (k + 1)) := Lib.hid (by omega)
        unfold rv at hD
        subst hAe
        clear hxe hq hs hy hy1 hX hU hL hAA h40 hP hc hb0 hr hXe hUe hS hx HI
        have c20_0_0 := HQr.out.cell 0
        have c20_0_1 := HQr.out.cell 1
        have z20_0 := HQr.out.lt
        simp at c20_0_0 c20_0_1
        go_wp2_with fail
        refine (hD _).mono ?_
        rintro e w21 ⟨rfl, hb21⟩
        have HQ21_0 := Lib.hid (HQr.out.below hb21 HQr.out.lt)
        have HB21 := Lib.hid (HBr.out.trans (hb21.mono HBr.out.size))
        clear hb21 c20_0_0 c20_0_1 z20_0
        have c21_0_0 := HQ21_0.out.cell 0
        have c21_0_1 := HQ21_0.out.cell 1
        have z21_0 := HQ21_0.out.lt
        simp at c21_0_0 c21_0_1
        go_wp2_with fail
        go_roundw
        case rel => exact ⟨k + 1, S + q, s, AA + y, congrArg _ (by omega), congrArg _ (by omega), rfl, congrArg _ (by omega), by omega, by omega, HI2, hL2, hH.out, HQ21_0.out, HB21.out⟩
        case measure => simp [intOf]; omega
      · obtain rfl : k = 40 := by omega
        have hR1 := (HR.out.below HBr.out).at_ (k := 40) (by rw [List.length_map, HN.out]; exact hlt)
        obtain ⟨b0, o0, hAe, hb0, hc0⟩ := hR1
        obtain ⟨x, hx, hxe⟩ := at_S HL.out HN.out hlt
        rw [List.getElem?_eq_getElem (by rw [List.length_map, HN.out]; exact hlt)] at hxe
        rw [Option.some.inj hxe] at hc0
        subst hAe
        clear hxe hx hb0
        have j1 : (40 : Int) < (n : Int) := by omega
        obtain ⟨q1, q2⟩ := adds_end HI.out hL
        have hD := fun W => Days_yes (P := P) (p := p) (b := b) (d := AA) (c := c) hP hr (by omega) hc W
        rw [hXe, hUe, q1, q2] at hD
        unfold rv at hD
        clear hX hU hL hAA hk h40 q1 q2 hP hc
        have c20_0_0 := HQr.out.cell 0
        have c20_0_1 := HQr.out.cell 1
        have z20_0 := HQr.out.lt
        simp at c20_0_0 c20_0_1
        go_wp2_with fail
        refine (hD _).mono ?_
        rintro e w21 ⟨rfl, hb21⟩
        have HQ21_0 := Lib.hid (HQr.out.below hb21 HQr.out.lt)
        have HB21 := Lib.hid (HBr.out.trans (hb21.mono HBr.out.size))
        clear hb21 c20_0_0 c20_0_1 z20_0
        have c21_0_0 := HQ21_0.out.cell 0
        have c21_0_1 := HQ21_0.out.cell 1
        have z21_0 := HQ21_0.out.lt
        simp at c21_0_0 c21_0_1
        go_wp2_with fail
        go_ret
        exact ⟨by first | rfl | simp, HB21.out⟩
    · obtain rfl : k = n := by omega
      obtain ⟨q1, q2⟩ := adds_end HI.out hL
      have hD := fun W => Days_yes (P := P) (p := p) (b := b) (d := AA) (c := c) hP hr (by omega) hc W
      rw [hXe, hUe, q1, q2] at hD
      unfold rv at hD
      clear hX hU hL hAA hk h40 q1 q2 hP hc
      have c20_0_0 := HQr.out.cell 0
      have c20_0_1 := HQr.out.cell 1
      have z20_0 := HQr.out.lt
      simp at c20_0_0 c20_0_1
      go_wp2_with fail
      refine (hD _).mono ?_
      rintro e w21 ⟨rfl, hb21⟩
      have HQ21_0 := Lib.hid (HQr.out.below hb21 HQr.out.lt)
      have HB21 := Lib.hid (HBr.out.trans (hb21.mono HBr.out.size))
      clear hb21 c20_0_0 c20_0_1 z20_0
      have c21_0_0 := HQ21_0.out.cell 0
      have c21_0_1 := HQ21_0.out.cell 1
      have z21_0 := HQ21_0.out.lt
      simp at c21_0_0 c21_0_1
      go_wp2_with fail
      go_ret
      exact ⟨by first | rfl | simp, HB21.out⟩
theorem Adds_any {p b c : Nat} {P : Int} {A : Option Addr} {n cc : Nat} {l : List Int} (w : World) (hR : Rv w w.heap.size A (l.map encS)) (hn : l.length = n) (hm : n ≤ 140737488355328) (hl : ∀ u ∈ l, 0 ≤ u ∧ u ≤ 65535) :
    Calls Try.prog 3 #[rv p b, .int .i64 P, .slice A n cc, .int .u64 (c : Int)] w (Ret (.bool true) w) := by
  by_cases h : okB p b P 0 c
  · obtain ⟨Q, rfl⟩ : ∃ Q : Nat, P = (Q : Int) := ⟨P.toNat, by have := h.2.1; omega⟩
    exact Adds_yes A n cc l h w hR hn hm hl
  · exact Adds_no A n cc h w
end Go.Proofs.Ytbfekonlgbolcaa
