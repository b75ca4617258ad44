/-
  QuillNil: the walk. Conditions: the number's kinds, the text is there; errors.errorType is laid.
-/
import Derived.Test.YtbfekonlgbolcabDoorQNils
import Derived.Test.YtbfekonlgbolcabDoorCodeC
namespace Go.Proofs.YtbfekonlgbolcabDoor
open Go.RowKit

/-- Block g is n bytes at least, none of them frozen. -/
def Row8 (w : World) (g n : Nat) : Prop := ∃ cs, Blk w g 5 cs ∧ ∀ j, j < n → ∃ z : Int, cs[j]? = some (.int .u8 z)
theorem Row8.set_ {w : World} {g n : Nat} (h : Row8 w g n) (i : Nat) (z : Int) : Row8 (w.setCell ⟨g, i, none⟩ (.int .u8 z)) g n := by
  obtain ⟨cs, hb, hc⟩ := h
  refine ⟨_, hb.set_ i (.int .u8 z), fun j hj => ?_⟩
  rw [Array.getElem?_setIfInBounds]
  split
  · split
    · exact ⟨z, rfl⟩
    · rename_i h1 h2
      obtain ⟨y, hy⟩ := hc j hj
      rw [Array.getElem?_eq_none (by omega)] at hy
      cases hy
  · exact hc j hj
theorem Row8.drew {w : World} {g n : Nat} (h : Row8 w g n) : Row8 w.drew g n := h
theorem Row8.at_ {w : World} {g n k : Nat} (h : Row8 w g n) (hk : k < n) : ∃ z : Int, w.cell? ⟨g, k, none⟩ = some (.int .u8 z) ∧ w.frozen? ⟨g, k, none⟩ = false := by
  obtain ⟨cs, hb, hc⟩ := h
  obtain ⟨z, hz⟩ := hc k hk
  exact ⟨z, by rw [hb.cell]; exact hz, hb.frozen k⟩
theorem Row8.below {w w' : World} {g n : Nat} (h : Row8 w g n) (hb : Below w.heap.size w w') : Row8 w' g n := by
  obtain ⟨cs, h1, h2⟩ := h
  exact ⟨cs, h1.below hb h1.lt, h2⟩
theorem Row8.lt {w : World} {g n : Nat} (h : Row8 w g n) : g < w.heap.size := by
  obtain ⟨cs, h1, _⟩ := h
  exact h1.lt
theorem own_row {w : World} {base : Nat} {v : Value} {l : List UInt8} (h : OwnB w base v l.length l) (hl : 0 < l.length) :
    ∃ g c, v = .slice (some ⟨g, 0, none⟩) l.length c ∧ l.length ≤ c ∧ c ≤ maxLen ∧ base ≤ g ∧ Rg w g (some ⟨g, 0, none⟩) l ∧ Row8 w g l.length := by
  obtain ⟨_, A, c, g, rfl, h1, h2, h3, h4, _, h6⟩ := own_rg h w.heap.size (by
    rcases h.2 with ⟨_, h0⟩ | ⟨g, cap, cur, _, hb, hg, _⟩
    · omega
    · have := (Array.getElem?_eq_some_iff.1 hg).1; omega)
  rcases h.2 with ⟨_, h0⟩ | ⟨g', cap, cur, hv, hb, hg, hnc, hcm, hcur, htk⟩
  · omega
  · injection hv with e1 e2 e3
    subst e1 e3
    have hgg : g = g' := by
      rcases h6 with h6 | ⟨h6, _⟩
      · simpa [Value.ownBlock] using h6.symm
      · subst h6; simp at hl
    subst hgg
    refine ⟨g, c, rfl, h1, h2, h3, h4, cur, hg, fun j hj => ?_⟩
    have hc := World.ownsRow.cells h (g := g) rfl j (enc8 l[j]) (by simp [List.getElem?_eq_getElem hj])
    refine ⟨(l[j].toNat : Int), ?_⟩
    have h7 : (⟨g, 0, none⟩ : Addr).add j = ⟨g, j, none⟩ := by unfold Addr.add; split <;> simp_all
    rw [h7] at hc
    rw [← Blk.cell (show Blk w g 5 cur from hg) j]
    exact hc
def DRow (w : World) (l : List UInt8) (e : Ending) (w' : World) : Prop := (∃ g, e = .returned (.slice (some ⟨g, 0, none⟩) l.length l.length) ∧ w.heap.size ≤ g ∧ Rg w' g (some ⟨g, 0, none⟩) l ∧ Row8 w' g l.length) ∧ Below w.heap.size w w'

set_option maxRecDepth 20000 in
set_option maxHeartbeats 400000 in
theorem QDone_row (B q : Nat) (r : Option Nat) (l : List UInt8) (hl0 : 0 < l.length) (hl : l.length ≤ 1000000) (w : World) (h : Qu w B q r l) :
    Calls Tryd.prog 20 #[.pointer (some ⟨q, 0, none⟩)] w (DRow w l) := by
  obtain ⟨hB, v, hk, ho, hr⟩ := h
  obtain ⟨_, A, c, g, rfl, hc1, hc2, _, hrg, hAn, _⟩ := own_rg ho B (Nat.le_refl _)
  have c0 := hk.cell 0
  simp at c0
  have hC := Clone8_any A l.length c w.heap.size l w hrg.rd rfl (by omega) (Nat.le_refl _) (fun e => ⟨by have := hAn e; omega, hAn e⟩)
  clear hk ho hr hrg hAn
  go_enter Tryd.func20, Tryd.ntmps20
  go_wp2_with fail
  refine hC.mono ?_
  rintro e w1 ⟨v1, rfl, hown, hb1⟩
  obtain ⟨g1, c1, rfl, hd1, hd2, hg1, hrg1, hrw1⟩ := own_row hown hl0
  have HRG := Lib.hid hrg1
  have HB := Lib.hid hb1
  have HRW := Lib.hid hrw1
  clear hrg1 hb1 hrw1 hown hC c0
  unfold maxLen at hd2
  go_wp2_with fail
  go_ret
  exact ⟨⟨g1, rfl, hg1, HRG.out, HRW.out⟩, HB.out⟩

set_option maxRecDepth 20000 in
set_option maxHeartbeats 1000000 in
theorem Text20_any (s : ByteArray) (hs : s.size ≤ maxLen) (w : World) :
    Calls Tryd.prog 15 #[.string s, .int .i64 20] w fun e w' => (∃ s' : ByteArray, s'.size ≤ 20 ∧ e = .returned (.string s')) ∧ w = w' := by
  unfold maxLen at hs
  by_cases h : s.size ≤ 20
  · have h2 : min (s.size : Int) 20 = (s.size : Int) := by omega
    go_enter Tryd.func15, Tryd.ntmps15
    go_wp2_with fail
    go_ret
    refine ⟨⟨_, ?_, rfl⟩, rfl⟩
    first | exact h | (simp [ByteArray.size_extract] <;> omega)
  · go_enter Tryd.func15, Tryd.ntmps15
    go_wp2_with fail
    go_ret
    refine ⟨⟨_, ?_, rfl⟩, rfl⟩
    first | exact h | (simp [ByteArray.size_extract] <;> omega)

theorem tV_lay (s : ByteArray) (hs : s.size ≤ 20) : tV 20 (some (layT s.data.toList)) = s := by
  unfold tV takeS takeU layT
  have e : s.data.toList.length = s.size := by simp
  have h := numT_lay 0 s.size s.data.toList (.inl rfl) (by omega)
  rw [e]
  simp only [Option.bind_some]
  rw [h]
  have e2 : List.take s.size s.data.toList = s.data.toList := List.take_of_length_le (by rw [e]; exact Nat.le_refl _)
  simp [hs, e2]

set_option maxRecDepth 20000 in
set_option maxHeartbeats 8000000 in
theorem QNil_any (n : Nat) (s : ByteArray) (m : Int) (w : World) (hg : Laid w) (hs : s.size ≤ maxLen) (hm : -9223372036854775808 ≤ m ∧ m ≤ 9223372036854775807) :
    Calls Tryd.prog 4 #[.int .u64 (n : Int), .string s, .int .i64 m] w fun e w' => e = .returned (.bool true) ∧ Below w.heap.size w w' := by
  have HG := Lib.hid hg
  clear hg
  go_enter Tryd.func4, Tryd.ntmps4
  go_wp2_with fail
  refine (awake8 _).mono ?_
  rintro e w1 ⟨rfl, hb1⟩
  have HB1 := Lib.hid hb1
  clear hb1
  go_wp2_with fail
  refine (Text20_any s hs _).mono ?_
  rintro e w9 ⟨⟨S, hS, rfl⟩, rfl⟩
  go_wp2_with fail
  refine (qUint n _).mono ?_
  rintro e w9 ⟨rfl, rfl⟩
  go_wp2_with fail
  refine (qInt3 _).mono ?_
  rintro e w9 ⟨rfl, rfl⟩
  go_wp2_with fail
  refine (qFlagT _).mono ?_
  rintro e w9 ⟨rfl, rfl⟩
  go_wp2_with fail
  refine (qText S _).mono ?_
  rintro e w9 ⟨rfl, rfl⟩
  go_wp2_with fail
  refine (qDone _).mono ?_
  rintro e w9 ⟨rfl, rfl⟩
  go_wp2_with fail
  refine (nUint n _).mono ?_
  rintro e w9 ⟨rfl, rfl⟩
  go_wp2_with fail
  refine (nInt _).mono ?_
  rintro e w9 ⟨rfl, rfl⟩
  go_wp2_with fail
  refine (nFlag _).mono ?_
  rintro e w9 ⟨rfl, rfl⟩
  go_wp2_with fail
  refine (nText m _ hm).mono ?_
  rintro e w9 ⟨rfl, rfl⟩
  go_wp2_with fail
  refine (nRest _).mono ?_
  rintro e w9 ⟨rfl, rfl⟩
  go_wp2_with fail
  refine (nEnd _).mono ?_
  rintro e w9 ⟨rfl, rfl⟩
  go_wp2_with fail
  refine (Code_errno 2 _ (HG.out.below HB1.out)).mono ?_
  rintro e w2 ⟨rfl, hb2⟩
  have HB2 := Lib.hid (HB1.out.trans (hb2.mono HB1.out.size))
  clear hb2 HB1
  obtain ⟨W5, hW5⟩ : ∃ W, w2.alloc (.cells #[.slice none 0 0] 53) = W := ⟨_, rfl⟩
  have h0 : Qu W5 w2.heap.size w2.heap.size none [] := by rw [← hW5]; exact Qu.new (Nat.le_refl _)
  have hb5 : Below w2.heap.size w2 W5 := by rw [← hW5]; exact (Below.refl _ w2).alloc (Nat.le_refl _) _
  have HT := Lib.hid (QText_any w2.heap.size w2.heap.size none [] S (by omega) (by simp) W5 h0)
  have HB5 := Lib.hid (HB2.out.trans (hb5.mono HB2.out.size))
  have HW5 := Lib.hid hW5
  clear h0 hb5 hW5
  go_wp2_with fail
  try rw [HW5.out]
  refine HT.out.mono ?_
  rintro e w6 ⟨rfl, ⟨rx, hq6, -⟩, hf6⟩
  rw [List.nil_append] at hq6
  have hb6 : Below w.heap.size w w6 := hf6.to_below HB5.out HB5.out.size (by have := HB2.out.size; omega) (fun g hg => nomatch hg)
  have hS20 := hS
  have hll : (layT S.data.toList).length ≤ 29 ∧ 0 < (layT S.data.toList).length := by
    unfold layT layN
    have := nb_le S.size (by omega)
    rw [List.length_append, List.length_cons, digs_len]
    simp
    omega
  have HTV := Lib.hid (tV_lay S hS)
  obtain ⟨LL, hLL⟩ : ∃ L, layT S.data.toList = L := ⟨_, rfl⟩
  rw [hLL] at hq6 hll HTV
  have HD := Lib.hid (QDone_row w2.heap.size w2.heap.size rx LL hll.2 (by omega) w6 hq6)
  have HQ6 := Lib.hid hq6
  have HB6 := Lib.hid hb6
  have HLL := Lib.hid hLL
  clear hq6 hb6 hf6 hLL HT HB5 HW5
  go_wp2_with fail
  refine HD.out.mono ?_
  rintro e w7 ⟨⟨g, rfl, hgg, hrg, hrow⟩, hb7⟩
  have HK := Lib.hid (Look_any (some ⟨g, 0, none⟩) LL.length LL.length w7.heap.size LL w7 hrg.rd rfl (by omega) (Nat.le_refl _) (fun h => nomatch h))
  have HQ7 := Lib.hid (HQ6.out.below hb7)
  have HB7 := Lib.hid (HB6.out.trans (hb7.mono HB6.out.size))
  have HRW := Lib.hid hrow
  have hz67 := hb7.size
  have hq6 := HQ6.out.lt
  have hrx : ∀ x, rx = some x → x < w6.heap.size := fun x hx => (HQ6.out.row x hx).2
  have HRX := Lib.hid hrx
  clear hrg hrow hb7 HQ6 HB6 HD hrx
  go_wp2_with fail
  refine HK.out.mono ?_
  rintro e w8 ⟨b, g7, rfl, hbb, hg7, hgl, hln, hb8⟩
  have HQ8 := Lib.hid (HQ7.out.below hb8)
  have HB8 := Lib.hid (HB7.out.trans (hb8.mono HB7.out.size))
  have HRW8 := Lib.hid (HRW.out.below hb8)
  have hg8 := HRW.out.lt
  have HLN := Lib.hid hln
  have hz78 := hb8.size
  clear hln hb8 HQ7 HB7 HRW HK
  go_wp2_with fail
  go_loopw [70] (fun i wr => ∃ k : Nat, k ≤ LL.length ∧ i = .int .i64 k ∧ Hid (Row8 wr g LL.length) ∧ Hid (Far w8 wr g none)) (fun i _ => LL.length - (intOf i).toNat)
  case atStart => exact ⟨0, Nat.zero_le _, rfl, HRW8, Lib.hid (Far.refl _ _ _)⟩
  case round =>
    obtain ⟨k, hk, rfl, HR, HF⟩ := hrel
    by_cases hlt : k < LL.length
    · obtain ⟨z, hz, hfz⟩ := HR.out.at_ hlt
      go_wp2_with fail
      go_roundw
      case rel => exact ⟨k + 1, by omega, by go_num, Lib.hid (HR.out.set_ k _), Lib.hid (HF.out.set k _)⟩
      case measure => simp [intOf]; omega
    · obtain rfl : k = LL.length := by omega
      have hlr : Ln wr b g7 (some LL) := HLN.out.past HF.out (by omega) (by simp) (by omega) (by simp)
      have hqr : Qu wr w2.heap.size w2.heap.size rx LL := HQ8.out.past HF.out (by omega) (by simp) (fun h => by have := HRX.out g h; omega) (by cases rx with | none => exact Or.inl rfl | some x => exact Or.inr (by simp))
      have hbr : Below w.heap.size w wr := HF.out.to_below HB8.out HB8.out.size (by have := HB2.out.size; omega) (fun g hg => nomatch hg)
      have HTx := Lib.hid (LText_any b g7 20 (by decide) (some LL) wr hlr)
      have hblt := hlr.lt
      have HQr := Lib.hid hqr
      have HBr := Lib.hid hbr
      have hzr := HF.out.2.2.2.1
      have hz2 := HB2.out.size
      clear hlr hqr hbr HLN HQ8 HB8 HR HRW8
      go_wp2_with fail
      refine HTx.out.mono ?_
      rintro e w10 ⟨rfl, -, hf10⟩
      rw [HTV.out]
      have hq10 : Qu w10 w2.heap.size w2.heap.size rx LL := HQr.out.past hf10 (by omega) (by simp) (fun h => by have := HRX.out b h; omega) (by cases rx with | none => exact Or.inl rfl | some x => exact Or.inr (by simp))
      have HB10 := Lib.hid (hf10.to_below HBr.out HBr.out.size (by omega) (fun g hg => nomatch hg))
      have HD2 := Lib.hid (QDone_any w2.heap.size w2.heap.size rx LL (by omega) w10 hq10)
      clear hq10 hf10 HTx HQr HBr
      go_wp2_with fail
      refine HD2.out.mono ?_
      rintro e w11 ⟨⟨A5, g5, rfl, -, -, hrg5⟩, hb11⟩
      have HR5 := Lib.hid hrg5.rd
      have HB11 := Lib.hid (HB10.out.trans (hb11.mono HB10.out.size))
      have HRT := Lib.hid (RText_any S (by omega) w11)
      rw [HLL.out] at HRT
      clear hrg5 hb11 HB10 HD2
      go_wp2_with fail
      refine HRT.out.mono ?_
      rintro e w12 ⟨v, rfl, ho, hb12⟩
      obtain ⟨_, A6, c6, g6, rfl, hc6, hm6, _, hrg6, _, _⟩ := own_rg ho w11.heap.size (Nat.le_refl _)
      have HS := Lib.hid (Same_any A5 A6 LL.length LL.length w11.heap.size LL.length c6 w12.heap.size LL LL w12 (HR5.out.below hb12) rfl (by unfold maxLen; omega) hrg6.rd rfl (by unfold maxLen; omega))
      rw [show decide (LL = LL) = true by simp] at HS
      have HB12 := Lib.hid (HB11.out.trans (hb12.mono HB11.out.size))
      clear ho hb12 hrg6 HR5 HB11 HRT
      go_wp2_with fail
      refine (HS.out.mono fun _ _ h => below_all h).mono ?_
      rintro e w13 ⟨rfl, hb13⟩
      go_wp2_with fail
      go_ret
      exact ⟨by first | rfl | simp, HB12.out.trans (hb13.mono HB12.out.size)⟩
end Go.Proofs.YtbfekonlgbolcabDoor
