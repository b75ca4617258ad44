/-
  CoinReads: the walk. Conditions: the laid variables' cells; the document's example holds.
-/
import Derived.Test.YtijkcolkedeibaaDoorCRdS
import Derived.Test.YtijkcolkedeibaaDoorCodeC
import Derived.Test.YtijkcolkedeibaaDoorCTxt
namespace Go.Proofs.YtijkcolkedeibaaDoor
open Go.RowKit Go.Lib

theorem RRead_any (S : ByteArray) (hS : S.size ≤ 40) (w : World) : Calls Tryd.prog 7 #[.string S] w (RRP S w) := by
  by_cases h0 : S.size = 0
  · exact RRead_shortE S hS h0 (by have := (beg_empty S h0).z; omega) w
  obtain ⟨d, hd⟩ : ∃ d, S[0]? = some d := ⟨S[0]'(by omega), getElem?_pos S 0 (by omega)⟩
  by_cases hl : (rsS S).length < 4
  · by_cases hd4 : d = 45
    · subst hd4
      exact RRead_shortM S hS hd hl w
    · exact RRead_shortO S hS d hd hd4 hl w
  have hl4 : 4 ≤ (rsS S).length := by omega
  obtain ⟨c, hc⟩ : ∃ c, (rsS S)[(rsS S).length - 3]? = some c := ⟨_, List.getElem?_eq_getElem (by omega)⟩
  obtain ⟨d0, hd0⟩ : ∃ d0, (rsS S)[0]? = some d0 := ⟨_, List.getElem?_eq_getElem (by omega)⟩
  by_cases hc4 : c = 46
  · by_cases hz : d0 = 48 ∧ 4 < (rsS S).length
    · by_cases hd4 : d = 45
      · subst hd4
        exact RRead_zeroM S hS hd hz.2 c hc hc4 d0 hd0 hz.1 w
      · exact RRead_zeroO S hS d hd hd4 hz.2 c hc hc4 d0 hd0 hz.1 w
    · have hz2 : d0 ≠ 48 ∨ (d0 = 48 ∧ (rsS S).length = 4) := by
        by_cases h : d0 = 48
        · exact .inr ⟨h, by have : ¬ 4 < (rsS S).length := fun h4 => hz ⟨h, h4⟩; omega⟩
        · exact .inl h
      by_cases hd4 : d = 45
      · subst hd4
        exact RRead_loopM S hS hd hl4 c hc hc4 d0 hd0 hz2 w
      · exact RRead_loopO S hS d hd hd4 hl4 c hc hc4 d0 hd0 hz2 w
  · by_cases hd4 : d = 45
    · subst hd4
      exact RRead_dotM S hS hd hl4 c hc hc4 w
    · exact RRead_dotO S hS d hd hd4 hl4 c hc hc4 w
theorem no_refs {S : ByteArray} (h : okS S = false) : refN S = 0 ∧ refE S = 15 := by
  cases hf : fmS S
  · exact refs_no hf
  · unfold okS at h
    rw [hf, Bool.true_and] at h
    have h2 : ngS S = true ∧ rsS S = [48, 46, 48, 48] := by simpa using h
    have hv : valS S = 0 := by unfold valS; rw [h2.2]; decide
    exact end_zero hf (by unfold fitS; rw [h2.1, hv]; rfl) h2.1 hv
theorem own_text {S : ByteArray} (h : okS S = true) (hv : fitS S = true) : ∃ a : Int, (-9223372036854775808 ≤ a ∧ a ≤ 9223372036854775807) ∧ S = textC a ∧ refN S = a ∧ refE S = 0 := by
  unfold okS at h
  rw [Bool.and_eq_true] at h
  obtain ⟨hf, hz⟩ := h
  have hf2 := hf
  unfold fmS at hf2
  rw [Bool.and_eq_true] at hf2
  have ht := val_text hf2.1 hf2.2
  have hzt := zero_text hf2.1 hf2.2
  have hnz : ¬ (ngS S = true ∧ valS S = 0) := fun ⟨h1, h2⟩ => by
    have := hzt.1 h2
    rw [h1, this] at hz
    exact absurd hz (by decide)
  obtain ⟨e1, e2⟩ := end_val hf hv hnz
  have hsp := split_S S
  refine ⟨_, ?_, ?_, e2, e1⟩
  · unfold fitS at hv
    cases hn : ngS S
    · rw [hn] at hv
      simp only [Bool.false_eq_true, if_false, decide_eq_true_eq] at hv ⊢
      omega
    · rw [hn] at hv
      simp only [if_true, decide_eq_true_eq] at hv ⊢
      omega
  · have hl : S.data.toList = (textC (if ngS S then -(valS S : Int) else (valS S : Int))).data.toList := by
      rw [text_lists, hsp, ht]
      cases hn : ngS S
      · simp only [Bool.false_eq_true, if_false, List.nil_append, Int.natAbs_natCast]
        rw [show sgnL (valS S : Int) = [] by unfold sgnL; rw [if_neg (by omega)], List.nil_append]
        rfl
      · have hpos : valS S ≠ 0 := fun e => hnz ⟨hn, e⟩
        simp only [if_true, Int.natAbs_neg, Int.natAbs_natCast]
        rw [show sgnL (-(valS S : Int)) = [45] by unfold sgnL; rw [if_pos (by omega)]]
        rfl
    obtain ⟨x⟩ := S
    obtain ⟨y, hy⟩ : ∃ y : ByteArray, textC (if ngS ⟨x⟩ then -(valS ⟨x⟩ : Int) else (valS ⟨x⟩ : Int)) = y := ⟨_, rfl⟩
    rw [hy] at hl ⊢
    obtain ⟨y⟩ := y
    exact congrArg ByteArray.mk (Array.toList_inj.1 hl)
set_option maxRecDepth 20000 in
set_option maxHeartbeats 1000000 in
theorem Text40_rd (s : ByteArray) (hs : s.size ≤ maxLen) (w : World) :
    Calls Tryd.prog 5 #[.string s, .int .i64 40] w fun e w' => (∃ s' : ByteArray, s'.size ≤ 40 ∧ e = .returned (.string s')) ∧ w = w' := by
  unfold maxLen at hs
  by_cases h : s.size ≤ 40
  · have h2 : min (s.size : Int) 40 = (s.size : Int) := by omega
    go_enter Tryd.func5, Tryd.ntmps5
    go_wp2_with fail
    go_ret
    refine ⟨⟨_, ?_, rfl⟩, rfl⟩
    first | exact h | (simp [ByteArray.size_extract] <;> omega)
  · go_enter Tryd.func5, Tryd.ntmps5
    go_wp2_with fail
    go_ret
    refine ⟨⟨_, ?_, rfl⟩, rfl⟩
    first | exact h | (simp [ByteArray.size_extract] <;> omega)
def RdP (w : World) (e : Ending) (w' : World) : Prop := e = .returned (.bool true) ∧ Below w.heap.size w w'
set_option maxRecDepth 20000 in
set_option maxHeartbeats 4000000 in
theorem CReads_any (s : ByteArray) (hs : s.size ≤ maxLen) (w : World) (hle : Laid w) (hp : Pows w) (m : Int) (hm : w.cell? ⟨3, 0, none⟩ = some (.int .i64 m))
    (a : Addr) (hR : w.cell? ⟨0, 0, none⟩ = some (.iface 127 (.pointer (some a)))) (hT : w.cell? ⟨6, 2, none⟩ = some (.int .u64 100)) :
    Calls Tryd.prog 3 #[.string s] w (RdP w) := by
  have cW := coin_awake w m hm _ _ hR hT
  have cT := fun W => Text40_rd s hs W
  have HM := Lib.hid hm
  have HR := Lib.hid hR
  have HP := Lib.hid hp
  have HL := Lib.hid hle
  clear hm hR hT hp hle hs
  go_enter Tryd.func3, Tryd.ntmps3
  go_wp2_with fail
  refine cW.mono ?_
  rintro e w1 ⟨rfl, hb1⟩
  have HB1 := Lib.hid hb1
  clear hb1 cW
  go_wp2_with fail
  refine (cT _).mono ?_
  rintro e w2 ⟨⟨S, hS, rfl⟩, rfl⟩
  have hm1 := (HB1.out.cell (p := ⟨3, 0, none⟩) (block_lt_of_cell HM.out)).trans HM.out
  have hR1 := (HB1.out.cell (p := ⟨0, 0, none⟩) (block_lt_of_cell HR.out)).trans HR.out
  have cRR := fun W => RRead_any S hS W
  unfold RRP at cRR
  cases hk : okS S
  · obtain ⟨e1, e2⟩ := no_refs hk
    rw [e1, e2] at cRR
    have cRd := Read_no S hS hk w1 m hm1
    have HRd := Lib.hid cRd
    have HRR := Lib.hid cRR
    clear cRd cRR e1 e2 hk hm1 hR1 cT
    go_wp2_with fail
    refine HRd.out.mono ?_
    rintro e w2 ⟨rfl, hb2⟩
    have HB2 := Lib.hid (HB1.out.trans (hb2.mono HB1.out.size))
    clear hb2
    go_wp2_with fail
    refine (HRR.out _).mono ?_
    rintro e w3 ⟨rfl, hb3⟩
    have HB3 := Lib.hid (HB2.out.trans (hb3.mono HB2.out.size))
    clear hb3
    have cC := Code_errno 15 w3 (HL.out.below HB3.out)
    go_wp2_with fail
    refine cC.mono ?_
    rintro e w4 ⟨rfl, hb4⟩
    have HB4 := Lib.hid (HB3.out.trans (hb4.mono HB3.out.size))
    clear hb4 cC
    go_wp2_with fail
    go_ret
    exact ⟨by first | rfl | simp, HB4.out⟩
  · cases hv : fitS S
    · have hf : fmS S = true := by unfold okS at hk; rw [Bool.and_eq_true] at hk; exact hk.1
      obtain ⟨e1, e2⟩ := end_over hf hv
      rw [e1, e2] at cRR
      have cRd := Read_over S hS hk (by
        unfold fitS at hv
        rintro (⟨h1, h2⟩ | ⟨h1, h2⟩)
        · rw [h1] at hv; simp only [Bool.false_eq_true, if_false, decide_eq_false_iff_not] at hv; omega
        · rw [h1] at hv; simp only [if_true, decide_eq_false_iff_not] at hv; omega) w1 m hm1 a hR1
      have HRd := Lib.hid cRd
      have HRR := Lib.hid cRR
      clear cRd cRR e1 e2 hk hm1 hR1 cT hf hv
      go_wp2_with fail
      refine HRd.out.mono ?_
      rintro e w2 ⟨rfl, hb2⟩
      have HB2 := Lib.hid (HB1.out.trans (hb2.mono HB1.out.size))
      clear hb2
      go_wp2_with fail
      refine (HRR.out _).mono ?_
      rintro e w3 ⟨rfl, hb3⟩
      have HB3 := Lib.hid (HB2.out.trans (hb3.mono HB2.out.size))
      clear hb3
      have cC := Code_errno 12 w3 (HL.out.below HB3.out)
      go_wp2_with fail
      refine cC.mono ?_
      rintro e w4 ⟨rfl, hb4⟩
      have HB4 := Lib.hid (HB3.out.trans (hb4.mono HB3.out.size))
      clear hb4 cC
      go_wp2_with fail
      go_ret
      exact ⟨by first | rfl | simp, HB4.out⟩
    · obtain ⟨n, hn, hSt, e1, e2⟩ := own_text hk hv
      rw [e1, e2] at cRR
      have cRd := Read_any n hn w1 m hm1 _ _ hR1
      have cTx := fun W (hP : Pows W) => CText_any n hn W hP
      rw [← hSt] at cRd cTx
      have HRd := Lib.hid cRd
      have HRR := Lib.hid cRR
      have HTx := Lib.hid cTx
      clear cRd cRR e1 e2 hk hm1 hR1 cT hv cTx hSt hn
      go_wp2_with fail
      refine HRd.out.mono ?_
      rintro e w2 ⟨rfl, hb2⟩
      have HB2 := Lib.hid (HB1.out.trans (hb2.mono HB1.out.size))
      clear hb2
      go_wp2_with fail
      refine (HRR.out _).mono ?_
      rintro e w3 ⟨rfl, hb3⟩
      have HB3 := Lib.hid (HB2.out.trans (hb3.mono HB2.out.size))
      clear hb3
      have cC := Code_nil w3
      go_wp2_with fail
      refine cC.mono ?_
      rintro e w4 ⟨rfl, rfl⟩
      clear cC
      go_wp2_with fail
      refine (HTx.out _ (HP.out.below HB3.out)).mono ?_
      rintro e w5 ⟨rfl, hb5⟩
      have HB5 := Lib.hid (HB3.out.trans (hb5.mono HB3.out.size))
      clear hb5
      go_wp2_with fail
      go_ret
      exact ⟨by first | rfl | simp, HB5.out⟩
end Go.Proofs.YtijkcolkedeibaaDoor
