/-
  strconv.Atoi of any short text; date.Read of a text that is no day's. Conditions: the months' lengths, strconv's powers of ten and its two errors are laid.
-/
import Derived.Test.YtjcnglkjjhnpbaaGreatDoorTextB
namespace Go.Proofs.YtjcnglkjjhnpbaaGreatDoor
open Go.RowKit

/-- strconv's two errors are there. -/
def Errs (w : World) : Prop := (∃ t p, w.cell? ⟨4, 0, none⟩ = some (.iface t p)) ∧ (∃ t p, w.cell? ⟨1, 0, none⟩ = some (.iface t p))
theorem Errs.below {w w' : World} (h : Errs w) (hb : Below w.heap.size w w') : Errs w' := by
  obtain ⟨⟨t, p, h1⟩, ⟨u, q, h2⟩⟩ := h
  exact ⟨⟨t, p, (hb.cell (p := ⟨4, 0, none⟩) (block_lt_of_cell h1)).trans h1⟩, ⟨u, q, (hb.cell (p := ⟨1, 0, none⟩) (block_lt_of_cell h2)).trans h2⟩⟩
/-- A number and an error that is there. -/
def AtoiErr (w : World) (e : Ending) (w' : World) : Prop := (∃ (v : Int) (t : TypeId) (N : Addr), e = .returned (.tuple #[.int .i64 v, .iface t (.pointer (some N))])) ∧ Below w.heap.size w w'
theorem Atoi_gen (s : ByteArray) (hl : s.size ≤ 20) :
    (∃ v : Int, ∀ W, Calls Tryz.prog 59 #[.string s] W fun e w' => e = .returned (.tuple #[.int .i64 v, .nilIface]) ∧ Below W.heap.size W w') ∨
      (∀ W, Errs W → Calls Tryz.prog 59 #[.string s] W (AtoiErr W)) := by
  cases h : Lib.atoiAll s.data.toList
  · rename_i v
    refine Or.inl ⟨v, fun W => (Tryz.strconv_Atoi_ok s (by omega) v h W).mono ?_⟩
    rintro e w' ⟨he, hw⟩
    refine ⟨he, ?_⟩
    rcases hw with rfl | ⟨t, rfl⟩
    · exact Below.refl _ _
    · exact below_bytes _ _ _
  · refine Or.inr fun W hE => ?_
    obtain ⟨⟨t, p, h1⟩, -⟩ := hE
    refine (Any.strconv_Atoi_syntax Tryz.laysC172 s (by omega) h _ W h1 (Or.inr ⟨t, p, rfl⟩)).mono ?_
    rintro e w' ⟨N, he, -, -, hb⟩
    exact ⟨⟨_, _, _, he⟩, hb⟩
  · refine Or.inr fun W hE => ?_
    obtain ⟨-, ⟨t, p, h1⟩⟩ := hE
    refine (Any.strconv_Atoi_range Tryz.laysC172 s (by omega) h _ W h1 (Or.inr ⟨t, p, rfl⟩)).mono ?_
    rintro e w' ⟨N, he, -, -, hb⟩
    exact ⟨⟨_, _, _, he⟩, hb⟩

theorem ext_le (s : ByteArray) (a b : Nat) (h : s.size ≤ 20) : (s.extract a b).size ≤ 20 := by
  rw [ByteArray.size_extract]
  omega
def noDay (s : ByteArray) : Prop := ∀ n : Int, 0 ≤ n → n ≤ 3652058 → s ≠ dayText n
theorem noDay_text {s : ByteArray} (h : noDay s) (n : Int) (h0 : 0 ≤ n) (h1 : n ≤ 3652058) : ((dayText n).toList != s.toList) = true ∧ ((dayText n).toList == s.toList) = false := by
  have hne : (dayText n).toList ≠ s.toList := by
    intro e
    apply h n h0 h1
    apply ByteArray.ext
    apply Array.toList_inj.1
    rw [← ByteArray.toList_eq, ← ByteArray.toList_eq, e]
  exact ⟨bne_iff_ne.2 hne, beq_eq_false_iff_ne.2 hne⟩

set_option maxRecDepth 20000 in
set_option maxHeartbeats 2000000 in
theorem DRead_no (s : ByteArray) (hl : s.size ≤ 20) (h : noDay s) (w : World) (hw : Lens w) (hp : Pows w) (hE : Errs w) :
    Calls Tryz.prog 60 #[.string s] w fun e w' => e = .returned (.tuple #[.int .i32 0, .iface 45 (.int .i64 15)]) ∧ Below w.heap.size w w' := by
  have HW := Lib.hid hw
  have HP := Lib.hid hp
  have HE := Lib.hid hE
  clear hw hp hE
  by_cases hz : s.size = 10
  · have g1 := Atoi_gen (s.extract 0 4) (ext_le s 0 4 hl)
    have g2 := Atoi_gen (s.extract 5 7) (ext_le s 5 7 hl)
    have g3 := Atoi_gen (s.extract 8 10) (ext_le s 8 10 hl)
    have HN := Lib.hid h
    clear h hl
    rcases g1 with ⟨y, g1⟩ | g1 <;> rcases g2 with ⟨m, g2⟩ | g2 <;> rcases g3 with ⟨d, g3⟩ | g3
    · cases hr : rightB y m d
      · have hN := fun W (hW : Lens W) => CNum_no y m d hr W hW
        clear hr HN
        go_enter Tryz.func60, Tryz.ntmps60
        go_wp2_with fail
        refine (g1 _).mono ?_
        rintro e w1 ⟨rfl, hb1⟩
        have HB1 := Lib.hid hb1
        clear hb1
        go_wp2_with fail
        refine (g2 _).mono ?_
        rintro e w2 ⟨rfl, hb2⟩
        have HB2 := Lib.hid (HB1.out.trans (hb2.mono HB1.out.size))
        clear hb2
        go_wp2_with fail
        refine (g3 _).mono ?_
        rintro e w3 ⟨rfl, hb3⟩
        have HB3 := Lib.hid (HB2.out.trans (hb3.mono HB2.out.size))
        clear hb3
        go_wp2_with fail
        refine (hN _ (HW.out.below HB3.out)).mono ?_
        rintro e w4 ⟨rfl, hb4⟩
        have HB4 := Lib.hid (HB3.out.trans (hb4.mono HB3.out.size))
        clear hb4
        go_wp2_with fail
        go_ret2
        exact ⟨rfl, HB4.out⟩
      · have hN := fun W (hW : Lens W) => CNum_yes y m d hr W hW
        obtain ⟨n0, n1, -, -, -⟩ := And.intro (num_in hr).2.2.2.2.1 (And.intro (num_in hr).2.2.2.2.2 (And.intro trivial (And.intro trivial trivial)))
        have hT := fun W (hW : Lens W) (hP : Pows W) => DText_any (num y m d) n0 n1 W hW hP
        obtain ⟨q1, q2⟩ := noDay_text HN.out (num y m d) n0 n1
        generalize dayText (num y m d) = S at *
        generalize num y m d = N at *
        clear hr HN
        go_enter Tryz.func60, Tryz.ntmps60
        go_wp2_with fail
        refine (g1 _).mono ?_
        rintro e w1 ⟨rfl, hb1⟩
        have HB1 := Lib.hid hb1
        clear hb1
        go_wp2_with fail
        refine (g2 _).mono ?_
        rintro e w2 ⟨rfl, hb2⟩
        have HB2 := Lib.hid (HB1.out.trans (hb2.mono HB1.out.size))
        clear hb2
        go_wp2_with fail
        refine (g3 _).mono ?_
        rintro e w3 ⟨rfl, hb3⟩
        have HB3 := Lib.hid (HB2.out.trans (hb3.mono HB2.out.size))
        clear hb3
        go_wp2_with fail
        refine (hN _ (HW.out.below HB3.out)).mono ?_
        rintro e w4 ⟨rfl, hb4⟩
        have HB4 := Lib.hid (HB3.out.trans (hb4.mono HB3.out.size))
        clear hb4
        go_wp2_with fail
        refine (hT _ (HW.out.below HB4.out) (HP.out.below HB4.out)).mono ?_
        rintro e w5 ⟨rfl, hb5⟩
        have HB5 := Lib.hid (HB4.out.trans (hb5.mono HB4.out.size))
        clear hb5
        go_wp2_with fail
        go_ret2
        exact ⟨rfl, HB5.out⟩
    · go_enter Tryz.func60, Tryz.ntmps60
      go_wp2_with fail
      refine (g1 _).mono ?_
      rintro e w1 ⟨rfl, hb1⟩
      have HB1 := Lib.hid (hb1)
      clear hb1
      go_wp2_with fail
      refine (g2 _).mono ?_
      rintro e w2 ⟨rfl, hb2⟩
      have HB2 := Lib.hid (HB1.out.trans (hb2.mono HB1.out.size))
      clear hb2
      go_wp2_with fail
      refine (g3 _ (HE.out.below HB2.out)).mono ?_
      rintro e w3 ⟨⟨v3, t3, N3, rfl⟩, hb3⟩
      have HB3 := Lib.hid (HB2.out.trans (hb3.mono HB2.out.size))
      clear hb3
      go_wp2_with fail
      go_ret2
      exact ⟨rfl, HB3.out⟩
    · go_enter Tryz.func60, Tryz.ntmps60
      go_wp2_with fail
      refine (g1 _).mono ?_
      rintro e w1 ⟨rfl, hb1⟩
      have HB1 := Lib.hid (hb1)
      clear hb1
      go_wp2_with fail
      refine (g2 _ (HE.out.below HB1.out)).mono ?_
      rintro e w2 ⟨⟨v2, t2, N2, rfl⟩, hb2⟩
      have HB2 := Lib.hid (HB1.out.trans (hb2.mono HB1.out.size))
      clear hb2
      go_wp2_with fail
      refine (g3 _).mono ?_
      rintro e w3 ⟨rfl, hb3⟩
      have HB3 := Lib.hid (HB2.out.trans (hb3.mono HB2.out.size))
      clear hb3
      go_wp2_with fail
      go_ret2
      exact ⟨rfl, HB3.out⟩
    · go_enter Tryz.func60, Tryz.ntmps60
      go_wp2_with fail
      refine (g1 _).mono ?_
      rintro e w1 ⟨rfl, hb1⟩
      have HB1 := Lib.hid (hb1)
      clear hb1
      go_wp2_with fail
      refine (g2 _ (HE.out.below HB1.out)).mono ?_
      rintro e w2 ⟨⟨v2, t2, N2, rfl⟩, hb2⟩
      have HB2 := Lib.hid (HB1.out.trans (hb2.mono HB1.out.size))
      clear hb2
      go_wp2_with fail
      refine (g3 _ (HE.out.below HB2.out)).mono ?_
      rintro e w3 ⟨⟨v3, t3, N3, rfl⟩, hb3⟩
      have HB3 := Lib.hid (HB2.out.trans (hb3.mono HB2.out.size))
      clear hb3
      go_wp2_with fail
      go_ret2
      exact ⟨rfl, HB3.out⟩
    · go_enter Tryz.func60, Tryz.ntmps60
      go_wp2_with fail
      refine (g1 _ (HE.out)).mono ?_
      rintro e w1 ⟨⟨v1, t1, N1, rfl⟩, hb1⟩
      have HB1 := Lib.hid (hb1)
      clear hb1
      go_wp2_with fail
      refine (g2 _).mono ?_
      rintro e w2 ⟨rfl, hb2⟩
      have HB2 := Lib.hid (HB1.out.trans (hb2.mono HB1.out.size))
      clear hb2
      go_wp2_with fail
      refine (g3 _).mono ?_
      rintro e w3 ⟨rfl, hb3⟩
      have HB3 := Lib.hid (HB2.out.trans (hb3.mono HB2.out.size))
      clear hb3
      go_wp2_with fail
      go_ret2
      exact ⟨rfl, HB3.out⟩
    · go_enter Tryz.func60, Tryz.ntmps60
      go_wp2_with fail
      refine (g1 _ (HE.out)).mono ?_
      rintro e w1 ⟨⟨v1, t1, N1, rfl⟩, hb1⟩
      have HB1 := Lib.hid (hb1)
      clear hb1
      go_wp2_with fail
      refine (g2 _).mono ?_
      rintro e w2 ⟨rfl, hb2⟩
      have HB2 := Lib.hid (HB1.out.trans (hb2.mono HB1.out.size))
      clear hb2
      go_wp2_with fail
      refine (g3 _ (HE.out.below HB2.out)).mono ?_
      rintro e w3 ⟨⟨v3, t3, N3, rfl⟩, hb3⟩
      have HB3 := Lib.hid (HB2.out.trans (hb3.mono HB2.out.size))
      clear hb3
      go_wp2_with fail
      go_ret2
      exact ⟨rfl, HB3.out⟩
    · go_enter Tryz.func60, Tryz.ntmps60
      go_wp2_with fail
      refine (g1 _ (HE.out)).mono ?_
      rintro e w1 ⟨⟨v1, t1, N1, rfl⟩, hb1⟩
      have HB1 := Lib.hid (hb1)
      clear hb1
      go_wp2_with fail
      refine (g2 _ (HE.out.below HB1.out)).mono ?_
      rintro e w2 ⟨⟨v2, t2, N2, rfl⟩, hb2⟩
      have HB2 := Lib.hid (HB1.out.trans (hb2.mono HB1.out.size))
      clear hb2
      go_wp2_with fail
      refine (g3 _).mono ?_
      rintro e w3 ⟨rfl, hb3⟩
      have HB3 := Lib.hid (HB2.out.trans (hb3.mono HB2.out.size))
      clear hb3
      go_wp2_with fail
      go_ret2
      exact ⟨rfl, HB3.out⟩
    · go_enter Tryz.func60, Tryz.ntmps60
      go_wp2_with fail
      refine (g1 _ (HE.out)).mono ?_
      rintro e w1 ⟨⟨v1, t1, N1, rfl⟩, hb1⟩
      have HB1 := Lib.hid (hb1)
      clear hb1
      go_wp2_with fail
      refine (g2 _ (HE.out.below HB1.out)).mono ?_
      rintro e w2 ⟨⟨v2, t2, N2, rfl⟩, hb2⟩
      have HB2 := Lib.hid (HB1.out.trans (hb2.mono HB1.out.size))
      clear hb2
      go_wp2_with fail
      refine (g3 _ (HE.out.below HB2.out)).mono ?_
      rintro e w3 ⟨⟨v3, t3, N3, rfl⟩, hb3⟩
      have HB3 := Lib.hid (HB2.out.trans (hb3.mono HB2.out.size))
      clear hb3
      go_wp2_with fail
      go_ret2
      exact ⟨rfl, HB3.out⟩
  · have hz1 : ((s.size : Int) == 10) = false := by rw [beq_eq_false_iff_ne]; omega
    have hz2 : ((s.size : Int) != 10) = true := by rw [bne_iff_ne]; omega
    clear h hl
    go_enter Tryz.func60, Tryz.ntmps60
    go_wp2_with fail
    go_ret2
    exact ⟨rfl, Below.refl _ _⟩
end Go.Proofs.YtjcnglkjjhnpbaaGreatDoor
