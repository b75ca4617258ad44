/-
strconv.Atoi of any short text; date.Read of a text that is no day's. Conditions: the months' lengths, strconv's powers of ten and its two errors are laid.
coin.Read, strconv.ParseUint, strconv.Atoi, date.Read of any word: some number, or an error. Conditions: the laid variables' cells.
terms.Read of any line: terms whose words it is, or the error. Conditions: the laid variables' cells.
-/
import Derived.Test.YtjlajnackecfgaaGreatDoorTrmCW9
import Derived.Test.YtjlajnackecfgaaGreatDoorCRdQW9
import Derived.Test.YtjlajnackecfgaaGreatDoorTrmEW9
import Derived.Test.YtjlajnackecfgaaGreatDoorTrmPW9
namespace Go.Proofs.YtjlajnackecfgaaGreatDoor
open Go.RowKit

/-- strconv's two errors are there. -/
def Errs (w : World) : Prop := (∃ t p, w.cell? ⟨5, 0, none⟩ = some (.iface t p)) ∧ (∃ t p, w.cell? ⟨1, 0, none⟩ = some (.iface t p))
theorem Errs.below {w w' : World} (h : Errs w) (hb : Below w.heap.size w w') : Errs w' := by
  obtain ⟨⟨t, p, h1⟩, ⟨u, q, h2⟩⟩ := h
  exact ⟨⟨t, p, (hb.cell (p := ⟨5, 0, none⟩) (block_lt_of_cell h1)).trans h1⟩, ⟨u, q, (hb.cell (p := ⟨1, 0, none⟩) (block_lt_of_cell h2)).trans h2⟩⟩
/-- A number and an error that is there. -/
def AtoiErr (w : World) (e : Ending) (w' : World) : Prop := (∃ (v : Int) (t : TypeId) (N : Addr), e = .returned (.tuple #[.int .i64 v, .iface t (.pointer (some N))])) ∧ Below w.heap.size w w'
theorem Atoi_gen (s : ByteArray) (hl : s.size ≤ 20) :
    (∃ v : Int, ∀ W, Calls Tryz.prog 93 #[.string s] W fun e w' => e = .returned (.tuple #[.int .i64 v, .nilIface]) ∧ Below W.heap.size W w') ∨
      (∀ W, Errs W → Calls Tryz.prog 93 #[.string s] W (AtoiErr W)) := by
  cases h : Lib.atoiAll s.data.toList
  · rename_i v
    refine Or.inl ⟨v, fun W => (Tryz.strconv_Atoi_ok s (by omega) v h W).mono ?_⟩
    rintro e w' ⟨he, hw⟩
    refine ⟨he, ?_⟩
    rcases hw with rfl | ⟨t, rfl⟩
    · exact Below.refl _ _
    · exact below_bytes _ _ _
  · refine Or.inr fun W hE => ?_
    obtain ⟨⟨t, p, h1⟩, -⟩ := hE
    refine (Any.strconv_Atoi_syntax Tryz.laysC172 s (by omega) h _ W h1 (Or.inr ⟨t, p, rfl⟩)).mono ?_
    rintro e w' ⟨N, he, -, -, hb⟩
    exact ⟨⟨_, _, _, he⟩, hb⟩
  · refine Or.inr fun W hE => ?_
    obtain ⟨-, ⟨t, p, h1⟩⟩ := hE
    refine (Any.strconv_Atoi_range Tryz.laysC172 s (by omega) h _ W h1 (Or.inr ⟨t, p, rfl⟩)).mono ?_
    rintro e w' ⟨N, he, -, -, hb⟩
    exact ⟨⟨_, _, _, he⟩, hb⟩

theorem ext_le (s : ByteArray) (a b : Nat) (h : s.size ≤ 20) : (s.extract a b).size ≤ 20 := by
  rw [ByteArray.size_extract]
  omega
def noDay (s : ByteArray) : Prop := ∀ n : Int, 0 ≤ n → n ≤ 3652058 → s ≠ dayText n
theorem noDay_text {s : ByteArray} (h : noDay s) (n : Int) (h0 : 0 ≤ n) (h1 : n ≤ 3652058) : ((dayText n).toList != s.toList) = true ∧ ((dayText n).toList == s.toList) = false := by
  have hne : (dayText n).toList ≠ s.toList := by
    intro e
    apply h n h0 h1
    apply ByteArray.ext
    apply Array.toList_inj.1
    rw [← ByteArray.toList_eq, ← ByteArray.toList_eq, e]
  exact ⟨bne_iff_ne.2 hne, beq_eq_false_iff_ne.2 hne⟩

set_option maxRecDepth 20000 in
set_option maxHeartbeats 2000000 in
theorem DRead_no (s : ByteArray) (hl : s.size ≤ 20) (h : noDay s) (w : World) (hw : Lens w) (hp : Pows w) (hE : Errs w) :
    Calls Tryz.prog 94 #[.string s] w fun e w' => e = .returned (.tuple #[.int .i32 0, .iface 54 (.int .i64 15)]) ∧ Below w.heap.size w w' := by
  have HW := Lib.hid hw
  have HP := Lib.hid hp
  have HE := Lib.hid hE
  clear hw hp hE
  by_cases hz : s.size = 10
  · have g1 := Atoi_gen (s.extract 0 4) (ext_le s 0 4 hl)
    have g2 := Atoi_gen (s.extract 5 7) (ext_le s 5 7 hl)
    have g3 := Atoi_gen (s.extract 8 10) (ext_le s 8 10 hl)
    have HN := Lib.hid h
    clear h hl
    rcases g1 with ⟨y, g1⟩ | g1 <;> rcases g2 with ⟨m, g2⟩ | g2 <;> rcases g3 with ⟨d, g3⟩ | g3
    · cases hr : rightB y m d
      · have hN := fun W (hW : Lens W) => CNum_no y m d hr W hW
        clear hr HN
        go_enter Tryz.func94, Tryz.ntmps94
        go_wp2_with fail
        refine (g1 _).mono ?_
        rintro e w1 ⟨rfl, hb1⟩
        have HB1 := Lib.hid hb1
        clear hb1
        go_wp2_with fail
        refine (g2 _).mono ?_
        rintro e w2 ⟨rfl, hb2⟩
        have HB2 := Lib.hid (HB1.out.trans (hb2.mono HB1.out.size))
        clear hb2
        go_wp2_with fail
        refine (g3 _).mono ?_
        rintro e w3 ⟨rfl, hb3⟩
        have HB3 := Lib.hid (HB2.out.trans (hb3.mono HB2.out.size))
        clear hb3
        go_wp2_with fail
        refine (hN _ (HW.out.below HB3.out)).mono ?_
        rintro e w4 ⟨rfl, hb4⟩
        have HB4 := Lib.hid (HB3.out.trans (hb4.mono HB3.out.size))
        clear hb4
        go_wp2_with fail
        go_ret2
        exact ⟨rfl, HB4.out⟩
      · have hN := fun W (hW : Lens W) => CNum_yes y m d hr W hW
        obtain ⟨n0, n1, -, -, -⟩ := And.intro (num_in hr).2.2.2.2.1 (And.intro (num_in hr).2.2.2.2.2 (And.intro trivial (And.intro trivial trivial)))
        have hT := fun W (hW : Lens W) (hP : Pows W) => DText_any (num y m d) n0 n1 W hW hP
        obtain ⟨q1, q2⟩ := noDay_text HN.out (num y m d) n0 n1
        generalize dayText (num y m d) = S at *
        generalize num y m d = N at *
        clear hr HN
        go_enter Tryz.func94, Tryz.ntmps94
        go_wp2_with fail
        refine (g1 _).mono ?_
        rintro e w1 ⟨rfl, hb1⟩
        have HB1 := Lib.hid hb1
        clear hb1
        go_wp2_with fail
        refine (g2 _).mono ?_
        rintro e w2 ⟨rfl, hb2⟩
        have HB2 := Lib.hid (HB1.out.trans (hb2.mono HB1.out.size))
        clear hb2
        go_wp2_with fail
        refine (g3 _).mono ?_
        rintro e w3 ⟨rfl, hb3⟩
        have HB3 := Lib.hid (HB2.out.trans (hb3.mono HB2.out.size))
        clear hb3
        go_wp2_with fail
        refine (hN _ (HW.out.below HB3.out)).mono ?_
        rintro e w4 ⟨rfl, hb4⟩
        have HB4 := Lib.hid (HB3.out.trans (hb4.mono HB3.out.size))
        clear hb4
        go_wp2_with fail
        refine (hT _ (HW.out.below HB4.out) (HP.out.below HB4.out)).mono ?_
        rintro e w5 ⟨rfl, hb5⟩
        have HB5 := Lib.hid (HB4.out.trans (hb5.mono HB4.out.size))
        clear hb5
        go_wp2_with fail
        go_ret2
        exact ⟨rfl, HB5.out⟩
    · go_enter Tryz.func94, Tryz.ntmps94
      go_wp2_with fail
      refine (g1 _).mono ?_
      rintro e w1 ⟨rfl, hb1⟩
      have HB1 := Lib.hid (hb1)
      clear hb1
      go_wp2_with fail
      refine (g2 _).mono ?_
      rintro e w2 ⟨rfl, hb2⟩
      have HB2 := Lib.hid (HB1.out.trans (hb2.mono HB1.out.size))
      clear hb2
      go_wp2_with fail
      refine (g3 _ (HE.out.below HB2.out)).mono ?_
      rintro e w3 ⟨⟨v3, t3, N3, rfl⟩, hb3⟩
      have HB3 := Lib.hid (HB2.out.trans (hb3.mono HB2.out.size))
      clear hb3
      go_wp2_with fail
      go_ret2
      exact ⟨rfl, HB3.out⟩
    · go_enter Tryz.func94, Tryz.ntmps94
      go_wp2_with fail
      refine (g1 _).mono ?_
      rintro e w1 ⟨rfl, hb1⟩
      have HB1 := Lib.hid (hb1)
      clear hb1
      go_wp2_with fail
      refine (g2 _ (HE.out.below HB1.out)).mono ?_
      rintro e w2 ⟨⟨v2, t2, N2, rfl⟩, hb2⟩
      have HB2 := Lib.hid (HB1.out.trans (hb2.mono HB1.out.size))
      clear hb2
      go_wp2_with fail
      refine (g3 _).mono ?_
      rintro e w3 ⟨rfl, hb3⟩
      have HB3 := Lib.hid (HB2.out.trans (hb3.mono HB2.out.size))
      clear hb3
      go_wp2_with fail
      go_ret2
      exact ⟨rfl, HB3.out⟩
    · go_enter Tryz.func94, Tryz.ntmps94
      go_wp2_with fail
      refine (g1 _).mono ?_
      rintro e w1 ⟨rfl, hb1⟩
      have HB1 := Lib.hid (hb1)
      clear hb1
      go_wp2_with fail
      refine (g2 _ (HE.out.below HB1.out)).mono ?_
      rintro e w2 ⟨⟨v2, t2, N2, rfl⟩, hb2⟩
      have HB2 := Lib.hid (HB1.out.trans (hb2.mono HB1.out.size))
      clear hb2
      go_wp2_with fail
      refine (g3 _ (HE.out.below HB2.out)).mono ?_
      rintro e w3 ⟨⟨v3, t3, N3, rfl⟩, hb3⟩
      have HB3 := Lib.hid (HB2.out.trans (hb3.mono HB2.out.size))
      clear hb3
      go_wp2_with fail
      go_ret2
      exact ⟨rfl, HB3.out⟩
    · go_enter Tryz.func94, Tryz.ntmps94
      go_wp2_with fail
      refine (g1 _ (HE.out)).mono ?_
      rintro e w1 ⟨⟨v1, t1, N1, rfl⟩, hb1⟩
      have HB1 := Lib.hid (hb1)
      clear hb1
      go_wp2_with fail
      refine (g2 _).mono ?_
      rintro e w2 ⟨rfl, hb2⟩
      have HB2 := Lib.hid (HB1.out.trans (hb2.mono HB1.out.size))
      clear hb2
      go_wp2_with fail
      refine (g3 _).mono ?_
      rintro e w3 ⟨rfl, hb3⟩
      have HB3 := Lib.hid (HB2.out.trans (hb3.mono HB2.out.size))
      clear hb3
      go_wp2_with fail
      go_ret2
      exact ⟨rfl, HB3.out⟩
    · go_enter Tryz.func94, Tryz.ntmps94
      go_wp2_with fail
      refine (g1 _ (HE.out)).mono ?_
      rintro e w1 ⟨⟨v1, t1, N1, rfl⟩, hb1⟩
      have HB1 := Lib.hid (hb1)
      clear hb1
      go_wp2_with fail
      refine (g2 _).mono ?_
      rintro e w2 ⟨rfl, hb2⟩
      have HB2 := Lib.hid (HB1.out.trans (hb2.mono HB1.out.size))
      clear hb2
      go_wp2_with fail
      refine (g3 _ (HE.out.below HB2.out)).mono ?_
      rintro e w3 ⟨⟨v3, t3, N3, rfl⟩, hb3⟩
      have HB3 := Lib.hid (HB2.out.trans (hb3.mono HB2.out.size))
      clear hb3
      go_wp2_with fail
      go_ret2
      exact ⟨rfl, HB3.out⟩
    · go_enter Tryz.func94, Tryz.ntmps94
      go_wp2_with fail
      refine (g1 _ (HE.out)).mono ?_
      rintro e w1 ⟨⟨v1, t1, N1, rfl⟩, hb1⟩
      have HB1 := Lib.hid (hb1)
      clear hb1
      go_wp2_with fail
      refine (g2 _ (HE.out.below HB1.out)).mono ?_
      rintro e w2 ⟨⟨v2, t2, N2, rfl⟩, hb2⟩
      have HB2 := Lib.hid (HB1.out.trans (hb2.mono HB1.out.size))
      clear hb2
      go_wp2_with fail
      refine (g3 _).mono ?_
      rintro e w3 ⟨rfl, hb3⟩
      have HB3 := Lib.hid (HB2.out.trans (hb3.mono HB2.out.size))
      clear hb3
      go_wp2_with fail
      go_ret2
      exact ⟨rfl, HB3.out⟩
    · go_enter Tryz.func94, Tryz.ntmps94
      go_wp2_with fail
      refine (g1 _ (HE.out)).mono ?_
      rintro e w1 ⟨⟨v1, t1, N1, rfl⟩, hb1⟩
      have HB1 := Lib.hid (hb1)
      clear hb1
      go_wp2_with fail
      refine (g2 _ (HE.out.below HB1.out)).mono ?_
      rintro e w2 ⟨⟨v2, t2, N2, rfl⟩, hb2⟩
      have HB2 := Lib.hid (HB1.out.trans (hb2.mono HB1.out.size))
      clear hb2
      go_wp2_with fail
      refine (g3 _ (HE.out.below HB2.out)).mono ?_
      rintro e w3 ⟨⟨v3, t3, N3, rfl⟩, hb3⟩
      have HB3 := Lib.hid (HB2.out.trans (hb3.mono HB2.out.size))
      clear hb3
      go_wp2_with fail
      go_ret2
      exact ⟨rfl, HB3.out⟩
  · have hz1 : ((s.size : Int) == 10) = false := by rw [beq_eq_false_iff_ne]; omega
    have hz2 : ((s.size : Int) != 10) = true := by rw [bne_iff_ne]; omega
    clear h hl
    go_enter Tryz.func94, Tryz.ntmps94
    go_wp2_with fail
    go_ret2
    exact ⟨rfl, Below.refl _ _⟩
end Go.Proofs.YtjlajnackecfgaaGreatDoor
namespace Go.Proofs.YtjlajnackecfgaaGreatDoor
open Go.ChangeShapes Go.WideShapes Go.ChangeAt Go.RowKit

/-- What the laid variables give. -/
structure TLd (w : World) : Prop where
  le : Lens w
  po : Pows w
  mx : ∃ m, w.cell? ⟨3, 0, none⟩ = some (.int .i64 m)
  er : ∃ a, w.cell? ⟨1, 0, none⟩ = some (.iface 217 (.pointer (some a)))
  es : ∃ t p, w.cell? ⟨5, 0, none⟩ = some (.iface t p)
theorem TLd.below {w w' : World} (h : TLd w) (hb : Below w.heap.size w w') : TLd w' := by
  obtain ⟨h1, h2, ⟨m, h3⟩, ⟨a, h4⟩, ⟨t, p, h5⟩⟩ := h
  exact ⟨h1.below hb, h2.below hb, ⟨m, (hb.cell (block_lt_of_cell h3)).trans h3⟩, ⟨a, (hb.cell (block_lt_of_cell h4)).trans h4⟩, ⟨t, p, (hb.cell (block_lt_of_cell h5)).trans h5⟩⟩
theorem TLd.later {B : Nat} {w w' : World} (h : TLd w) (hb : Below B w w') (hB : B = w.heap.size) : TLd w' := by subst hB; exact h.below hb
theorem TLd.errs {w : World} (h : TLd w) : Errs w := by
  obtain ⟨_, _, _, ⟨a, h4⟩, h5⟩ := h
  exact ⟨h5, ⟨_, _, h4⟩⟩
/-- No error, or one. -/
def ErOk (er : Value) : Prop := er = .nilIface ∨ ∃ t p, er = .iface t p
def LsP (k : IntKind) (w : World) (e : Ending) (w' : World) : Prop := (∃ v er, e = .returned (.tuple #[.int k v, er]) ∧ ErOk er) ∧ Below w.heap.size w w'
theorem okS_text {S : ByteArray} (h : okS S = true) (hv : (ngS S = false ∧ valS S ≤ 9223372036854775807) ∨ (ngS S = true ∧ valS S ≤ 9223372036854775808)) : ∃ a : Int, (-9223372036854775808 ≤ a ∧ a ≤ 9223372036854775807) ∧ S = textC a := by
  unfold okS at h
  rw [Bool.and_eq_true] at h
  obtain ⟨hf, hz⟩ := h
  have hf2 := hf
  unfold fmS at hf2
  rw [Bool.and_eq_true] at hf2
  have ht := val_text hf2.1 hf2.2
  have hzt := zero_text hf2.1 hf2.2
  have hnz : ¬ (ngS S = true ∧ valS S = 0) := fun ⟨h1, h2⟩ => by
    have := hzt.1 h2
    rw [h1, this] at hz
    exact absurd hz (by decide)
  have hsp := split_S S
  refine ⟨if ngS S then -(valS S : Int) else (valS S : Int), ?_, ?_⟩
  · cases hn : ngS S
    · rw [hn] at hv
      simp only [Bool.false_eq_true, if_false] at hv ⊢
      simp at hv
      omega
    · rw [hn] at hv
      simp only [if_true] at hv ⊢
      simp at hv
      omega
  · have hl : S.data.toList = (textC (if ngS S then -(valS S : Int) else (valS S : Int))).data.toList := by
      rw [text_lists, hsp, ht]
      cases hn : ngS S
      · simp only [Bool.false_eq_true, if_false, List.nil_append, Int.natAbs_natCast]
        rw [show sgnL (valS S : Int) = [] by unfold sgnL; rw [if_neg (by omega)], List.nil_append]
        rfl
      · have hpos : valS S ≠ 0 := fun e => hnz ⟨hn, e⟩
        simp only [if_true, Int.natAbs_neg, Int.natAbs_natCast]
        rw [show sgnL (-(valS S : Int)) = [45] by unfold sgnL; rw [if_pos (by omega)]]
        rfl
    obtain ⟨x⟩ := S
    obtain ⟨y, hy⟩ : ∃ y : ByteArray, textC (if ngS ⟨x⟩ then -(valS ⟨x⟩ : Int) else (valS ⟨x⟩ : Int)) = y := ⟨_, rfl⟩
    rw [hy] at hl ⊢
    obtain ⟨y⟩ := y
    exact congrArg ByteArray.mk (Array.toList_inj.1 hl)
theorem CRd_ls (S : ByteArray) (hS : S.size ≤ 120) (w : World) (h : TLd w) : Calls Tryz.prog 92 #[.string S] w (LsP .i64 w) := by
  obtain ⟨m, hm⟩ := h.mx
  obtain ⟨a, ha⟩ := h.er
  cases hk : okS S with
  | false => exact (CRead_no S hS hk w m hm).mono fun e w' ⟨h1, h2⟩ => ⟨⟨_, _, h1, .inr ⟨_, _, rfl⟩⟩, h2⟩
  | true =>
    by_cases hv : (ngS S = false ∧ valS S ≤ 9223372036854775807) ∨ (ngS S = true ∧ valS S ≤ 9223372036854775808)
    · obtain ⟨x, hx, rfl⟩ := okS_text hk hv
      exact (Read_any x hx w m hm _ _ ha).mono fun e w' ⟨h1, h2⟩ => ⟨⟨_, _, h1, .inl rfl⟩, h2⟩
    · exact (CRead_over S hS hk hv w m hm a ha).mono fun e w' ⟨h1, h2⟩ => ⟨⟨_, _, h1, .inr ⟨_, _, rfl⟩⟩, h2⟩
theorem Atoi_ls (S : ByteArray) (hS : S.size ≤ 120) (w : World) (h : TLd w) : Calls Tryz.prog 93 #[.string S] w (LsP .i64 w) := by
  obtain ⟨a, ha⟩ := h.er
  obtain ⟨t, p, he⟩ := h.es
  cases hA : Lib.atoiAll S.data.toList
  · rename_i v
    refine (Tryz.strconv_Atoi_ok S (by omega) v hA w).mono ?_
    rintro e w' ⟨he, hw⟩
    refine ⟨⟨_, _, he, .inl rfl⟩, ?_⟩
    rcases hw with rfl | ⟨t, rfl⟩
    · exact Below.refl _ _
    · exact below_bytes _ _ _
  · refine (Any.strconv_Atoi_syntax Tryz.laysC172 S (by omega) hA _ w he (Or.inr ⟨t, p, rfl⟩)).mono ?_
    rintro e w' ⟨N, he, -, -, hb⟩
    exact ⟨⟨_, _, he, .inr ⟨_, _, rfl⟩⟩, hb⟩
  · refine (Any.strconv_Atoi_range Tryz.laysC172 S (by omega) hA _ w ha (Or.inr ⟨_, _, rfl⟩)).mono ?_
    rintro e w' ⟨N, he, -, -, hb⟩
    exact ⟨⟨_, _, he, .inr ⟨_, _, rfl⟩⟩, hb⟩
theorem PUint_ls (S : ByteArray) (hS : S.size ≤ 120) (w : World) (h : TLd w) : Calls Tryz.prog 90 #[.string S, .int .i64 10, .int .i64 32] w (LsP .u64 w) := by
  obtain ⟨a, ha⟩ := h.er
  obtain ⟨t, p, he⟩ := h.es
  cases hA : Lib.parseUintB 32 S.data.toList
  · rename_i v
    refine (Tryz.strconv_ParseUint_10_at32_ok S (by omega) v hA w).mono ?_
    rintro e w' ⟨he, hw⟩
    refine ⟨⟨_, _, he, .inl rfl⟩, ?_⟩
    rcases hw with rfl | rfl
    · exact Below.refl _ _
    · exact below_bytes _ _ _
  · refine (Any.strconv_ParseUint_10_at32_syntax Tryz.laysPu14 S (by omega) hA _ w he (Or.inr ⟨t, p, rfl⟩)).mono ?_
    rintro e w' ⟨N, he, -, -, hb⟩
    exact ⟨⟨_, _, he, .inr ⟨_, _, rfl⟩⟩, hb⟩
  · refine (Any.strconv_ParseUint_10_at32_range Tryz.laysPu14 S (by omega) hA _ w ha (Or.inr ⟨_, _, rfl⟩)).mono ?_
    rintro e w' ⟨N, he, -, -, hb⟩
    exact ⟨⟨_, _, he, .inr ⟨_, _, rfl⟩⟩, hb⟩
set_option maxRecDepth 100000 in
set_option maxHeartbeats 4000000 in
theorem DRd_long (S : ByteArray) (_ : S.size ≤ 120) (hz : ¬ S.size = 10) (w : World) : Calls Tryz.prog 94 #[.string S] w (LsP .i32 w) := by
  have hz2 : ¬ (S.size : Int) = 10 := by omega
  go_enter Tryz.func94, Tryz.ntmps94
  go_wp2_with fail
  go_returns
  exact ⟨⟨_, _, rfl, .inr ⟨_, _, rfl⟩⟩, Below.refl _ _⟩
theorem DRd_ls (S : ByteArray) (hS : S.size ≤ 120) (w : World) (h : TLd w) : Calls Tryz.prog 94 #[.string S] w (LsP .i32 w) := by
  by_cases hz : S.size = 10
  · by_cases hd : noDay S
    · exact (DRead_no S (by omega) hd w h.le h.po h.errs).mono fun e w' ⟨h1, h2⟩ => ⟨⟨_, _, h1, .inr ⟨_, _, rfl⟩⟩, h2⟩
    · unfold noDay at hd
      simp only [Classical.not_forall, Classical.not_not] at hd
      obtain ⟨n, h0, h1, rfl⟩ := hd
      exact (Read_text n h0 h1 w h.le h.po).mono fun e w' ⟨h1, h2⟩ => ⟨⟨_, _, h1, .inl rfl⟩, h2⟩
  · exact DRd_long S hS hz w
theorem splitB_sz (sep : ByteArray) : ∀ (k : Nat) (s : ByteArray), ∀ x ∈ Lib.splitB sep 0 k s, x.size ≤ s.size
  | 0, s => fun x hx => by
    rw [Lib.splitB_zero] at hx
    rw [List.mem_singleton.1 hx]
    exact Nat.le_refl _
  | k + 1, s => fun x hx => by
    unfold Lib.splitB at hx
    split at hx
    · rw [List.mem_singleton.1 hx]
      exact Nat.le_refl _
    · rcases List.mem_cons.1 hx with rfl | hx
      · rw [ByteArray.size_extract]; omega
      · have := splitB_sz sep k _ x hx
        rw [ByteArray.size_extract] at this
        omega
theorem words_at {L : List ByteArray} {N i : Nat} (h : i < L.length) : (Lib.cellsOf L N)[i]? = some (.string (L[i]'h)) := by
  unfold Lib.cellsOf
  rw [List.getElem?_toArray, List.getElem?_append_left (by simpa using h), List.getElem?_map, List.getElem?_eq_getElem h]
  rfl
set_option maxRecDepth 100000 in
set_option maxHeartbeats 4000000 in
/-- Text of terms that aren't Right. -/
theorem TText_no {t : Trm} (h : ¬ t.Right) (w : World) : Calls Tryz.prog 44 #[t.v] w (Ret (.string ⟨#[]⟩) w) := by
  have hT := fun W => TRight_false h W
  obtain ⟨K, P, R, B, M, S, F, G⟩ := t
  clear h
  unfold Trm.v at hT ⊢
  dsimp only at hT ⊢
  have HQ := Lib.hid (Blk.new w 28 #[.int .u8 (K : Int), .int .i64 P, .int .u32 (R : Int), .int .u8 (B : Int), .int .i64 M, .int .i32 S, .int .i64 F, .int .i64 G])
  have HB0 := Lib.hid (b_alloc w (.cells #[.int .u8 (K : Int), .int .i64 P, .int .u32 (R : Int), .int .u8 (B : Int), .int .i64 M, .int .i32 S, .int .i64 F, .int .i64 G] 28))
  go_enter Tryz.func44, Tryz.ntmps44
  obtain ⟨c0, c1, c2, c3, c4, c5, c6, c7⟩ := blk8 HQ.out
  go_wp2_with fail
  refine (hT _).mono ?_
  rintro e w1 ⟨rfl, hb1⟩
  have HB1 := Lib.hid (HB0.out.trans (hb1.mono HB0.out.size))
  clear hb1 c0 c1 c2 c3 c4 c5 c6 c7 HQ HB0 hT
  go_wp2_with fail
  go_ret
  exact ⟨by first | rfl | simp, HB1.out⟩
/-- What Text tells of any terms. -/
noncomputable def tText (t : Trm) : ByteArray := open Classical in if t.Right then t.text else ⟨#[]⟩
theorem TText_all (t : Trm) (w : World) (h : TLd w) : Calls Tryz.prog 44 #[t.v] w (Ret (.string (tText t)) w) := by
  unfold tText
  by_cases hr : t.Right
  · rw [if_pos hr]
    exact TText_yes hr (by have := t.len hr; omega) w h.le h.po
  · rw [if_neg hr]
    exact TText_no hr w
end Go.Proofs.YtjlajnackecfgaaGreatDoor
namespace Go.Proofs.YtjlajnackecfgaaGreatDoor
open Go.ChangeShapes Go.WideShapes Go.ChangeAt Go.RowKit

def TRdPost (s : ByteArray) (w : World) (e : Ending) (w' : World) : Prop := ((∃ t : Trm, t.Right ∧ t.text = s ∧ e = .returned (.tuple #[t.v, .nilIface])) ∨ e = .returned (.tuple #[.agg zeroT8, .iface 54 (.int .i64 15)])) ∧ Below w.heap.size w w'
theorem fin_tread {w W : World} {T : Array Value} {s : ByteArray} {e : Value} {g : Nat} {a0 a1 a2 a3 a4 a5 a6 a7 : Value} (hB : Below w.heap.size w W) (hQ : Blk W g 28 #[a0, a1, a2, a3, a4, a5, a6, a7]) (h2 : T[2]? = some (.pointer (some ⟨g, 0, none⟩))) (h3 : T[3]? = some e)
    (hp : (∃ t : Trm, t.Right ∧ t.text = s ∧ Value.tuple #[.agg #[a0, a1, a2, a3, a4, a5, a6, a7], e] = .tuple #[t.v, .nilIface]) ∨ Value.tuple #[.agg #[a0, a1, a2, a3, a4, a5, a6, a7], e] = .tuple #[.agg zeroT8, .iface 54 (.int .i64 15)]) :
    bodyPost Tryz.prog Tryz.f73 (TRdPost s w) Exit.ret { tmps := T, defers := [] } W := by
  obtain ⟨x0, x1, x2, x3, x4, x5, x6, x7⟩ := blk8 hQ
  refine bodyPost_ret (v := .tuple #[.agg #[a0, a1, a2, a3, a4, a5, a6, a7], e]) ?_ rfl ⟨?_, hB⟩
  · simp [results, Tryz.results73, go_sem, h2, h3, x0, x1, x2, x3, x4, x5, x6, x7, Result.andThen]
  · rcases hp with ⟨t, h5, h6, h7⟩ | h7
    · exact .inl ⟨t, h5, h6, by rw [h7]⟩
    · exact .inr (by rw [h7])
set_option maxRecDepth 100000 in
set_option maxHeartbeats 8000000 in
theorem TRead_any (s : ByteArray) (hs : s.size ≤ 120) (w : World) (hl : TLd w) : Calls Tryz.prog 73 #[.string s] w (TRdPost s w) := by
  have hb0 := (Below.refl _ w).alloc (Nat.le_refl _) (.cells #[.int .u8 0, .int .i64 0, .int .u32 0, .int .u8 0, .int .i64 0, .int .i32 0, .int .i64 0, .int .i64 0] 28)
  have hbx := Blk.new w 28 #[.int .u8 0, .int .i64 0, .int .u32 0, .int .u8 0, .int .i64 0, .int .i32 0, .int .i64 0, .int .i64 0]
  obtain ⟨W1, hW1⟩ : ∃ W, w.alloc (.cells #[.int .u8 0, .int .i64 0, .int .u32 0, .int .u8 0, .int .i64 0, .int .i32 0, .int .i64 0, .int .i64 0] 28) = W := ⟨_, rfl⟩
  rw [hW1] at hb0 hbx
  obtain ⟨m, hm⟩ := (hl.below hb0).mx
  have cS := Tryz.strings_SplitN s ⟨#[32]⟩ 9 m W1 (by omega) hm (by decide) (by decide) (by decide)
  have hlen := Lib.splitB_length_le ⟨#[32]⟩ 0 (min 9 (s.size + 1) - 1) s
  have hsz := splitB_sz ⟨#[32]⟩ (min 9 (s.size + 1) - 1) s
  obtain ⟨c, hc⟩ : ∃ c, min 9 (s.size + 1) = c := ⟨_, rfl⟩
  rw [hc] at cS hlen hsz
  have hc9 : c ≤ 9 ∧ 1 ≤ c ∧ c ≤ s.size + 1 := by omega
  obtain ⟨L, hL⟩ : ∃ L, Lib.splitB ⟨#[32]⟩ 0 (c - 1) s = L := ⟨_, rfl⟩
  rw [hL] at cS hlen hsz
  have hb1 := hb0.alloc hb0.size (.cells (Lib.cellsOf L c) 9)
  have hbs := Blk.new W1 9 (Lib.cellsOf L c)
  have hbx2 := hbx.below (b_alloc W1 (.cells (Lib.cellsOf L c) 9)) hbx.lt
  obtain ⟨W2, hW2⟩ : ∃ W, W1.alloc (.cells (Lib.cellsOf L c) 9) = W := ⟨_, rfl⟩
  rw [hW2] at hb1 hbs hbx2 cS
  obtain ⟨g, hg⟩ : ∃ g, W1.heap.size = g := ⟨_, rfl⟩
  obtain ⟨b, hb⟩ : ∃ b, w.heap.size = b := ⟨_, rfl⟩
  rw [hg] at cS hbs
  rw [hb] at hbx2
  have HB := Lib.hid hb
  have HLD := Lib.hid hl
  clear hbx hL hm hb0 hc hl
  go_enter Tryz.func73, Tryz.ntmps73
  go_wp2_with fail
  refine cS.mono ?_
  rintro e W2 ⟨rfl, rfl⟩
  have HX0 := Lib.hid hbx2
  have HBB0 := Lib.hid hb1
  clear cS hW1 hW2 hb hg
  by_cases h8 : L.length = 8
  · obtain ⟨s0, s1, s2, s3, s4, s5, s6, s7, hLs⟩ : ∃ s0 s1 s2 s3 s4 s5 s6 s7, L = [s0, s1, s2, s3, s4, s5, s6, s7] := by
      match L, h8 with
      | [s0, s1, s2, s3, s4, s5, s6, s7], _ => exact ⟨s0, s1, s2, s3, s4, s5, s6, s7, rfl⟩
    rw [hLs] at hbs hsz hlen
    have hne : 7 ≤ s.size := by simp at hlen; omega
    obtain ⟨CS, hCS⟩ : ∃ CS, Lib.cellsOf [s0, s1, s2, s3, s4, s5, s6, s7] c = CS := ⟨_, rfl⟩
    have k0 : CS[0]? = some (.string s0) := by rw [← hCS]; exact words_at (L := [s0, s1, s2, s3, s4, s5, s6, s7]) (by simp)
    have k1 : CS[1]? = some (.string s1) := by rw [← hCS]; exact words_at (L := [s0, s1, s2, s3, s4, s5, s6, s7]) (by simp)
    have k2 : CS[2]? = some (.string s2) := by rw [← hCS]; exact words_at (L := [s0, s1, s2, s3, s4, s5, s6, s7]) (by simp)
    have k3 : CS[3]? = some (.string s3) := by rw [← hCS]; exact words_at (L := [s0, s1, s2, s3, s4, s5, s6, s7]) (by simp)
    have k4 : CS[4]? = some (.string s4) := by rw [← hCS]; exact words_at (L := [s0, s1, s2, s3, s4, s5, s6, s7]) (by simp)
    have k5 : CS[5]? = some (.string s5) := by rw [← hCS]; exact words_at (L := [s0, s1, s2, s3, s4, s5, s6, s7]) (by simp)
    have k6 : CS[6]? = some (.string s6) := by rw [← hCS]; exact words_at (L := [s0, s1, s2, s3, s4, s5, s6, s7]) (by simp)
    have k7 : CS[7]? = some (.string s7) := by rw [← hCS]; exact words_at (L := [s0, s1, s2, s3, s4, s5, s6, s7]) (by simp)
    rw [hCS] at hbs
    have HK := Lib.hid (And.intro k0 (And.intro k1 (And.intro k2 (And.intro k3 (And.intro k4 (And.intro k5 (And.intro k6 k7)))))))
    have HSZ : Hid (∀ x ∈ [s0, s1, s2, s3, s4, s5, s6, s7], x.size ≤ 120) := Lib.hid fun x hx => Nat.le_trans (hsz x hx) hs
    have HNE := Lib.hid hne
    have HS0 := Lib.hid hbs
    have hll : L.length = 8 := h8
    clear hCS hbs hsz hlen hne hc9 hs hbx2 hb1 hLs k0 k1 k2 k3 k4 k5 k6 k7 h8
    rw [hll]
    clear hll
    have c0 := (HS0.out.cell 1).trans HK.out.2.1
    have CC := CRd_ls s1 (HSZ.out s1 (by simp)) W2 (HLD.out.below HBB0.out)
    go_wp2_with fail
    refine CC.mono ?_
    rintro e U1 ⟨⟨v1, er1, rfl, ho1⟩, hn⟩
    have HX1 := Lib.hid (HX0.out.below hn HX0.out.lt)
    have HS1 := Lib.hid (HS0.out.below hn HS0.out.lt)
    have HBB1 := Lib.hid (HBB0.out.trans (hn.mono HBB0.out.size))
    have HO1 := Lib.hid ho1
    clear hn CC c0 ho1 HX0 HS0 HBB0
    have c0 := (HS1.out.cell 2).trans HK.out.2.2.1
    have CC := PUint_ls s2 (HSZ.out s2 (by simp)) U1 (HLD.out.below HBB1.out)
    go_wp2_with fail
    refine CC.mono ?_
    rintro e U2 ⟨⟨v2, er2, rfl, ho2⟩, hn⟩
    have HX2 := Lib.hid (HX1.out.below hn HX1.out.lt)
    have HS2 := Lib.hid (HS1.out.below hn HS1.out.lt)
    have HBB2 := Lib.hid (HBB1.out.trans (hn.mono HBB1.out.size))
    have HO2 := Lib.hid ho2
    clear hn CC c0 ho2 HX1 HS1 HBB1
    have c0 := (HS2.out.cell 4).trans HK.out.2.2.2.2.1
    have CC := Atoi_ls s4 (HSZ.out s4 (by simp)) U2 (HLD.out.below HBB2.out)
    go_wp2_with fail
    refine CC.mono ?_
    rintro e U3 ⟨⟨v4, er4, rfl, ho4⟩, hn⟩
    have HX3 := Lib.hid (HX2.out.below hn HX2.out.lt)
    have HS3 := Lib.hid (HS2.out.below hn HS2.out.lt)
    have HBB3 := Lib.hid (HBB2.out.trans (hn.mono HBB2.out.size))
    have HO4 := Lib.hid ho4
    clear hn CC c0 ho4 HX2 HS2 HBB2
    have c0 := (HS3.out.cell 5).trans HK.out.2.2.2.2.2.1
    have CC := DRd_ls s5 (HSZ.out s5 (by simp)) U3 (HLD.out.below HBB3.out)
    go_wp2_with fail
    refine CC.mono ?_
    rintro e U4 ⟨⟨v5, er5, rfl, ho5⟩, hn⟩
    have HX4 := Lib.hid (HX3.out.below hn HX3.out.lt)
    have HS4 := Lib.hid (HS3.out.below hn HS3.out.lt)
    have HBB4 := Lib.hid (HBB3.out.trans (hn.mono HBB3.out.size))
    have HO5 := Lib.hid ho5
    clear hn CC c0 ho5 HX3 HS3 HBB3
    have c0 := (HS4.out.cell 6).trans HK.out.2.2.2.2.2.2.1
    have CC := CRd_ls s6 (HSZ.out s6 (by simp)) U4 (HLD.out.below HBB4.out)
    go_wp2_with fail
    refine CC.mono ?_
    rintro e U5 ⟨⟨v6, er6, rfl, ho6⟩, hn⟩
    have HX5 := Lib.hid (HX4.out.below hn HX4.out.lt)
    have HS5 := Lib.hid (HS4.out.below hn HS4.out.lt)
    have HBB5 := Lib.hid (HBB4.out.trans (hn.mono HBB4.out.size))
    have HO6 := Lib.hid ho6
    clear hn CC c0 ho6 HX4 HS4 HBB4
    have c0 := (HS5.out.cell 7).trans HK.out.2.2.2.2.2.2.2
    have CC := Atoi_ls s7 (HSZ.out s7 (by simp)) U5 (HLD.out.below HBB5.out)
    go_wp2_with fail
    refine CC.mono ?_
    rintro e U6 ⟨⟨v7, er7, rfl, ho7⟩, hn⟩
    have HX6 := Lib.hid (HX5.out.below hn HX5.out.lt)
    have HS6 := Lib.hid (HS5.out.below hn HS5.out.lt)
    have HBB6 := Lib.hid (HBB5.out.trans (hn.mono HBB5.out.size))
    have HO7 := Lib.hid ho7
    clear hn CC c0 ho7 HX5 HS5 HBB5
    have ho1 := HO1.out
    unfold ErOk at ho1
    rcases ho1 with rfl | ⟨t1, p1, rfl⟩
    rotate_left
    · clear HO1 HO2 HO4 HO5 HO6 HO7 HSZ HK HS6
      obtain ⟨x0, x1, x2, x3, x4, x5, x6, x7⟩ := blk8 HX6.out
      have z0 := HX6.out.frozen 0
      have z1 := HX6.out.frozen 1
      have z2 := HX6.out.frozen 2
      have z3 := HX6.out.frozen 3
      have z4 := HX6.out.frozen 4
      have z5 := HX6.out.frozen 5
      have z6 := HX6.out.frozen 6
      have z7 := HX6.out.frozen 7
      have lz := HX6.out.lt
      go_wp2_with fail
      refine fin_tread (g := b) ?_ (set8c HX6.out _ _ _ _ _ _ _ _) rfl rfl (.inr rfl)
      exact below_set8 HBB6.out (Nat.le_of_eq HB.out) _ _ _ _ _ _ _ _
    have ho2 := HO2.out
    unfold ErOk at ho2
    rcases ho2 with rfl | ⟨t2, p2, rfl⟩
    rotate_left
    · clear HO1 HO2 HO4 HO5 HO6 HO7 HSZ HK HS6
      obtain ⟨x0, x1, x2, x3, x4, x5, x6, x7⟩ := blk8 HX6.out
      have z0 := HX6.out.frozen 0
      have z1 := HX6.out.frozen 1
      have z2 := HX6.out.frozen 2
      have z3 := HX6.out.frozen 3
      have z4 := HX6.out.frozen 4
      have z5 := HX6.out.frozen 5
      have z6 := HX6.out.frozen 6
      have z7 := HX6.out.frozen 7
      have lz := HX6.out.lt
      go_wp2_with fail
      refine fin_tread (g := b) ?_ (set8c HX6.out _ _ _ _ _ _ _ _) rfl rfl (.inr rfl)
      exact below_set8 HBB6.out (Nat.le_of_eq HB.out) _ _ _ _ _ _ _ _
    have ho4 := HO4.out
    unfold ErOk at ho4
    rcases ho4 with rfl | ⟨t4, p4, rfl⟩
    rotate_left
    · clear HO1 HO2 HO4 HO5 HO6 HO7 HSZ HK HS6
      obtain ⟨x0, x1, x2, x3, x4, x5, x6, x7⟩ := blk8 HX6.out
      have z0 := HX6.out.frozen 0
      have z1 := HX6.out.frozen 1
      have z2 := HX6.out.frozen 2
      have z3 := HX6.out.frozen 3
      have z4 := HX6.out.frozen 4
      have z5 := HX6.out.frozen 5
      have z6 := HX6.out.frozen 6
      have z7 := HX6.out.frozen 7
      have lz := HX6.out.lt
      go_wp2_with fail
      refine fin_tread (g := b) ?_ (set8c HX6.out _ _ _ _ _ _ _ _) rfl rfl (.inr rfl)
      exact below_set8 HBB6.out (Nat.le_of_eq HB.out) _ _ _ _ _ _ _ _
    have ho5 := HO5.out
    unfold ErOk at ho5
    rcases ho5 with rfl | ⟨t5, p5, rfl⟩
    rotate_left
    · clear HO1 HO2 HO4 HO5 HO6 HO7 HSZ HK HS6
      obtain ⟨x0, x1, x2, x3, x4, x5, x6, x7⟩ := blk8 HX6.out
      have z0 := HX6.out.frozen 0
      have z1 := HX6.out.frozen 1
      have z2 := HX6.out.frozen 2
      have z3 := HX6.out.frozen 3
      have z4 := HX6.out.frozen 4
      have z5 := HX6.out.frozen 5
      have z6 := HX6.out.frozen 6
      have z7 := HX6.out.frozen 7
      have lz := HX6.out.lt
      go_wp2_with fail
      refine fin_tread (g := b) ?_ (set8c HX6.out _ _ _ _ _ _ _ _) rfl rfl (.inr rfl)
      exact below_set8 HBB6.out (Nat.le_of_eq HB.out) _ _ _ _ _ _ _ _
    have ho6 := HO6.out
    unfold ErOk at ho6
    rcases ho6 with rfl | ⟨t6, p6, rfl⟩
    rotate_left
    · clear HO1 HO2 HO4 HO5 HO6 HO7 HSZ HK HS6
      obtain ⟨x0, x1, x2, x3, x4, x5, x6, x7⟩ := blk8 HX6.out
      have z0 := HX6.out.frozen 0
      have z1 := HX6.out.frozen 1
      have z2 := HX6.out.frozen 2
      have z3 := HX6.out.frozen 3
      have z4 := HX6.out.frozen 4
      have z5 := HX6.out.frozen 5
      have z6 := HX6.out.frozen 6
      have z7 := HX6.out.frozen 7
      have lz := HX6.out.lt
      go_wp2_with fail
      refine fin_tread (g := b) ?_ (set8c HX6.out _ _ _ _ _ _ _ _) rfl rfl (.inr rfl)
      exact below_set8 HBB6.out (Nat.le_of_eq HB.out) _ _ _ _ _ _ _ _
    have ho7 := HO7.out
    unfold ErOk at ho7
    rcases ho7 with rfl | ⟨t7, p7, rfl⟩
    rotate_left
    · clear HO1 HO2 HO4 HO5 HO6 HO7 HSZ HK HS6
      obtain ⟨x0, x1, x2, x3, x4, x5, x6, x7⟩ := blk8 HX6.out
      have z0 := HX6.out.frozen 0
      have z1 := HX6.out.frozen 1
      have z2 := HX6.out.frozen 2
      have z3 := HX6.out.frozen 3
      have z4 := HX6.out.frozen 4
      have z5 := HX6.out.frozen 5
      have z6 := HX6.out.frozen 6
      have z7 := HX6.out.frozen 7
      have lz := HX6.out.lt
      go_wp2_with fail
      refine fin_tread (g := b) ?_ (set8c HX6.out _ _ _ _ _ _ _ _) rfl rfl (.inr rfl)
      exact below_set8 HBB6.out (Nat.le_of_eq HB.out) _ _ _ _ _ _ _ _
    clear HO1 HO2 HO4 HO5 HO6 HO7
    go_upto_region 12 with (fail)
    obtain ⟨K, hK⟩ : ∃ K, kindB s0 = K := ⟨_, rfl⟩
    obtain ⟨Bn, hBn⟩ : ∃ Bn : Nat, basisB s3 = (Bn : Int) := by
      unfold basisB
      split
      · exact ⟨1, rfl⟩
      · split
        · exact ⟨2, rfl⟩
        · exact ⟨0, rfl⟩
    obtain ⟨R, hw2⟩ : ∃ R : Nat, IntKind.u32.wrap v2 = (R : Int) := ⟨(IntKind.u32.wrap v2).toNat, by rw [IntKind.wrap_u32]; omega⟩
    have CK : ∀ W', Calls Tryz.prog 95 #[.string s0] W' fun e w' => e = .returned (.int .u8 (K : Int)) ∧ Below W'.heap.size W' w' := fun W' => (Kind_any s0 W').mono fun e w' ⟨h1, h2⟩ => ⟨by rw [h1, hK], by rw [h2]; exact Below.refl _ _⟩
    have CB : ∀ W', Calls Tryz.prog 96 #[.string s3] W' fun e w' => e = .returned (.int .u8 (Bn : Int)) ∧ Below W'.heap.size W' w' := fun W' => (Basis_any s3 W').mono fun e w' ⟨h1, h2⟩ => ⟨by rw [h1, hBn], by rw [h2]; exact Below.refl _ _⟩
    have L0 : ∀ W', Below U6.heap.size U6 W' → (Instr.loadAt 9 (.pointer (some ⟨g, 0, none⟩))).run Tryz.prog W' = .ok (.string s0) W' := fun W' hb => by
      have c0 := ((HS6.out.below hb HS6.out.lt).cell 0).trans HK.out.1
      go_simp
    have L3 : ∀ W', Below U6.heap.size U6 W' → (Instr.loadAt 9 (.pointer (some ⟨g, 3, none⟩))).run Tryz.prog W' = .ok (.string s3) W' := fun W' hb => by
      have c0 := ((HS6.out.below hb HS6.out.lt).cell 3).trans HK.out.2.2.2.1
      go_simp
    clear hK hBn
    refine wp_region_flow_last (l := [{ dst := some 91, op := Go.Op.move (Go.Operand.tmp 4), type := 63, pos := "terms.go:145", after := #[], guard := none }, { dst := some 92, op := Go.Op.indexAddr 63 (Go.Operand.tmp 91) (Go.Operand.const (Go.Value.int Go.IntKind.i64 0)), type := 0, pos := "terms.go:145", after := #[{ on := 0, ground := Go.Ground.data }], guard := none }, { dst := some 93, op := Go.Op.load 9 (Go.Operand.tmp 92), type := 9, pos := "terms.go:145", after := #[{ on := 1, ground := Go.Ground.data }], guard := none }, { dst := some 94, op := Go.Op.call { callee := Go.Callee.value (Go.Operand.func 95), args := #[Go.Operand.tmp 93], argTypes := #[9] }, type := 5, pos := "terms.go:146", after := #[{ on := 2, ground := Go.Ground.data }], guard := none }, { dst := some 95, op := Go.Op.move (Go.Operand.tmp 5), type := 23, pos := "terms.go:145", after := #[], guard := none }, { dst := some 96, op := Go.Op.move (Go.Operand.tmp 7), type := 69, pos := "terms.go:145", after := #[], guard := none }, { dst := some 97, op := Go.Op.convert 69 22 (Go.Operand.tmp 96), type := 22, pos := "terms.go:145", after := #[{ on := 5, ground := Go.Ground.data }], guard := none }, { dst := some 98, op := Go.Op.move (Go.Operand.tmp 4), type := 63, pos := "terms.go:145", after := #[], guard := none }, { dst := some 99, op := Go.Op.indexAddr 63 (Go.Operand.tmp 98) (Go.Operand.const (Go.Value.int Go.IntKind.i64 3)), type := 0, pos := "terms.go:145", after := #[{ on := 7, ground := Go.Ground.data }], guard := none }, { dst := some 100, op := Go.Op.load 9 (Go.Operand.tmp 99), type := 9, pos := "terms.go:145", after := #[{ on := 8, ground := Go.Ground.data }], guard := none }, { dst := some 101, op := Go.Op.call { callee := Go.Callee.value (Go.Operand.func 96), args := #[Go.Operand.tmp 100], argTypes := #[9] }, type := 5, pos := "terms.go:148", after := #[{ on := 9, ground := Go.Ground.data }, { on := 3, ground := Go.Ground.chain }], guard := none }, { dst := some 102, op := Go.Op.build 25 #[(0, Go.Operand.tmp 97), (1, Go.Operand.tmp 101)], type := 25, pos := "terms.go:145", after := #[{ on := 6, ground := Go.Ground.data }, { on := 10, ground := Go.Ground.data }], guard := none }, { dst := some 103, op := Go.Op.move (Go.Operand.tmp 9), type := 3, pos := "terms.go:145", after := #[], guard := none }, { dst := some 104, op := Go.Op.move (Go.Operand.tmp 11), type := 26, pos := "terms.go:145", after := #[], guard := none }, { dst := some 105, op := Go.Op.move (Go.Operand.tmp 13), type := 23, pos := "terms.go:145", after := #[], guard := none }, { dst := some 106, op := Go.Op.move (Go.Operand.tmp 15), type := 3, pos := "terms.go:145", after := #[], guard := none }, { dst := some 107, op := Go.Op.build 28 #[(0, Go.Operand.tmp 94), (1, Go.Operand.tmp 95), (2, Go.Operand.tmp 102), (3, Go.Operand.tmp 103), (4, Go.Operand.tmp 104), (5, Go.Operand.tmp 105), (6, Go.Operand.tmp 106)], type := 28, pos := "terms.go:145", after := #[{ on := 3, ground := Go.Ground.data }, { on := 4, ground := Go.Ground.data }, { on := 11, ground := Go.Ground.data }, { on := 12, ground := Go.Ground.data }, { on := 13, ground := Go.Ground.data }, { on := 14, ground := Go.Ground.data }, { on := 15, ground := Go.Ground.data }], guard := none }, { dst := some 17, op := Go.Op.alloc 28, type := 0, pos := "terms.go:145", after := #[], guard := none }]) (ol := { dst := none, op := Go.Op.store 28 (Go.Operand.tmp 17) (Go.Operand.tmp 107), type := 0, pos := "terms.go:145", after := #[{ on := 17, ground := Go.Ground.data }, { on := 16, ground := Go.Ground.data }, { on := 10, ground := Go.Ground.chain }, { on := 0, ground := Go.Ground.phase }, { on := 1, ground := Go.Ground.phase }, { on := 2, ground := Go.Ground.phase }, { on := 3, ground := Go.Ground.phase }, { on := 4, ground := Go.Ground.phase }, { on := 5, ground := Go.Ground.phase }, { on := 6, ground := Go.Ground.phase }, { on := 7, ground := Go.Ground.phase }, { on := 8, ground := Go.Ground.phase }, { on := 9, ground := Go.Ground.phase }, { on := 10, ground := Go.Ground.phase }, { on := 11, ground := Go.Ground.phase }, { on := 12, ground := Go.Ground.phase }, { on := 13, ground := Go.Ground.phase }, { on := 14, ground := Go.Ground.phase }, { on := 15, ground := Go.Ground.phase }, { on := 16, ground := Go.Ground.phase }, { on := 17, ground := Go.Ground.phase }], guard := none }) rfl [some 91, some 92, some 93, some 94, some 95, some 96, some 97, some 98, some 99, some 100, some 101, some 102, some 103, some 104, some 105, some 106, some 107, some 17] (fun i => ([.is (.slice (some ⟨g, 0, none⟩) 8 c), .is (.pointer (some ⟨g, 0, none⟩)), .is (.string s0), .is (.int .u8 (K : Int)), .is (.int .i64 v1), .is (.int .u64 v2), .is (.int .u32 (R : Int)), .is (.slice (some ⟨g, 0, none⟩) 8 c), .is (.pointer (some ⟨g, 3, none⟩)), .is (.string s3), .is (.int .u8 (Bn : Int)), .is (.agg #[.int .u32 (R : Int), .int .u8 (Bn : Int)]), .is (.int .i64 v4), .is (.int .i32 v5), .is (.int .i64 v6), .is (.int .i64 v7), .is (.agg #[.int .u8 (K : Int), .int .i64 v1, .int .u32 (R : Int), .int .u8 (Bn : Int), .int .i64 v4, .int .i32 v5, .int .i64 v6, .int .i64 v7]), boxF U6.heap.size 28 #[.int .u8 0, .int .i64 0, .int .u32 0, .int .u8 0, .int .i64 0, .int .i32 0, .int .i64 0, .int .i64 0]] : List Flw).getD i .any) (by kernel_rfl) (by kernel_rfl) (by kernel_rfl) rfl rfl ?_ ?_
    · clear HX6 HBB6 HS6 HK HSZ HNE HLD HB
      refine ⟨step_free rfl (fun aF wF hs hb => ?_), ?_⟩
      · obtain ⟨x0, -⟩ := hs
        have e0 : aF.eval (.tmp 4) = .slice (some ⟨g, 0, none⟩) 8 c := x0
        exact opC_move e0 ⟨rfl, below_same wF⟩
      refine ⟨step_free rfl (fun aF wF hs hb => ?_), ?_⟩
      · obtain ⟨x0, -⟩ := hs
        have e0 : aF.eval (.tmp 91) = .slice (some ⟨g, 0, none⟩) 8 c := x0
        refine opC_value (v := .pointer (some ⟨g, 0, none⟩)) ?_ ⟨rfl, below_same wF⟩
        have t0 := ev_of e0
        simp [execOp, go_sem, t0]
      refine ⟨step_free rfl (fun aF wF hs hb => ?_), ?_⟩
      · obtain ⟨x0, -⟩ := hs
        have e0 : aF.eval (.tmp 92) = .pointer (some ⟨g, 0, none⟩) := x0
        exact opC_load e0 (L0 wF hb) ⟨rfl, below_same wF⟩
      refine ⟨step_free rfl (fun aF wF hs hb => ?_), ?_⟩
      · obtain ⟨x0, -⟩ := hs
        have e0 : aF.eval (.tmp 93) = .string s0 := x0
        exact opC_call (args := #[.string s0]) (enters9 Tryz.func95 (by kernel_rfl) rfl) (by simp [e0]) (CK wF) (fun _ h => ⟨rfl, h⟩)
      refine ⟨step_free rfl (fun aF wF hs hb => ?_), ?_⟩
      · obtain ⟨x0, -⟩ := hs
        have e0 : aF.eval (.tmp 5) = .int .i64 v1 := x0
        exact opC_move e0 ⟨rfl, below_same wF⟩
      refine ⟨step_free rfl (fun aF wF hs hb => ?_), ?_⟩
      · obtain ⟨x0, -⟩ := hs
        have e0 : aF.eval (.tmp 7) = .int .u64 v2 := x0
        exact opC_move e0 ⟨rfl, below_same wF⟩
      refine ⟨step_free rfl (fun aF wF hs hb => ?_), ?_⟩
      · obtain ⟨x0, -⟩ := hs
        have e0 : aF.eval (.tmp 96) = .int .u64 v2 := x0
        refine opC_value (v := .int .u32 (R : Int)) ?_ ⟨rfl, below_same wF⟩
        simp [execOp, go_sem, ev_of e0, hw2]
      refine ⟨step_free rfl (fun aF wF hs hb => ?_), ?_⟩
      · obtain ⟨x0, -⟩ := hs
        have e0 : aF.eval (.tmp 4) = .slice (some ⟨g, 0, none⟩) 8 c := x0
        exact opC_move e0 ⟨rfl, below_same wF⟩
      refine ⟨step_free rfl (fun aF wF hs hb => ?_), ?_⟩
      · obtain ⟨x0, -⟩ := hs
        have e0 : aF.eval (.tmp 98) = .slice (some ⟨g, 0, none⟩) 8 c := x0
        refine opC_value (v := .pointer (some ⟨g, 3, none⟩)) ?_ ⟨rfl, below_same wF⟩
        have t0 := ev_of e0
        simp [execOp, go_sem, t0]
      refine ⟨step_free rfl (fun aF wF hs hb => ?_), ?_⟩
      · obtain ⟨x0, -⟩ := hs
        have e0 : aF.eval (.tmp 99) = .pointer (some ⟨g, 3, none⟩) := x0
        exact opC_load e0 (L3 wF hb) ⟨rfl, below_same wF⟩
      refine ⟨step_free rfl (fun aF wF hs hb => ?_), ?_⟩
      · obtain ⟨x0, -⟩ := hs
        have e0 : aF.eval (.tmp 100) = .string s3 := x0
        exact opC_call (args := #[.string s3]) (enters9 Tryz.func96 (by kernel_rfl) rfl) (by simp [e0]) (CB wF) (fun _ h => ⟨rfl, h⟩)
      refine ⟨step_free rfl (fun aF wF hs hb => ?_), ?_⟩
      · obtain ⟨x0, x1, -⟩ := hs
        have e0 : aF.eval (.tmp 97) = .int .u32 (R : Int) := x0
        have e1 : aF.eval (.tmp 101) = .int .u8 (Bn : Int) := x1
        refine opC_value (v := .agg #[.int .u32 (R : Int), .int .u8 (Bn : Int)]) ?_ ⟨rfl, below_same wF⟩
        have t0 := ev_of e0
        have t1 := ev_of e1
        simp [execOp, go_sem, t0, t1]
      refine ⟨step_free rfl (fun aF wF hs hb => ?_), ?_⟩
      · obtain ⟨x0, -⟩ := hs
        have e0 : aF.eval (.tmp 9) = .int .i64 v4 := x0
        exact opC_move e0 ⟨rfl, below_same wF⟩
      refine ⟨step_free rfl (fun aF wF hs hb => ?_), ?_⟩
      · obtain ⟨x0, -⟩ := hs
        have e0 : aF.eval (.tmp 11) = .int .i32 v5 := x0
        exact opC_move e0 ⟨rfl, below_same wF⟩
      refine ⟨step_free rfl (fun aF wF hs hb => ?_), ?_⟩
      · obtain ⟨x0, -⟩ := hs
        have e0 : aF.eval (.tmp 13) = .int .i64 v6 := x0
        exact opC_move e0 ⟨rfl, below_same wF⟩
      refine ⟨step_free rfl (fun aF wF hs hb => ?_), ?_⟩
      · obtain ⟨x0, -⟩ := hs
        have e0 : aF.eval (.tmp 15) = .int .i64 v7 := x0
        exact opC_move e0 ⟨rfl, below_same wF⟩
      refine ⟨step_free rfl (fun aF wF hs hb => ?_), ?_⟩
      · obtain ⟨x0, x1, x2, x3, x4, x5, x6, -⟩ := hs
        have e0 : aF.eval (.tmp 94) = .int .u8 (K : Int) := x0
        have e1 : aF.eval (.tmp 95) = .int .i64 v1 := x1
        have e2 : aF.eval (.tmp 102) = .agg #[.int .u32 (R : Int), .int .u8 (Bn : Int)] := x2
        have e3 : aF.eval (.tmp 103) = .int .i64 v4 := x3
        have e4 : aF.eval (.tmp 104) = .int .i32 v5 := x4
        have e5 : aF.eval (.tmp 105) = .int .i64 v6 := x5
        have e6 : aF.eval (.tmp 106) = .int .i64 v7 := x6
        refine opC_value (v := .agg #[.int .u8 (K : Int), .int .i64 v1, .int .u32 (R : Int), .int .u8 (Bn : Int), .int .i64 v4, .int .i32 v5, .int .i64 v6, .int .i64 v7]) ?_ ⟨rfl, below_same wF⟩
        have t0 := ev_of e0
        have t1 := ev_of e1
        have t2 := ev_of e2
        have t3 := ev_of e3
        have t4 := ev_of e4
        have t5 := ev_of e5
        have t6 := ev_of e6
        simp [execOp, go_sem, t0, t1, t2, t3, t4, t5, t6]
      refine ⟨step_free rfl (fun aF wF hs hb => ?_), ?_⟩
      · refine opC_alloc (cs := #[.int .u8 0, .int .i64 0, .int .u32 0, .int .u8 0, .int .i64 0, .int .i32 0, .int .i64 0, .int .i64 0]) (by go_simp) ⟨⟨wF.heap.size, rfl, ?_, ?_⟩, ?_⟩
        · exact hb.size
        · exact heap_alloc_new wF _
        · exact b_alloc wF _
      exact trivial
    · intro f w9 hf hb9
      obtain ⟨g8, e8, hg8, hk8⟩ : (boxF U6.heap.size 28 #[.int .u8 0, .int .i64 0, .int .u32 0, .int .u8 0, .int .i64 0, .int .i32 0, .int .i64 0, .int .i64 0]).p (f 17) w9 := hf 17 17 rfl
      have e107 : f 16 = .agg #[.int .u8 (K : Int), .int .i64 v1, .int .u32 (R : Int), .int .u8 (Bn : Int), .int .i64 v4, .int .i32 v5, .int .i64 v6, .int .i64 v7] := hf 16 107 rfl
      simp only [putF, Act.put, List.setIfInBounds_toArray, List.set_cons_zero, List.set_cons_succ]
      rw [e8, e107]
      obtain ⟨k0, k1, k2, k3, k4, k5, k6, k7⟩ := blk8 hk8
      have z0 := Blk.frozen hk8 0
      have z1 := Blk.frozen hk8 1
      have z2 := Blk.frozen hk8 2
      have z3 := Blk.frozen hk8 3
      have z4 := Blk.frozen hk8 4
      have z5 := Blk.frozen hk8 5
      have z6 := Blk.frozen hk8 6
      have z7 := Blk.frozen hk8 7
      constructor
      go_simp
      have n8 := (Blk.set_ (Blk.set_ (Blk.set_ (Blk.set_ (Blk.set_ (Blk.set_ (Blk.set_ (Blk.set_ hk8 0 (.int .u8 (K : Int))) 1 (.int .i64 v1)) 2 (.int .u32 (R : Int))) 3 (.int .u8 (Bn : Int))) 4 (.int .i64 v4)) 5 (.int .i32 v5)) 6 (.int .i64 v6)) 7 (.int .i64 v7))
      have b8 := ((((((((hb9.setCell hg8 (.int .u8 (K : Int)) (p := ⟨g8, 0, none⟩)).setCell hg8 (.int .i64 v1) (p := ⟨g8, 1, none⟩)).setCell hg8 (.int .u32 (R : Int)) (p := ⟨g8, 2, none⟩)).setCell hg8 (.int .u8 (Bn : Int)) (p := ⟨g8, 3, none⟩)).setCell hg8 (.int .i64 v4) (p := ⟨g8, 4, none⟩)).setCell hg8 (.int .i32 v5) (p := ⟨g8, 5, none⟩)).setCell hg8 (.int .i64 v6) (p := ⟨g8, 6, none⟩)).setCell hg8 (.int .i64 v7) (p := ⟨g8, 7, none⟩))
      obtain ⟨V9, hV⟩ : ∃ V, ((((((((w9.setCell ⟨g8, 0, none⟩ (.int .u8 (K : Int))).setCell ⟨g8, 1, none⟩ (.int .i64 v1)).setCell ⟨g8, 2, none⟩ (.int .u32 (R : Int))).setCell ⟨g8, 3, none⟩ (.int .u8 (Bn : Int))).setCell ⟨g8, 4, none⟩ (.int .i64 v4)).setCell ⟨g8, 5, none⟩ (.int .i32 v5)).setCell ⟨g8, 6, none⟩ (.int .i64 v6)).setCell ⟨g8, 7, none⟩ (.int .i64 v7)) = V := ⟨_, rfl⟩
      rw [hV] at n8 b8 ⊢
      simp only [List.setIfInBounds_toArray, List.set_cons_zero, List.set_cons_succ] at n8
      have hx9 := HX6.out.below b8 HX6.out.lt
      have hbw := HBB6.out.trans (b8.mono HBB6.out.size)
      have hTV := TText_all ⟨K, v1, R, Bn, v4, v5, v6, v7⟩ V9 (HLD.out.below hbw)
      obtain ⟨X, hXe⟩ : ∃ X, tText ⟨K, v1, R, Bn, v4, v5, v6, v7⟩ = X := ⟨_, rfl⟩
      rw [hXe] at hTV
      unfold Trm.v at hTV
      dsimp only at hTV
      have HXE := Lib.hid hXe
      clear hXe hV b8 hb9 hk8 hg8 k0 k1 k2 k3 k4 k5 k6 k7 z0 z1 z2 z3 z4 z5 z6 z7 e8 e107 hf CK CB L0 L3 hw2
      obtain ⟨k0, k1, k2, k3, k4, k5, k6, k7⟩ := blk8 n8
      have HN := Lib.hid n8
      have HX9 := Lib.hid hx9
      have HBW := Lib.hid hbw
      clear n8 hx9 hbw HX6 HS6 HBB6 HK HSZ
      simp only [comesC]
      go_wp2_with fail
      refine hTV.mono ?_
      rintro e w11 ⟨rfl, hb11⟩
      have HN11 := Lib.hid (HN.out.below hb11 HN.out.lt)
      have HX11 := Lib.hid (HX9.out.below hb11 HX9.out.lt)
      have HBW11 := Lib.hid (HBW.out.trans (hb11.mono HBW.out.size))
      clear hTV hb11 k0 k1 k2 k3 k4 k5 k6 k7 HN HX9 HBW
      by_cases hxs : X = s
      · have hRt : Trm.Right ⟨K, v1, R, Bn, v4, v5, v6, v7⟩ ∧ Trm.text ⟨K, v1, R, Bn, v4, v5, v6, v7⟩ = s := by
          have h1 := HXE.out
          have h2 := HNE.out
          unfold tText at h1
          split at h1
          · rename_i hr
            exact ⟨hr, by rw [h1, hxs]⟩
          · exfalso
            rw [hxs] at h1
            rw [← h1] at h2
            exact absurd h2 (by decide)
        have HRT := Lib.hid hRt
        have hcmp : (X.toList != s.toList) = false := by rw [hxs]; simp
        have hcmq : (X.toList == s.toList) = true := by rw [hxs]; simp
        clear hRt hxs
        obtain ⟨k0, k1, k2, k3, k4, k5, k6, k7⟩ := blk8 HN11.out
        obtain ⟨x0, x1, x2, x3, x4, x5, x6, x7⟩ := blk8 HX11.out
        have z0 := HX11.out.frozen 0
        have z1 := HX11.out.frozen 1
        have z2 := HX11.out.frozen 2
        have z3 := HX11.out.frozen 3
        have z4 := HX11.out.frozen 4
        have z5 := HX11.out.frozen 5
        have z6 := HX11.out.frozen 6
        have z7 := HX11.out.frozen 7
        have lz := HX11.out.lt
        go_wp2_with fail
        refine fin_tread (g := b) ?_ (set8c HX11.out _ _ _ _ _ _ _ _) rfl rfl (.inl ⟨⟨K, v1, R, Bn, v4, v5, v6, v7⟩, HRT.out.1, HRT.out.2, rfl⟩)
        exact below_set8 HBW11.out (Nat.le_of_eq HB.out) _ _ _ _ _ _ _ _
      · have hcmp : (X.toList != s.toList) = true := by
          rw [bne_iff_ne]
          intro e
          rw [Go.Lib.toList_data, Go.Lib.toList_data] at e
          exact hxs (ByteArray.ext (Array.toList_inj.1 e))
        have hcmq : (X.toList == s.toList) = false := by simpa using hcmp
        clear hxs
        obtain ⟨k0, k1, k2, k3, k4, k5, k6, k7⟩ := blk8 HN11.out
        obtain ⟨x0, x1, x2, x3, x4, x5, x6, x7⟩ := blk8 HX11.out
        have z0 := HX11.out.frozen 0
        have z1 := HX11.out.frozen 1
        have z2 := HX11.out.frozen 2
        have z3 := HX11.out.frozen 3
        have z4 := HX11.out.frozen 4
        have z5 := HX11.out.frozen 5
        have z6 := HX11.out.frozen 6
        have z7 := HX11.out.frozen 7
        have lz := HX11.out.lt
        go_wp2_with fail
        refine fin_tread (g := b) ?_ (set8c HX11.out _ _ _ _ _ _ _ _) rfl rfl (.inr rfl)
        exact below_set8 HBW11.out (Nat.le_of_eq HB.out) _ _ _ _ _ _ _ _
  · have h8i : ¬ (L.length : Int) = 8 := by omega
    clear h8 hsz hlen hc9 hs hbs hbx2 hb1
    obtain ⟨x0, x1, x2, x3, x4, x5, x6, x7⟩ := blk8 HX0.out
    have z0 := HX0.out.frozen 0
    have z1 := HX0.out.frozen 1
    have z2 := HX0.out.frozen 2
    have z3 := HX0.out.frozen 3
    have z4 := HX0.out.frozen 4
    have z5 := HX0.out.frozen 5
    have z6 := HX0.out.frozen 6
    have z7 := HX0.out.frozen 7
    have lz := HX0.out.lt
    go_wp2_with fail
    refine fin_tread (g := b) ?_ (set8c HX0.out _ _ _ _ _ _ _ _) rfl rfl (.inr rfl)
    exact below_set8 HBB0.out (Nat.le_of_eq HB.out) _ _ _ _ _ _ _ _
end Go.Proofs.YtjlajnackecfgaaGreatDoor
