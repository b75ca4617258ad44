/-
  coin.Read, strconv.ParseUint, strconv.Atoi, date.Read of any word: some number, or an error. Conditions: the laid variables' cells.
-/
import Derived.Test.YtjcnglkjjhnpbaaGreatDoorCRdQ
import Derived.Test.YtjcnglkjjhnpbaaGreatDoorReadN
import Derived.Test.YtjcnglkjjhnpbaaGreatDoorTrmD
namespace Go.Proofs.YtjcnglkjjhnpbaaGreatDoor
open Go.ChangeShapes Go.WideShapes Go.ChangeAt Go.RowKit

/-- What the laid variables give. -/
structure TLd (w : World) : Prop where
  le : Lens w
  po : Pows w
  mx : ∃ m, w.cell? ⟨5, 0, none⟩ = some (.int .i64 m)
  er : ∃ a, w.cell? ⟨1, 0, none⟩ = some (.iface 275 (.pointer (some a)))
  es : ∃ t p, w.cell? ⟨4, 0, none⟩ = some (.iface t p)
theorem TLd.below {w w' : World} (h : TLd w) (hb : Below w.heap.size w w') : TLd w' := by
  obtain ⟨h1, h2, ⟨m, h3⟩, ⟨a, h4⟩, ⟨t, p, h5⟩⟩ := h
  exact ⟨h1.below hb, h2.below hb, ⟨m, (hb.cell (block_lt_of_cell h3)).trans h3⟩, ⟨a, (hb.cell (block_lt_of_cell h4)).trans h4⟩, ⟨t, p, (hb.cell (block_lt_of_cell h5)).trans h5⟩⟩
theorem TLd.later {B : Nat} {w w' : World} (h : TLd w) (hb : Below B w w') (hB : B = w.heap.size) : TLd w' := by subst hB; exact h.below hb
theorem TLd.errs {w : World} (h : TLd w) : Errs w := by
  obtain ⟨_, _, _, ⟨a, h4⟩, h5⟩ := h
  exact ⟨h5, ⟨_, _, h4⟩⟩
/-- No error, or one. -/
def ErOk (er : Value) : Prop := er = .nilIface ∨ ∃ t p, er = .iface t p
def LsP (k : IntKind) (w : World) (e : Ending) (w' : World) : Prop := (∃ v er, e = .returned (.tuple #[.int k v, er]) ∧ ErOk er) ∧ Below w.heap.size w w'
theorem okS_text {S : ByteArray} (h : okS S = true) (hv : (ngS S = false ∧ valS S ≤ 9223372036854775807) ∨ (ngS S = true ∧ valS S ≤ 9223372036854775808)) : ∃ a : Int, (-9223372036854775808 ≤ a ∧ a ≤ 9223372036854775807) ∧ S = textC a := by
  unfold okS at h
  rw [Bool.and_eq_true] at h
  obtain ⟨hf, hz⟩ := h
  have hf2 := hf
  unfold fmS at hf2
  rw [Bool.and_eq_true] at hf2
  have ht := val_text hf2.1 hf2.2
  have hzt := zero_text hf2.1 hf2.2
  have hnz : ¬ (ngS S = true ∧ valS S = 0) := fun ⟨h1, h2⟩ => by
    have := hzt.1 h2
    rw [h1, this] at hz
    exact absurd hz (by decide)
  have hsp := split_S S
  refine ⟨if ngS S then -(valS S : Int) else (valS S : Int), ?_, ?_⟩
  · cases hn : ngS S
    · rw [hn] at hv
      simp only [Bool.false_eq_true, if_false] at hv ⊢
      simp at hv
      omega
    · rw [hn] at hv
      simp only [if_true] at hv ⊢
      simp at hv
      omega
  · have hl : S.data.toList = (textC (if ngS S then -(valS S : Int) else (valS S : Int))).data.toList := by
      rw [text_lists, hsp, ht]
      cases hn : ngS S
      · simp only [Bool.false_eq_true, if_false, List.nil_append, Int.natAbs_natCast]
        rw [show sgnL (valS S : Int) = [] by unfold sgnL; rw [if_neg (by omega)], List.nil_append]
        rfl
      · have hpos : valS S ≠ 0 := fun e => hnz ⟨hn, e⟩
        simp only [if_true, Int.natAbs_neg, Int.natAbs_natCast]
        rw [show sgnL (-(valS S : Int)) = [45] by unfold sgnL; rw [if_pos (by omega)]]
        rfl
    obtain ⟨x⟩ := S
    obtain ⟨y, hy⟩ : ∃ y : ByteArray, textC (if ngS ⟨x⟩ then -(valS ⟨x⟩ : Int) else (valS ⟨x⟩ : Int)) = y := ⟨_, rfl⟩
    rw [hy] at hl ⊢
    obtain ⟨y⟩ := y
    exact congrArg ByteArray.mk (Array.toList_inj.1 hl)
theorem CRd_ls (S : ByteArray) (hS : S.size ≤ 120) (w : World) (h : TLd w) : Calls Tryz.prog 57 #[.string S] w (LsP .i64 w) := by
  obtain ⟨m, hm⟩ := h.mx
  obtain ⟨a, ha⟩ := h.er
  cases hk : okS S with
  | false => exact (CRead_no S hS hk w m hm).mono fun e w' ⟨h1, h2⟩ => ⟨⟨_, _, h1, .inr ⟨_, _, rfl⟩⟩, h2⟩
  | true =>
    by_cases hv : (ngS S = false ∧ valS S ≤ 9223372036854775807) ∨ (ngS S = true ∧ valS S ≤ 9223372036854775808)
    · obtain ⟨x, hx, rfl⟩ := okS_text hk hv
      exact (Read_any x hx w m hm _ _ ha).mono fun e w' ⟨h1, h2⟩ => ⟨⟨_, _, h1, .inl rfl⟩, h2⟩
    · exact (CRead_over S hS hk hv w m hm a ha).mono fun e w' ⟨h1, h2⟩ => ⟨⟨_, _, h1, .inr ⟨_, _, rfl⟩⟩, h2⟩
theorem Atoi_ls (S : ByteArray) (hS : S.size ≤ 120) (w : World) (h : TLd w) : Calls Tryz.prog 59 #[.string S] w (LsP .i64 w) := by
  obtain ⟨a, ha⟩ := h.er
  obtain ⟨t, p, he⟩ := h.es
  cases hA : Lib.atoiAll S.data.toList
  · rename_i v
    refine (Tryz.strconv_Atoi_ok S (by omega) v hA w).mono ?_
    rintro e w' ⟨he, hw⟩
    refine ⟨⟨_, _, he, .inl rfl⟩, ?_⟩
    rcases hw with rfl | ⟨t, rfl⟩
    · exact Below.refl _ _
    · exact below_bytes _ _ _
  · refine (Any.strconv_Atoi_syntax Tryz.laysC172 S (by omega) hA _ w he (Or.inr ⟨t, p, rfl⟩)).mono ?_
    rintro e w' ⟨N, he, -, -, hb⟩
    exact ⟨⟨_, _, he, .inr ⟨_, _, rfl⟩⟩, hb⟩
  · refine (Any.strconv_Atoi_range Tryz.laysC172 S (by omega) hA _ w ha (Or.inr ⟨_, _, rfl⟩)).mono ?_
    rintro e w' ⟨N, he, -, -, hb⟩
    exact ⟨⟨_, _, he, .inr ⟨_, _, rfl⟩⟩, hb⟩
theorem PUint_ls (S : ByteArray) (hS : S.size ≤ 120) (w : World) (h : TLd w) : Calls Tryz.prog 58 #[.string S, .int .i64 10, .int .i64 32] w (LsP .u64 w) := by
  obtain ⟨a, ha⟩ := h.er
  obtain ⟨t, p, he⟩ := h.es
  cases hA : Lib.parseUintB 32 S.data.toList
  · rename_i v
    refine (Tryz.strconv_ParseUint_10_at32_ok S (by omega) v hA w).mono ?_
    rintro e w' ⟨he, hw⟩
    refine ⟨⟨_, _, he, .inl rfl⟩, ?_⟩
    rcases hw with rfl | rfl
    · exact Below.refl _ _
    · exact below_bytes _ _ _
  · refine (Any.strconv_ParseUint_10_at32_syntax Tryz.laysPu14 S (by omega) hA _ w he (Or.inr ⟨t, p, rfl⟩)).mono ?_
    rintro e w' ⟨N, he, -, -, hb⟩
    exact ⟨⟨_, _, he, .inr ⟨_, _, rfl⟩⟩, hb⟩
  · refine (Any.strconv_ParseUint_10_at32_range Tryz.laysPu14 S (by omega) hA _ w ha (Or.inr ⟨_, _, rfl⟩)).mono ?_
    rintro e w' ⟨N, he, -, -, hb⟩
    exact ⟨⟨_, _, he, .inr ⟨_, _, rfl⟩⟩, hb⟩
set_option maxRecDepth 100000 in
set_option maxHeartbeats 4000000 in
theorem DRd_long (S : ByteArray) (_hS : S.size ≤ 120) (hz : ¬ S.size = 10) (w : World) : Calls Tryz.prog 60 #[.string S] w (LsP .i32 w) := by
  have hz2 : ¬ (S.size : Int) = 10 := by omega
  go_enter Tryz.func60, Tryz.ntmps60
  go_wp2_with fail
  go_returns
  exact ⟨⟨_, _, rfl, .inr ⟨_, _, rfl⟩⟩, Below.refl _ _⟩
theorem DRd_ls (S : ByteArray) (hS : S.size ≤ 120) (w : World) (h : TLd w) : Calls Tryz.prog 60 #[.string S] w (LsP .i32 w) := by
  by_cases hz : S.size = 10
  · by_cases hd : noDay S
    · exact (DRead_no S (by omega) hd w h.le h.po h.errs).mono fun e w' ⟨h1, h2⟩ => ⟨⟨_, _, h1, .inr ⟨_, _, rfl⟩⟩, h2⟩
    · unfold noDay at hd
      simp only [Classical.not_forall, Classical.not_not] at hd
      obtain ⟨n, h0, h1, rfl⟩ := hd
      exact (Read_text n h0 h1 w h.le h.po).mono fun e w' ⟨h1, h2⟩ => ⟨⟨_, _, h1, .inl rfl⟩, h2⟩
  · exact DRd_long S hS hz w
theorem splitB_sz (sep : ByteArray) : ∀ (k : Nat) (s : ByteArray), ∀ x ∈ Lib.splitB sep 0 k s, x.size ≤ s.size
  | 0, s => fun x hx => by
    rw [Lib.splitB_zero] at hx
    rw [List.mem_singleton.1 hx]
    exact Nat.le_refl _
  | k + 1, s => fun x hx => by
    unfold Lib.splitB at hx
    split at hx
    · rw [List.mem_singleton.1 hx]
      exact Nat.le_refl _
    · rcases List.mem_cons.1 hx with rfl | hx
      · rw [ByteArray.size_extract]; omega
      · have := splitB_sz sep k _ x hx
        rw [ByteArray.size_extract] at this
        omega
theorem words_at {L : List ByteArray} {N i : Nat} (h : i < L.length) : (Lib.cellsOf L N)[i]? = some (.string (L[i]'h)) := by
  unfold Lib.cellsOf
  rw [List.getElem?_toArray, List.getElem?_append_left (by simpa using h), List.getElem?_map, List.getElem?_eq_getElem h]
  rfl
set_option maxRecDepth 100000 in
set_option maxHeartbeats 4000000 in
/-- Text of terms that aren't Right. -/
theorem TText_no {t : Trm} (h : ¬ t.Right) (w : World) : Calls Tryz.prog 23 #[t.v] w (Ret (.string ⟨#[]⟩) w) := by
  have hT := fun W => TRight_false h W
  obtain ⟨K, P, R, B, M, S, F, G⟩ := t
  clear h
  unfold Trm.v at hT ⊢
  dsimp only at hT ⊢
  have HQ := Lib.hid (Blk.new w 28 #[.int .u8 (K : Int), .int .i64 P, .int .u32 (R : Int), .int .u8 (B : Int), .int .i64 M, .int .i32 S, .int .i64 F, .int .i64 G])
  have HB0 := Lib.hid (b_alloc w (.cells #[.int .u8 (K : Int), .int .i64 P, .int .u32 (R : Int), .int .u8 (B : Int), .int .i64 M, .int .i32 S, .int .i64 F, .int .i64 G] 28))
  go_enter Tryz.func23, Tryz.ntmps23
  obtain ⟨c0, c1, c2, c3, c4, c5, c6, c7⟩ := blk8 HQ.out
  go_wp2_with fail
  refine (hT _).mono ?_
  rintro e w1 ⟨rfl, hb1⟩
  have HB1 := Lib.hid (HB0.out.trans (hb1.mono HB0.out.size))
  clear hb1 c0 c1 c2 c3 c4 c5 c6 c7 HQ HB0 hT
  go_wp2_with fail
  go_ret
  exact ⟨by first | rfl | simp, HB1.out⟩
/-- What Text tells of any terms. -/
noncomputable def tText (t : Trm) : ByteArray := open Classical in if t.Right then t.text else ⟨#[]⟩
theorem TText_all (t : Trm) (w : World) (h : TLd w) : Calls Tryz.prog 23 #[t.v] w (Ret (.string (tText t)) w) := by
  unfold tText
  by_cases hr : t.Right
  · rw [if_pos hr]
    exact TText_yes hr (by have := t.len hr; omega) w h.le h.po
  · rw [if_neg hr]
    exact TText_no hr w
end Go.Proofs.YtjcnglkjjhnpbaaGreatDoor
