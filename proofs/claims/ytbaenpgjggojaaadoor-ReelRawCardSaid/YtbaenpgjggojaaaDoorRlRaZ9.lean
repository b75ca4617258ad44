/-
What a second Open finds of what a first one has left, whatever there was. No condition but sizes.
-/
import Derived.Test.YtbaenpgjggojaaaDoorRlLyZ9
namespace Go.Proofs.YtbaenpgjggojaaaDoor
open Go.ChangeShapes Go.WideShapes Go.RowKit

theorem word_back (t : List UInt8) (h : t.length = 4) : Crc.wrd (headOf t) = t := by
  match t, h with
  | [a, b, c, d], _ =>
    have := Crc.u8_lt a
    have := Crc.u8_lt b
    have := Crc.u8_lt c
    have := Crc.u8_lt d
    have e : headOf [a, b, c, d] = a.toNat + 256 * b.toNat + 65536 * c.toNat + 16777216 * d.toNat := by
      simp [headOf, valK, List.getD]
      omega
    rw [e]
    unfold Crc.wrd
    have o : ∀ (x : Nat) (u : UInt8), x % 256 = u.toNat → UInt8.ofNat x = u := fun x u hx => UInt8.toNat_inj.1 (by rw [UInt8.toNat_ofNat', ← hx])
    rw [o _ a (by omega), o _ b (by omega), o _ c (by omega), o _ d (by omega)]
theorem word_front {l : List UInt8} (h : 4 ≤ l.length) : l = Crc.wrd (headOf l) ++ l.drop 4 := by
  have h1 := word_back (l.take 4) (by rw [List.length_take]; omega)
  have h2 : l = Crc.wrd (headOf (l.take 4)) ++ l.drop 4 := by rw [h1, List.take_append_drop]
  have h3 : headOf l = headOf (l.take 4) := by
    have := headOf_wrd (headOf (l.take 4)) (l.drop 4) (headOf_lt _)
    rw [← h2] at this
    exact this
  rw [h3]
  exact h2
/-- What is taken for a record is its frame. -/
theorem rec_frame {s : Nat} {l b : List UInt8} (h : recOf s l = some b) : b.length ≤ 100000 ∧ ∃ m, l = Crc.frm s b ++ m := by
  unfold recOf at h
  split at h
  · rename_i h0
    injection h with h
    unfold nxtErr at h0
    split at h0
    · cases h0
    · split at h0
      · cases h0
      · split at h0
        · cases h0
        · split at h0
          · cases h0
          · rename_i h1 h2 h3
            have h3 : Crc.chk s (l.take (4 + headOf l)) = headOf (l.drop (4 + headOf l)) := Decidable.not_not.1 h3
            obtain ⟨H, hH⟩ : ∃ H, headOf l = H := ⟨_, rfl⟩
            unfold nxtBody at h
            have f1 := word_front (l := l) (by omega)
            rw [hH] at h h1 h2 h3 f1
            have f2 := word_front (l := l.drop (4 + H)) (by rw [List.length_drop]; omega)
            rw [← h3] at f2
            have hbl : b.length = H := by rw [← h, List.length_take, List.length_drop]; omega
            have f3 : l.take (4 + H) = Crc.wrd H ++ b := by
              rw [← h]
              conv => lhs; rw [f1]
              rw [List.take_append, Crc.wrd_length, List.take_of_length_le (by rw [Crc.wrd_length]; omega), show 4 + H - 4 = H from by omega]
            refine ⟨by omega, (l.drop (4 + H)).drop 4, ?_⟩
            unfold Crc.frm
            rw [hbl, ← f3, List.append_assoc, ← f2, List.take_append_drop]
  · split at h
    · rename_i h1
      injection h with h
      subst h
      obtain ⟨m, hm⟩ := List.isPrefixOf_iff_prefix.1 h1
      exact ⟨by simp, m, hm.symm⟩
    · cases h
theorem founds_cut {g k : Nat} {l : List UInt8} {L : List (List UInt8)} (h : Founds g k l L) : Founds g k (l.take (254 * usedN L)) L := by
  induction h with
  | stop h0 => exact .stop (by simpa [usedN] using rec_nil _)
  | @more k l b L h0 h1 ih =>
    obtain ⟨hb, m, hm⟩ := rec_frame h0
    have hp := pages_bounds b.length
    rw [usedN_cons]
    refine .more (b := b) ?_ ?_
    · rw [hm, List.take_append, List.take_of_length_le (by rw [Crc.frm_length]; omega)]
      exact rec_front _ b _ hb
    · rw [List.drop_take, show 254 * (pagesN b.length + usedN L) - pagesN b.length * 254 = 254 * usedN L from by omega]
      exact ih
theorem founds_small {g k : Nat} {l : List UInt8} {L : List (List UInt8)} (h : Founds g k l L) : (∀ b ∈ L, b.length ≤ 100000) ∧ L.length ≤ usedN L := by
  induction h with
  | stop h0 => exact ⟨fun b hb => (by cases hb), Nat.zero_le _⟩
  | @more k l b L h0 h1 ih =>
    have hp := (pages_bounds b.length).2.2
    refine ⟨fun x hx => ?_, by rw [usedN_cons, List.length_cons]; have := ih.2; omega⟩
    rcases List.mem_cons.1 hx with rfl | hx
    · exact (rec_frame h0).1
    · exact ih.1 x hx
section
variable {fl fl' : List (List UInt8)} {ws ws' : List (Nat × List UInt8)}
theorem preL_len (a : Nat) : ∀ j, (∀ i, i < j → markOf (now fl ws (a + i)) = 165) → (∀ i, i < j → (now fl ws (a + i)).length = 256) → (preL fl ws a j).length = 254 * j := by
  intro j
  induction j with
  | zero => intro _ _; rfl
  | succ j ih =>
    intro hm hl
    unfold preL
    rw [List.length_append, ih (fun i hi => hm i (by omega)) (fun i hi => hl i (by omega)), body_marked (hl j (by omega)) (by rw [hm j (by omega)]; decide)]
    omega
theorem preL_take (a : Nat) : ∀ j, (∀ i, i < j → markOf (now fl ws (a + i)) = 165) → (∀ i, i < j → (now fl ws (a + i)).length = 256) → ∀ U, U ≤ j → (preL fl ws a j).take (254 * U) = preL fl ws a U := by
  intro j
  induction j with
  | zero => intro _ _ U hU; obtain rfl : U = 0 := by omega
            rfl
  | succ j ih =>
    intro hm hl U hU
    have hj := preL_len (fl := fl) (ws := ws) a j (fun i hi => hm i (by omega)) (fun i hi => hl i (by omega))
    have hj1 := preL_len (fl := fl) (ws := ws) a (j + 1) hm hl
    rcases Nat.lt_or_ge U (j + 1) with h | h
    · show (preL fl ws a j ++ bodyOf (now fl ws (a + j))).take (254 * U) = _
      rw [List.take_append_of_le_length (by omega)]
      exact ih (fun i hi => hm i (by omega)) (fun i hi => hl i (by omega)) U (by omega)
    · obtain rfl : U = j + 1 := by omega
      exact List.take_of_length_le (by omega)
theorem preL_congr (a : Nat) : ∀ U, (∀ i, i < U → now fl' ws' (a + i) = now fl ws (a + i)) → preL fl' ws' a U = preL fl ws a U := by
  intro U
  induction U with
  | zero => intro _; rfl
  | succ U ih =>
    intro h
    unfold preL
    rw [ih (fun i hi => h i (by omega)), h U (by omega)]
/-- What a first Open has found, and what it has left. -/
def Fnd (fl : List (List UInt8)) (ws : List (Nat × List UInt8)) (g : Nat) (L : List (List UInt8)) : Prop :=
  6 ≤ fl.length ∧ g ≠ 0 ∧ newN fl ws = g ∧ L ≠ [] ∧ usedN L ≤ halfN fl.length ∧ (∀ i, i < usedN L → markOf (now fl ws (startN fl.length g + i)) = 165) ∧ Founds g 0 (preL fl ws (startN fl.length g) (usedN L)) L ∧
    ∀ i, usedN L ≤ i → i < halfN fl.length → now fl ws (startN fl.length g + i) = zeros
theorem fnd_first {j : Nat} {L : List (List UInt8)} (h6 : 6 ≤ fl.length) (hl : fl'.length = fl.length) (hlen : ∀ i, i < fl.length → (now fl ws i).length = 256) (hn0 : newN fl ws ≠ 0) (hL : L ≠ []) (hj : j ≤ halfN fl.length) (hm : ∀ i, i < j → markOf (now fl ws (startN fl.length (newN fl ws) + i)) = 165)
    (hF : Founds (newN fl ws) 0 (preL fl ws (startN fl.length (newN fl ws)) j) L) (hu : usedN L ≤ j)
    (hnow : ∀ i, now fl' ws' i = if startN fl.length (newN fl ws) + usedN L ≤ i ∧ i < startN fl.length (newN fl ws) + halfN fl.length then zeros else now fl ws i) : Fnd fl' ws' (newN fl ws) L := by
  obtain ⟨g, hg⟩ : ∃ g, newN fl ws = g := ⟨_, rfl⟩
  rw [hg] at hn0 hm hF hnow ⊢
  have hb := half_bounds fl.length g h6
  unfold Fnd
  rw [hl]
  have hs : ∀ i, i < usedN L → now fl' ws' (startN fl.length g + i) = now fl ws (startN fl.length g + i) := fun i hi => by rw [hnow, if_neg (by omega)]
  refine ⟨h6, hn0, ?_, hL, by omega, fun i hi => by rw [hs i hi]; exact hm i (by omega), ?_, fun i h1 h2 => by rw [hnow, if_pos (by omega)]⟩
  · rw [← hg]
    unfold newN
    rw [hnow, hnow, if_neg (by omega), if_neg (by omega)]
  · rw [preL_congr _ _ hs, ← preL_take (startN fl.length g) j hm (fun i hi => hlen _ (by omega)) (usedN L) hu]
    exact founds_cut hF
theorem Fnd.found {g j : Nat} {L M : List (List UInt8)} (h : Fnd fl ws g L) (hj : j ≤ halfN fl.length) (hm : ∀ i, i < j → markOf (now fl ws (startN fl.length (newN fl ws) + i)) = 165)
    (he : j = halfN fl.length ∨ markOf (now fl ws (startN fl.length (newN fl ws) + j)) ≠ 165) (hM : Founds (newN fl ws) 0 (preL fl ws (startN fl.length (newN fl ws)) j) M) : j = usedN L ∧ M = L := by
  obtain ⟨h6, h0, hg, hL, hu, hk, hF, hz⟩ := h
  rw [hg] at hm he hM
  have hju : j = usedN L := by
    rcases Nat.lt_trichotomy j (usedN L) with h | h | h
    · rcases he with he | he
      · omega
      · exact absurd (hk j h) he
    · exact h
    · have e := hm (usedN L) h
      rw [hz _ (Nat.le_refl _) (by omega)] at e
      exact absurd (markOf_zeros.symm.trans e) (by decide)
  subst hju
  exact ⟨rfl, hM.one hF⟩
theorem Fnd.noErr {g : Nat} {L : List (List UInt8)} (h : Fnd fl ws g L) (k : Nat) : ¬ OpenErr fl ws k := by
  rintro (⟨-, e⟩ | ⟨-, -, e⟩ | ⟨-, -, -, j, h1, h2, h3, h4⟩)
  · have := h.1; omega
  · exact h.2.1 (h.2.2.1.symm.trans e)
  · exact h.2.2.2.1 (h.found h1 h2 h3 h4).2.symm
/-- Two reels on a drum, of the same records. -/
def Two (W : World) (base d r s g : Nat) (L : List (List UInt8)) (fl : List (List UInt8)) (ws : List (Nat × List UInt8)) : Prop :=
  (∃ own, Rl W base d r g own fl ws L) ∧ (∃ own, Rl W base d s g own fl ws L) ∧ Fnd fl ws g L ∧ fl.length ≤ 1000
theorem Two.below {W W' : World} {base d r s g : Nat} {L : List (List UInt8)} (h : Two W base d r s g L fl ws) (hb : Below W.heap.size W W') : Two W' base d r s g L fl ws :=
  ⟨h.1.elim fun o k => ⟨o, k.below hb⟩, h.2.1.elim fun o k => ⟨o, k.below hb⟩, h.2.2⟩
theorem Fnd.same {g : Nat} {L : List (List UInt8)} (h : Fnd fl ws g L) (hl : fl'.length = fl.length) (hn : ∀ i, now fl' ws' i = now fl ws i) : Fnd fl' ws' g L := by
  obtain ⟨h6, h0, hg, hL, hu, hk, hF, hz⟩ := h
  unfold Fnd
  rw [hl]
  refine ⟨h6, h0, ?_, hL, hu, fun i hi => by rw [hn]; exact hk i hi, ?_, fun i h1 h2 => by rw [hn]; exact hz i h1 h2⟩
  · rw [← hg]
    unfold newN
    rw [hn, hn]
  · rw [preL_congr _ _ fun i _ => hn _]
    exact hF
theorem open_again {W : World} {base d r g : Nat} {own : Nat → Prop} {L : List (List UInt8)} (hr : Rl W base d r g own fl ws L) (hf : Fnd fl ws g L) (h1k : fl.length ≤ 1000) (hws : ws.length ≤ 700000) (hge : ∀ i, own i → base ≤ i) (hbw : base ≤ W.heap.size) :
    Calls Tryd.prog 12 #[.pointer (some ⟨d, 0, none⟩)] W fun e W' => ∃ s fl' ws', e = .returned (.tuple #[.pointer (some ⟨s, 0, none⟩), .nilIface]) ∧ Two W' base d r s g L fl' ws' ∧ fl'.length = fl.length ∧ ∀ w0, Below base w0 W → Below base w0 W' := by
  obtain ⟨o, hd, ho, hstep⟩ := hr.drum
  refine (Open_dr hd h1k (by omega)).mono ?_
  rintro e W' (⟨k, h1, -⟩ | ⟨s, rfl, j, M, own', fl', ws', h6, hr2, hn0, hLn, hj, hm, he, hF, hu, hRl, hk, hs, hl, hwl, hnow⟩)
  · exact absurd h1 (hf.noErr k)
  · obtain ⟨rfl, rfl⟩ := hf.found hj hm he hF
    have hf' := hf
    obtain ⟨g6, g0, gg, gL, gu, gk, gF, gz⟩ := hf'
    rw [gg] at hRl hnow
    obtain ⟨o2, hd2, ho2, -⟩ := hRl.drum
    obtain ⟨own3, h3, -, -⟩ := hstep fl' ws' W' ⟨o2, hd2, hk, fun i hi h => hs i hi (ho2 i h)⟩
    refine ⟨s, fl', ws', rfl, ⟨⟨own3, h3⟩, ⟨own', hRl⟩, hf.same hl fun i => ?_, by omega⟩, hl, fun w0 hb => kept_below hk hb hbw fun i hi => hge i (ho i hi)⟩
    rw [hnow]
    split
    · rename_i hh
      obtain ⟨q, rfl⟩ : ∃ q, i = startN fl.length g + q := ⟨i - startN fl.length g, by omega⟩
      exact (gz q (by omega) (by omega)).symm
    · rfl
end
end Go.Proofs.YtbaenpgjggojaaaDoor
