/-
coin.isText at any text. Conditions: the laid variables' cells.
What coin.Read, the library and the document make of any text: plain mathematics. No condition.
errors.Is of a *NumError that wraps strconv.ErrRange. Condition: its block is there.
coin.isText and coin.Read at any text. Conditions: the laid variables' cells.
-/
import Derived.Test.YtjlajnackecfgaaGreatDoorCRdNW9
import Derived.Test.YtjlajnackecfgaaGreatDoorCodeCW9
import Derived.Stop.Asserts
import Derived.LaidEql
namespace Go.Proofs.YtjlajnackecfgaaGreatDoor
open Go.RowKit Go.Lib

/-- What isText tells, of what CutPrefix and Cut make. -/
def isT (T HB RB : ByteArray) (neg pt : Bool) : Bool :=
  if pt = false then false else if RB.size ≠ 2 then false else if digitsOf HB = false then false else if digitsOf RB = false then false
  else if HB[0]? = some 48 ∧ 1 < HB.size then false else (!neg || !(T.toList == [48, 46, 48, 48]))
theorem digits_head {s : ByteArray} (h : digitsOf s = true) : ∃ d, s[0]? = some d := by
  unfold digitsOf at h
  rw [Lib.toList_data] at h
  obtain ⟨⟨l⟩⟩ := s
  cases l with
  | nil => simp at h
  | cons a l => exact ⟨a, rfl⟩
set_option maxHeartbeats 4000000 in
set_option maxRecDepth 20000 in
theorem isText_gen (S T HB RB : ByteArray) (neg pt : Bool) (w : World)
    (cP : ∀ W, Calls Tryz.prog 136 #[.string S, .string ⟨#[45]⟩] W fun e w' => e = .returned (.tuple #[.string T, .bool neg]) ∧ w' = W)
    (cC : Calls Tryz.prog 71 #[.string T, .string ⟨#[46]⟩] w fun e w' => e = .returned (.tuple #[.string HB, .string RB, .bool pt]) ∧ ∃ n, w' = w.drewN n) :
    Calls Tryz.prog 109 #[.string S] w fun e w' => e = .returned (.bool (isT T HB RB neg pt)) ∧ Below w.heap.size w w' := by
  have cD1 := fun W => digits_any W HB
  have cD2 := fun W => digits_any W RB
  cases pt
  · rw [show isT T HB RB neg false = false from rfl]
    clear cD1 cD2
    go_enter Tryz.func109, Tryz.ntmps109
    go_wp2_with fail
    refine (cP _).mono ?_
    rintro e w' ⟨rfl, rfl⟩
    go_wp2_with fail
    refine cC.mono ?_
    rintro e w' ⟨rfl, n, rfl⟩
    clear cP cC
    go_wp2_with fail
    go_ret
    exact ⟨by first | rfl | simp, below_drewN (Below.refl _ _) n⟩
  · by_cases hs : RB.size = 2
    · cases h1 : digitsOf HB
      · have e : isT T HB RB neg true = false := by unfold isT; simp [hs, h1]
        rw [e]
        rw [h1] at cD1
        clear e h1 cD2
        go_enter Tryz.func109, Tryz.ntmps109
        go_wp2_with fail
        refine (cP _).mono ?_
        rintro e w' ⟨rfl, rfl⟩
        go_wp2_with fail
        refine cC.mono ?_
        rintro e w' ⟨rfl, n, rfl⟩
        clear cP cC
        go_wp2_with fail
        refine (cD1 _).mono ?_
        rintro e w1 ⟨rfl, hb1⟩
        clear cD1
        go_wp2_with fail
        go_ret
        exact ⟨by first | rfl | simp, (below_drewN (Below.refl _ _) n).trans hb1⟩
      · cases h2 : digitsOf RB
        · have e : isT T HB RB neg true = false := by unfold isT; simp [hs, h1, h2]
          rw [e]
          rw [h1] at cD1
          rw [h2] at cD2
          clear e h1 h2
          go_enter Tryz.func109, Tryz.ntmps109
          go_wp2_with fail
          refine (cP _).mono ?_
          rintro e w' ⟨rfl, rfl⟩
          go_wp2_with fail
          refine cC.mono ?_
          rintro e w' ⟨rfl, n, rfl⟩
          clear cP cC
          go_wp2_with fail
          refine (cD1 _).mono ?_
          rintro e w1 ⟨rfl, hb1⟩
          clear cD1
          go_wp2_with fail
          refine (cD2 _).mono ?_
          rintro e w2 ⟨rfl, hb2⟩
          clear cD2
          go_wp2_with fail
          go_ret
          exact ⟨by first | rfl | simp, Below.trans ((below_drewN (Below.refl _ _) n).trans hb1) (hb2.mono hb1.size)⟩
        · obtain ⟨d, h0⟩ := digits_head h1
          have hI := fun W => idx_str HB d h0 W
          by_cases h48 : d = 48
          · by_cases hl : 1 < HB.size
            · have e : isT T HB RB neg true = false := by unfold isT; simp [hs, h1, h2, h0, h48, hl]
              rw [e]
              rw [h1] at cD1
              rw [h2] at cD2
              subst h48
              have hl2 : (1 : Int) < (HB.size : Int) := by omega
              clear e h1 h2 h0
              go_enter Tryz.func109, Tryz.ntmps109
              go_wp2_with fail
              refine (cP _).mono ?_
              rintro e w' ⟨rfl, rfl⟩
              go_wp2_with fail
              refine cC.mono ?_
              rintro e w' ⟨rfl, n, rfl⟩
              clear cP cC
              go_wp2_with fail
              refine (cD1 _).mono ?_
              rintro e w1 ⟨rfl, hb1⟩
              clear cD1
              go_wp2_with fail
              refine (cD2 _).mono ?_
              rintro e w2 ⟨rfl, hb2⟩
              clear cD2
              go_wp2_with fail
              go_ret
              exact ⟨by first | rfl | simp, Below.trans ((below_drewN (Below.refl _ _) n).trans hb1) (hb2.mono hb1.size)⟩
            · have e : isT T HB RB neg true = (!neg || !(T.toList == [48, 46, 48, 48])) := by unfold isT; simp [hs, h1, h2, hl]
              rw [e]
              rw [h1] at cD1
              rw [h2] at cD2
              subst h48
              have hl2 : HB.size = 1 := by
                have : 0 < HB.size := by
                  obtain ⟨⟨l⟩⟩ := HB
                  cases l with
                  | nil => exact nomatch (show (Option.none : Option UInt8) = some 48 from h0)
                  | cons a l => simp [ByteArray.size]
                omega
              clear e h1 h2 h0 hl
              cases hn : (T.toList == [48, 46, 48, 48])
              · cases neg
                · go_enter Tryz.func109, Tryz.ntmps109
                  go_wp2_with fail
                  refine (cP _).mono ?_
                  rintro e w' ⟨rfl, rfl⟩
                  go_wp2_with fail
                  refine cC.mono ?_
                  rintro e w' ⟨rfl, n, rfl⟩
                  clear cP cC
                  go_wp2_with fail
                  refine (cD1 _).mono ?_
                  rintro e w1 ⟨rfl, hb1⟩
                  clear cD1
                  go_wp2_with fail
                  refine (cD2 _).mono ?_
                  rintro e w2 ⟨rfl, hb2⟩
                  clear cD2
                  go_wp2_with fail
                  go_ret
                  exact ⟨by first | rfl | simp, Below.trans ((below_drewN (Below.refl _ _) n).trans hb1) (hb2.mono hb1.size)⟩
                · go_enter Tryz.func109, Tryz.ntmps109
                  go_wp2_with fail
                  refine (cP _).mono ?_
                  rintro e w' ⟨rfl, rfl⟩
                  go_wp2_with fail
                  refine cC.mono ?_
                  rintro e w' ⟨rfl, n, rfl⟩
                  clear cP cC
                  go_wp2_with fail
                  refine (cD1 _).mono ?_
                  rintro e w1 ⟨rfl, hb1⟩
                  clear cD1
                  go_wp2_with fail
                  refine (cD2 _).mono ?_
                  rintro e w2 ⟨rfl, hb2⟩
                  clear cD2
                  go_wp2_with fail
                  go_ret
                  exact ⟨by first | rfl | simp, Below.trans ((below_drewN (Below.refl _ _) n).trans hb1) (hb2.mono hb1.size)⟩
              · cases neg
                · go_enter Tryz.func109, Tryz.ntmps109
                  go_wp2_with fail
                  refine (cP _).mono ?_
                  rintro e w' ⟨rfl, rfl⟩
                  go_wp2_with fail
                  refine cC.mono ?_
                  rintro e w' ⟨rfl, n, rfl⟩
                  clear cP cC
                  go_wp2_with fail
                  refine (cD1 _).mono ?_
                  rintro e w1 ⟨rfl, hb1⟩
                  clear cD1
                  go_wp2_with fail
                  refine (cD2 _).mono ?_
                  rintro e w2 ⟨rfl, hb2⟩
                  clear cD2
                  go_wp2_with fail
                  go_ret
                  exact ⟨by first | rfl | simp, Below.trans ((below_drewN (Below.refl _ _) n).trans hb1) (hb2.mono hb1.size)⟩
                · go_enter Tryz.func109, Tryz.ntmps109
                  go_wp2_with fail
                  refine (cP _).mono ?_
                  rintro e w' ⟨rfl, rfl⟩
                  go_wp2_with fail
                  refine cC.mono ?_
                  rintro e w' ⟨rfl, n, rfl⟩
                  clear cP cC
                  go_wp2_with fail
                  refine (cD1 _).mono ?_
                  rintro e w1 ⟨rfl, hb1⟩
                  clear cD1
                  go_wp2_with fail
                  refine (cD2 _).mono ?_
                  rintro e w2 ⟨rfl, hb2⟩
                  clear cD2
                  go_wp2_with fail
                  go_ret
                  exact ⟨by first | rfl | simp, Below.trans ((below_drewN (Below.refl _ _) n).trans hb1) (hb2.mono hb1.size)⟩
          · have e : isT T HB RB neg true = (!neg || !(T.toList == [48, 46, 48, 48])) := by unfold isT; simp [hs, h1, h2, h0, h48]
            rw [e]
            rw [h1] at cD1
            rw [h2] at cD2
            have jd : ((d.toNat : Int) == 48) = false := by
              rw [beq_eq_false_iff_ne]
              intro e
              exact h48 (UInt8.toNat_inj.1 (by simpa using (by omega : d.toNat = 48)))
            clear e h1 h2 h0 h48
            cases hn : (T.toList == [48, 46, 48, 48])
            · cases neg
              · go_enter Tryz.func109, Tryz.ntmps109
                go_wp2_with fail
                refine (cP _).mono ?_
                rintro e w' ⟨rfl, rfl⟩
                go_wp2_with fail
                refine cC.mono ?_
                rintro e w' ⟨rfl, n, rfl⟩
                clear cP cC
                go_wp2_with fail
                refine (cD1 _).mono ?_
                rintro e w1 ⟨rfl, hb1⟩
                clear cD1
                go_wp2_with fail
                refine (cD2 _).mono ?_
                rintro e w2 ⟨rfl, hb2⟩
                clear cD2
                go_wp2_with fail
                go_ret
                exact ⟨by first | rfl | simp, Below.trans ((below_drewN (Below.refl _ _) n).trans hb1) (hb2.mono hb1.size)⟩
              · go_enter Tryz.func109, Tryz.ntmps109
                go_wp2_with fail
                refine (cP _).mono ?_
                rintro e w' ⟨rfl, rfl⟩
                go_wp2_with fail
                refine cC.mono ?_
                rintro e w' ⟨rfl, n, rfl⟩
                clear cP cC
                go_wp2_with fail
                refine (cD1 _).mono ?_
                rintro e w1 ⟨rfl, hb1⟩
                clear cD1
                go_wp2_with fail
                refine (cD2 _).mono ?_
                rintro e w2 ⟨rfl, hb2⟩
                clear cD2
                go_wp2_with fail
                go_ret
                exact ⟨by first | rfl | simp, Below.trans ((below_drewN (Below.refl _ _) n).trans hb1) (hb2.mono hb1.size)⟩
            · cases neg
              · go_enter Tryz.func109, Tryz.ntmps109
                go_wp2_with fail
                refine (cP _).mono ?_
                rintro e w' ⟨rfl, rfl⟩
                go_wp2_with fail
                refine cC.mono ?_
                rintro e w' ⟨rfl, n, rfl⟩
                clear cP cC
                go_wp2_with fail
                refine (cD1 _).mono ?_
                rintro e w1 ⟨rfl, hb1⟩
                clear cD1
                go_wp2_with fail
                refine (cD2 _).mono ?_
                rintro e w2 ⟨rfl, hb2⟩
                clear cD2
                go_wp2_with fail
                go_ret
                exact ⟨by first | rfl | simp, Below.trans ((below_drewN (Below.refl _ _) n).trans hb1) (hb2.mono hb1.size)⟩
              · go_enter Tryz.func109, Tryz.ntmps109
                go_wp2_with fail
                refine (cP _).mono ?_
                rintro e w' ⟨rfl, rfl⟩
                go_wp2_with fail
                refine cC.mono ?_
                rintro e w' ⟨rfl, n, rfl⟩
                clear cP cC
                go_wp2_with fail
                refine (cD1 _).mono ?_
                rintro e w1 ⟨rfl, hb1⟩
                clear cD1
                go_wp2_with fail
                refine (cD2 _).mono ?_
                rintro e w2 ⟨rfl, hb2⟩
                clear cD2
                go_wp2_with fail
                go_ret
                exact ⟨by first | rfl | simp, Below.trans ((below_drewN (Below.refl _ _) n).trans hb1) (hb2.mono hb1.size)⟩
    · have e : isT T HB RB neg true = false := by unfold isT; simp [hs]
      rw [e]
      have hs2 : ((RB.size : Int) == 2) = false := by rw [beq_eq_false_iff_ne]; omega
      have hs3 : ((RB.size : Int) != 2) = true := by simp; omega
      clear e cD1 cD2
      go_enter Tryz.func109, Tryz.ntmps109
      go_wp2_with fail
      refine (cP _).mono ?_
      rintro e w' ⟨rfl, rfl⟩
      go_wp2_with fail
      refine cC.mono ?_
      rintro e w' ⟨rfl, n, rfl⟩
      clear cP cC
      go_wp2_with fail
      go_ret
      exact ⟨by first | rfl | simp, below_drewN (Below.refl _ _) n⟩
end Go.Proofs.YtjlajnackecfgaaGreatDoor
namespace Go.Proofs.YtjlajnackecfgaaGreatDoor
open Go.RowKit Go.Lib

theorem decode_hi (s : ByteArray) (pos : Nat) (h : 128 ≤ (s.get! pos).toNat) : 128 ≤ (Utf8.decode s pos).1 := by
  rw [decode_at]
  unfold decodeN
  rw [if_neg (by omega)]
  repeat' split
  all_goals first | (simp only []; omega) | decide
theorem get_bang (s : ByteArray) (pos : Nat) (h : pos < s.size) : s.get! pos = s[pos]'h := by simp [ByteArray.get!, getElem!_pos, h]; rfl
theorem idx_conv (s : ByteArray) : ∀ (f pos : Nat), s.size ≤ pos + f → Lib.idxFuncFrom noDigit true s f pos = -1 → ∀ j (hj : j < s.size), pos ≤ j → 48 ≤ (s[j]'hj).toNat ∧ (s[j]'hj).toNat ≤ 57
  | 0, pos, hf, _, j, hj, hp => by omega
  | f + 1, pos, hf, he, j, hj, hp => by
    have hps : pos < s.size := by omega
    unfold Lib.idxFuncFrom at he
    rw [if_pos hps] at he
    have hn : noDigit (Utf8.decode s pos).1 = false := by
      cases h : noDigit (Utf8.decode s pos).1
      · rfl
      · rw [h, if_pos rfl] at he; omega
    rw [hn, if_neg (by decide)] at he
    have hr : 48 ≤ (Utf8.decode s pos).1 ∧ (Utf8.decode s pos).1 ≤ 57 := by
      unfold noDigit at hn
      simp at hn
      omega
    have hlo : (s[pos]'hps).toNat < 128 := by
      rcases Nat.lt_or_ge (s[pos]'hps).toNat 128 with h | h
      · exact h
      · have := decode_hi s pos (by rw [get_bang s pos hps]; exact h)
        omega
    rw [decode_ascii s pos hps hlo] at hr he
    rcases Nat.eq_or_lt_of_le hp with h | h
    · subst h; exact hr
    · exact idx_conv s f (pos + 1) (by omega) he j hj (by omega)
def digB (D : List UInt8) : Bool := D.all (fun b => decide (48 ≤ b.toNat) && decide (b.toNat ≤ 57))
theorem digB_iff {D : List UInt8} : digB D = true ↔ ∀ b ∈ D, 48 ≤ b.toNat ∧ b.toNat ≤ 57 := by simp [digB]
theorem digits_conv {l : List UInt8} (h : digitsOf ⟨l.toArray⟩ = true) : l ≠ [] ∧ ∀ b ∈ l, 48 ≤ b.toNat ∧ b.toNat ≤ 57 := by
  unfold digitsOf at h
  rw [Bool.and_eq_true] at h
  obtain ⟨h1, h2⟩ := h
  refine ⟨fun e => by subst e; simp [Lib.toList_data] at h1, fun b hb => ?_⟩
  have hi : Lib.idxFunc noDigit true (⟨l.toArray⟩ : ByteArray) = -1 := by
    rcases Lib.idxFunc_range noDigit true (⟨l.toArray⟩ : ByteArray) with h | h
    · exact h
    · simp at h2; omega
  obtain ⟨j, hj, e⟩ := List.mem_iff_getElem.1 hb
  have := idx_conv ⟨l.toArray⟩ _ 0 (by omega) hi j (by show j < l.toArray.size; simpa using hj) (Nat.zero_le _)
  have e2 : (⟨l.toArray⟩ : ByteArray)[j]'(by show j < l.toArray.size; simpa using hj) = l[j] := by rfl
  rw [e2, e] at this
  exact this
/-- What Read asks of a text's form, behind its sign. -/
def refOk (X : List UInt8) : Bool := decide (4 ≤ X.length) && (X.getD (X.length - 3) 0 == 46) && !(X.getD 0 0 == 48 && decide (4 < X.length))
def dr (X : List UInt8) : List UInt8 := X.take (X.length - 3) ++ X.drop (X.length - 2)
theorem split_X {X : List UInt8} (h : refOk X = true) : 4 ≤ X.length ∧ X = X.take (X.length - 3) ++ 46 :: X.drop (X.length - 2) ∧ (X.getD 0 0 = 48 → X.length = 4) := by
  unfold refOk at h
  simp only [Bool.and_eq_true, decide_eq_true_eq, beq_iff_eq, Bool.not_eq_true', Bool.and_eq_false_iff, decide_eq_false_iff_not, beq_eq_false_iff_ne] at h
  obtain ⟨⟨h1, h2⟩, h3⟩ := h
  refine ⟨h1, ?_, fun h0 => ?_⟩
  · have hl : X.length - 3 < X.length := by omega
    rw [List.getD_eq_getElem?_getD, List.getElem?_eq_getElem hl, Option.getD_some] at h2
    have e : X.drop (X.length - 3) = 46 :: X.drop (X.length - 2) := by
      rw [List.drop_eq_getElem_cons hl, h2, show X.length - 3 + 1 = X.length - 2 by omega]
    rw [← e, List.take_append_drop]
  · rcases h3 with h3 | h3
    · exact absurd h0 h3
    · omega
theorem index_conv : ∀ (X : List UInt8) (i : Nat), Lib.indexByte X 46 = (i : Int) → i < X.length ∧ X = X.take i ++ 46 :: X.drop (i + 1) := by
  intro X
  induction X with
  | nil => intro i h; rw [Lib.indexByte] at h; omega
  | cons b X ih =>
    intro i h
    rw [Lib.indexByte] at h
    split at h
    · rename_i hb
      have hb : b = 46 := by simpa using hb
      have : i = 0 := by omega
      subst this hb
      simp
    · split at h
      · omega
      · obtain ⟨i', rfl⟩ : ∃ i', i = i' + 1 := by
          have hnn : -1 ≤ Lib.indexByte X 46 := by rw [← Lib.index_one]; exact Lib.index_ge _ _
          rename_i h1 h2
          have : ¬ Lib.indexByte X 46 = -1 := by simpa using h2
          exact ⟨i - 1, by omega⟩
        obtain ⟨h1, h2⟩ := ih i' (by omega)
        refine ⟨by simp; omega, ?_⟩
        simp only [List.take_succ_cons, List.cons_append, List.drop_succ_cons]
        rw [← h2]
theorem cut_conv {X a b : List UInt8} (h : Lib.cut X [46] = (a, b, true)) : X = a ++ 46 :: b := by
  unfold Lib.cut at h
  split at h
  · rename_i hge
    obtain ⟨i, hi⟩ : ∃ i : Nat, Lib.index X [46] = i := ⟨(Lib.index X [46]).toNat, by omega⟩
    rw [hi] at h
    simp only [Prod.mk.injEq, Int.toNat_natCast, List.length_singleton, and_true] at h
    obtain ⟨rfl, rfl⟩ := h
    rw [Lib.index_one] at hi
    exact (index_conv X i hi).2
  · simp at h
/-- isText, in words. -/
theorem isT_iff {T HB RB : ByteArray} {neg pt : Bool} {X : List UInt8} (hX : T.toList = X) (hc : Lib.cut X [46] = (HB.toList, RB.toList, pt)) :
    isT T HB RB neg pt = (refOk X && digB (dr X) && !(neg && X == [48, 46, 48, 48])) := by
  obtain ⟨⟨hl⟩⟩ := HB
  obtain ⟨⟨rl⟩⟩ := RB
  simp only [Lib.toList_data] at hc
  by_cases hf : refOk X = true ∧ digB (dr X) = true
  · obtain ⟨h1, h2⟩ := hf
    obtain ⟨h3, h4, h5⟩ := split_X h1
    have hd := digB_iff.1 h2
    have hH : ∀ b ∈ X.take (X.length - 3), b ≠ 46 := fun b hb e => by
      have := hd b (List.mem_append_left _ hb)
      rw [e] at this
      simp at this
    have hcut := cut_dot (X.drop (X.length - 2)) _ hH
    rw [← h4, hc] at hcut
    simp only [Prod.mk.injEq] at hcut
    obtain ⟨rfl, rfl, rfl⟩ := hcut
    have hdH := digits_all (l := X.take (X.length - 3)) (fun e => by
      have := congrArg List.length e
      rw [List.length_take] at this
      simp at this
      omega) (fun b hb => hd b (List.mem_append_left _ hb))
    have hdR := digits_all (l := X.drop (X.length - 2)) (fun e => by
      have := congrArg List.length e
      rw [List.length_drop] at this
      simp at this
      omega) (fun b hb => hd b (List.mem_append_right _ hb))
    unfold isT
    have hs : (⟨(X.drop (X.length - 2)).toArray⟩ : ByteArray).size = 2 := by
      show (X.drop (X.length - 2)).toArray.size = 2
      simp
      omega
    have hs2 : (⟨(X.take (X.length - 3)).toArray⟩ : ByteArray).size = X.length - 3 := by
      show (X.take (X.length - 3)).toArray.size = _
      simp
    have h0 : ¬ ((⟨(X.take (X.length - 3)).toArray⟩ : ByteArray)[0]? = some 48 ∧ 1 < (⟨(X.take (X.length - 3)).toArray⟩ : ByteArray).size) := by
      rw [hs2]
      rintro ⟨e, hlt⟩
      have e2 : (⟨(X.take (X.length - 3)).toArray⟩ : ByteArray)[0]? = (X.take (X.length - 3))[0]? := by
        rw [getElem?_pos _ 0 (by rw [hs2]; omega), List.getElem?_eq_getElem (by rw [List.length_take]; omega)]
        rfl
      rw [e2, List.getElem?_take_of_lt (by omega)] at e
      have := h5 (by rw [List.getD_eq_getElem?_getD, e]; rfl)
      omega
    rw [if_neg (by decide), if_neg (by rw [hs]; simp), if_neg (by rw [hdH]; decide), if_neg (by rw [hdR]; decide), if_neg h0, h1, h2, hX]
    cases neg <;> simp
  · have hr : (refOk X && digB (dr X)) = false := by
      rw [Bool.and_eq_false_iff]
      by_cases h : refOk X = true
      · exact .inr (by simpa using fun h2 => hf ⟨h, h2⟩)
      · exact .inl (by simpa using h)
    rw [hr, Bool.false_and]
    unfold isT
    cases pt
    · rfl
    · have hx := cut_conv hc
      rw [if_neg (by decide)]
      split
      · rfl
      · rename_i hs
        have hs : rl.length = 2 := by
          have : (⟨rl.toArray⟩ : ByteArray).size = 2 := by simpa using hs
          have h2 : (⟨rl.toArray⟩ : ByteArray).size = rl.length := by show rl.toArray.size = _; simp
          omega
        split
        · rfl
        · rename_i hd1
          obtain ⟨g1, g2⟩ := digits_conv (l := hl) (by simpa using hd1)
          split
          · rfl
          · rename_i hd2
            obtain ⟨g3, g4⟩ := digits_conv (l := rl) (by simpa using hd2)
            split
            · rfl
            · rename_i h0
              exfalso
              apply hf
              have hlen : X.length = hl.length + 3 := by rw [hx]; simp; omega
              have hl1 : 1 ≤ hl.length := by
                cases hl with
                | nil => exact absurd rfl g1
                | cons a t => simp
              have ht : X.take (X.length - 3) = hl := by rw [hlen, Nat.add_sub_cancel, hx]; simp
              have hdp : X.drop (X.length - 2) = rl := by
                rw [hlen, show hl.length + 3 - 2 = hl.length + 1 by omega, hx, List.drop_append, List.drop_eq_nil_of_le (by omega), List.nil_append, show hl.length + 1 - hl.length = 1 by omega]
                rfl
              refine ⟨?_, ?_⟩
              · unfold refOk
                simp only [Bool.and_eq_true, decide_eq_true_eq, beq_iff_eq, Bool.not_eq_true', Bool.and_eq_false_iff, decide_eq_false_iff_not, beq_eq_false_iff_ne]
                refine ⟨⟨by omega, ?_⟩, ?_⟩
                · rw [hlen, Nat.add_sub_cancel, hx, List.getD_eq_getElem?_getD, List.getElem?_append_right (Nat.le_refl _)]
                  simp
                · by_cases hh : X.getD 0 0 = 48
                  · right
                    intro h4
                    apply h0
                    have hsz : (⟨hl.toArray⟩ : ByteArray).size = hl.length := by show hl.toArray.size = _; simp
                    refine ⟨?_, by rw [hsz]; omega⟩
                    have e2 : (⟨hl.toArray⟩ : ByteArray)[0]? = hl[0]? := by
                      rw [getElem?_pos _ 0 (by rw [hsz]; omega), List.getElem?_eq_getElem (by omega)]
                      rfl
                    rw [e2]
                    rw [hx, List.getD_eq_getElem?_getD, List.getElem?_append_left (by omega), List.getElem?_eq_getElem (by omega)] at hh
                    rw [List.getElem?_eq_getElem (by omega)]
                    simpa using hh
                  · exact .inl hh
              · unfold dr
                rw [ht, hdp, digB_iff]
                intro b hb
                rcases List.mem_append.1 hb with hb | hb
                · exact g2 b hb
                · exact g4 b hb
theorem valA_snoc (l : List UInt8) (b : UInt8) : valA 0 (l ++ [b]) = 10 * valA 0 l + (b.toNat - 48) := by unfold valA; rw [List.foldl_append]; rfl
theorem snocU {m : List UInt8 → Prop} (h0 : m []) (h1 : ∀ l a, m l → m (l ++ [a])) (l : List UInt8) : m l := by
  have h : ∀ r : List UInt8, m r.reverse := by
    intro r
    induction r with
    | nil => exact h0
    | cons a r ih => rw [List.reverse_cons]; exact h1 _ _ ih
  have := h l.reverse
  rwa [List.reverse_reverse] at this
theorem dig_back (b : UInt8) (h : 48 ≤ b.toNat ∧ b.toNat ≤ 57) : UInt8.ofNat (48 + (b.toNat - 48)) = b := by
  rw [show 48 + (b.toNat - 48) = b.toNat by omega]
  exact UInt8.ofNat_toNat
theorem dec_val (l : List UInt8) : (∀ b ∈ l, 48 ≤ b.toNat ∧ b.toNat ≤ 57) → l ≠ [] → (l.getD 0 0 = 48 → l.length = 1) → Lib.decDigits (valA 0 l) = l ∧ (l.getD 0 0 ≠ 48 → 1 ≤ valA 0 l) := by
  refine snocU (m := fun l => (∀ b ∈ l, 48 ≤ b.toNat ∧ b.toNat ≤ 57) → l ≠ [] → (l.getD 0 0 = 48 → l.length = 1) → Lib.decDigits (valA 0 l) = l ∧ (l.getD 0 0 ≠ 48 → 1 ≤ valA 0 l)) (fun _ h _ => absurd rfl h) (fun l b ih hd _ hz => ?_) l
  have hb := hd b (by simp)
  rw [valA_snoc]
  by_cases hl : l = []
  · subst hl
    have e : 10 * valA 0 [] + (b.toNat - 48) = b.toNat - 48 := by simp [valA]
    rw [e]
    refine ⟨?_, fun h => ?_⟩
    · rw [Lib.decDigits, dif_pos (by omega), dig_back b hb]; rfl
    · have hne : b ≠ 48 := by simpa using h
      have : b.toNat ≠ 48 := fun e => hne (by rw [← UInt8.toNat_inj]; exact e)
      omega
  · have hl1 : 0 < l.length := by
      cases l with
      | nil => exact absurd rfl hl
      | cons a t => simp
    have hg : (l ++ [b]).getD 0 0 = l.getD 0 0 := by
      rw [List.getD_eq_getElem?_getD, List.getElem?_append_left hl1, ← List.getD_eq_getElem?_getD]
    rw [hg] at hz ⊢
    have hz2 : l.getD 0 0 ≠ 48 := fun e => by
      have := hz e
      rw [List.length_append, List.length_singleton] at this
      omega
    obtain ⟨i1, i2⟩ := ih (fun c hc => hd c (List.mem_append_left _ hc)) hl (fun e => absurd e hz2)
    have hv := i2 hz2
    refine ⟨?_, fun _ => by omega⟩
    rw [Lib.decDigits, dif_neg (by omega), show (10 * valA 0 l + (b.toNat - 48)) / 10 = valA 0 l by omega, show (10 * valA 0 l + (b.toNat - 48)) % 10 = b.toNat - 48 by omega, i1, dig_back b hb]
/-- A text of that form is its number's own. -/
theorem val_text {X : List UInt8} (h1 : refOk X = true) (h2 : digB (dr X) = true) : X = Lib.decDigits (valA 0 (dr X) / 100) ++ 46 :: two (valA 0 (dr X) % 100) := by
  obtain ⟨h3, h4, h5⟩ := split_X h1
  have hd := digB_iff.1 h2
  obtain ⟨r1, r2, hR⟩ : ∃ r1 r2, X.drop (X.length - 2) = [r1, r2] := by
    have hl : (X.drop (X.length - 2)).length = 2 := by rw [List.length_drop]; omega
    match X.drop (X.length - 2), hl with
    | [a, b], _ => exact ⟨a, b, rfl⟩
  unfold dr at hd ⊢
  have g1 := hd r1 (by rw [hR]; simp)
  have g2 := hd r2 (by rw [hR]; simp)
  have hv : valA 0 (X.take (X.length - 3) ++ X.drop (X.length - 2)) = 100 * valA 0 (X.take (X.length - 3)) + (10 * (r1.toNat - 48) + (r2.toNat - 48)) := by
    rw [hR, show X.take (X.length - 3) ++ [r1, r2] = (X.take (X.length - 3) ++ [r1]) ++ [r2] by simp, valA_snoc, valA_snoc]
    omega
  obtain ⟨d1, d2⟩ := dec_val (X.take (X.length - 3)) (fun b hb => hd b (List.mem_append_left _ hb)) (fun e => by
      have := congrArg List.length e
      rw [List.length_take] at this
      simp at this
      omega) (fun e => by
      rw [List.getD_eq_getElem?_getD, List.getElem?_take_of_lt (by omega), ← List.getD_eq_getElem?_getD] at e
      rw [List.length_take, h5 e]
      rfl)
  rw [hv, show (100 * valA 0 (X.take (X.length - 3)) + (10 * (r1.toNat - 48) + (r2.toNat - 48))) / 100 = valA 0 (X.take (X.length - 3)) by omega,
    show (100 * valA 0 (X.take (X.length - 3)) + (10 * (r1.toNat - 48) + (r2.toNat - 48))) % 100 = 10 * (r1.toNat - 48) + (r2.toNat - 48) by omega, d1]
  unfold two
  rw [show (10 * (r1.toNat - 48) + (r2.toNat - 48)) / 10 = r1.toNat - 48 by omega, show (10 * (r1.toNat - 48) + (r2.toNat - 48)) % 10 = r2.toNat - 48 by omega, dig_back r1 g1, dig_back r2 g2, ← hR]
  exact h4
theorem zero_text {X : List UInt8} (h1 : refOk X = true) (h2 : digB (dr X) = true) : valA 0 (dr X) = 0 ↔ X = [48, 46, 48, 48] := by
  constructor
  · intro h
    have := val_text h1 h2
    rw [h] at this
    rw [this]
    decide +kernel
  · intro h
    subst h
    decide
theorem parse_all : ∀ (l : List UInt8) (acc : Nat), (∀ b ∈ l, 48 ≤ b.toNat ∧ b.toNat ≤ 57) → acc ≤ 18446744073709551615 → Lib.parseUintM (2 ^ 64 - 1) acc l = if valA acc l ≤ 18446744073709551615 then .ok (valA acc l) else .range
  | [], acc, _, h => by rw [Lib.parseUintM, if_pos (by simpa [valA] using h)]; rfl
  | c :: l, acc, hd, ha => by
    have hc := hd c List.mem_cons_self
    have hv2 : valA acc (c :: l) = valA (10 * acc + (c.toNat - 48)) l := rfl
    have hg := valA_ge l (10 * acc + (c.toNat - 48))
    rw [hv2, Lib.parseUintM, if_pos hc]
    have e : acc * 10 + (c.toNat - 48) = 10 * acc + (c.toNat - 48) := by omega
    rw [e]
    split
    · rw [if_neg (by omega)]
    · split
      · rw [if_neg (by omega)]
      · exact parse_all l _ (fun b hb => hd b (List.mem_cons_of_mem _ hb)) (by omega)
/-- What ParseInt makes of a sign and digits. -/
theorem parse_sgn {D : List UInt8} (neg : Bool) (h0 : D ≠ []) (hd : ∀ b ∈ D, 48 ≤ b.toNat ∧ b.toNat ≤ 57) : Lib.parseIntB 64 ((if neg then [45] else []) ++ D) = (if (neg = false ∧ valA 0 D ≤ 9223372036854775807) ∨ (neg = true ∧ valA 0 D ≤ 9223372036854775808) then .ok (if neg then -(valA 0 D : Int) else (valA 0 D : Int)) else .range) := by
  obtain ⟨d, t, rfl⟩ : ∃ d t, D = d :: t := by
    cases D with
    | nil => exact absurd rfl h0
    | cons d t => exact ⟨d, t, rfl⟩
  have hdd := hd d List.mem_cons_self
  have hp := parse_all (d :: t) 0 hd (by omega)
  have hu : Lib.parseUintB 64 (d :: t) = if valA 0 (d :: t) ≤ 18446744073709551615 then .ok (valA 0 (d :: t)) else .range := by
    unfold Lib.parseUintB
    rw [if_neg (by simp)]
    exact hp
  clear hp
  generalize valA 0 (d :: t) = V at hu ⊢
  cases neg
  · simp only [Bool.false_eq_true, if_false, List.nil_append, true_and, false_and, or_false]
    unfold Lib.parseIntB
    simp only []
    rw [if_neg (by omega), hu]
    by_cases h1 : V ≤ 18446744073709551615
    · rw [if_pos h1]
      simp only []
      by_cases h2 : V ≤ 9223372036854775807
      · rw [if_pos h2, if_neg (by simp; omega), if_neg (by omega), if_neg (by omega)]
      · rw [if_neg h2, if_pos (by simp; omega)]
    · rw [if_neg h1, if_neg (by omega)]
  · simp only [if_true, List.cons_append, List.nil_append, false_and, true_and, false_or, Bool.true_eq_false]
    unfold Lib.parseIntB
    simp only []
    rw [if_pos (show UInt8.toNat 45 = 43 ∨ UInt8.toNat 45 = 45 from Or.inr (by decide)), hu]
    by_cases h1 : V ≤ 18446744073709551615
    · rw [if_pos h1]
      simp only []
      rw [if_neg (fun e => e.1 (by decide))]
      by_cases h2 : V ≤ 9223372036854775808
      · rw [if_pos h2, if_neg (by simp; omega), if_pos (show UInt8.toNat 45 = 45 by decide)]
      · rw [if_neg h2, if_pos (by constructor; decide; omega)]
    · rw [if_neg h1, if_neg (by omega)]
/-- The document's reader: the number so far, and whether it is over. -/
def rStep (s : Nat × Bool) (b : UInt8) : Nat × Bool := if s.2 = true ∨ 922337203685477580 < s.1 then (s.1, true) else (10 * s.1 + (b.toNat - 48), false)
def rI (l : List UInt8) : Nat × Bool := l.foldl rStep (0, false)
theorem rI_snoc (l : List UInt8) (b : UInt8) : rI (l ++ [b]) = rStep (rI l) b := by unfold rI; rw [List.foldl_append]; rfl
theorem rI_is (l : List UInt8) : (∀ b ∈ l, 48 ≤ b.toNat ∧ b.toNat ≤ 57) → ((rI l).2 = false → (rI l).1 = valA 0 l ∧ valA 0 l ≤ 9223372036854775809) ∧ ((rI l).2 = true → 9223372036854775810 ≤ valA 0 l) ∧ (rI l).1 ≤ 9223372036854775809 := by
  refine snocU (m := fun l => (∀ b ∈ l, 48 ≤ b.toNat ∧ b.toNat ≤ 57) → ((rI l).2 = false → (rI l).1 = valA 0 l ∧ valA 0 l ≤ 9223372036854775809) ∧ ((rI l).2 = true → 9223372036854775810 ≤ valA 0 l) ∧ (rI l).1 ≤ 9223372036854775809) (fun _ => ⟨fun _ => ⟨rfl, by decide⟩, fun h => (by cases h), by decide⟩) (fun l b ih hd => ?_) l
  obtain ⟨h1, h2, h3⟩ := ih (fun c hc => hd c (List.mem_append_left _ hc))
  have hb := hd b (by simp)
  rw [rI_snoc, valA_snoc]
  unfold rStep
  by_cases ho : (rI l).2 = true
  · have := h2 ho
    rw [if_pos (Or.inl ho)]
    exact ⟨fun h => (by cases h), fun _ => by omega, h3⟩
  · have ho2 : (rI l).2 = false := by simpa using ho
    obtain ⟨g1, g2⟩ := h1 ho2
    by_cases hn : 922337203685477580 < (rI l).1
    · rw [if_pos (Or.inr hn)]
      exact ⟨fun h => (by cases h), fun _ => by omega, h3⟩
    · rw [if_neg (fun h => h.elim ho hn)]
      exact ⟨fun _ => ⟨by simp only []; omega, by omega⟩, fun h => (by cases h), by simp only []; omega⟩
end Go.Proofs.YtjlajnackecfgaaGreatDoor
namespace Go.Proofs.YtjlajnackecfgaaGreatDoor
open Go.RowKit Go.Extern.Stop Go.Stop Go.Extern

theorem rl_typeOfS (v : Value) (W : World) : (ReflectliteType.typeOf #[.iface 217 v]).run Tryz.prog W = .ok (.iface 139 (.agg #[.pointer (some ⟨10, 217, none⟩)])) W := by kernel_rfl
theorem rl_methodComp (h : Value) (w : World) : (Go.method 355 139 (.agg #[h]) "Comparable").run Tryz.prog w = .ok (187, .agg #[h]) w := by kernel_rfl
theorem rl_compS2 (W : World) : ((ReflectliteType.method fun t => do Rtype.noPackHeld "Comparable" t; (fun a => Value.bool a.comparable) <$> typeInfo t) #[.agg #[.pointer (some ⟨10, 217, none⟩)]]).run Tryz.prog W = .ok (.bool true) W := by kernel_rfl
theorem num_unwrap (p : Value) (w : World) : (Go.method 355 189 p "Unwrap").run Tryz.prog w = .ok (199, p) w := by kernel_rfl
theorem num_noIs (p : Value) (w : World) : (Instr.typeAssert (.iface 189 p) 47 213 true).run Tryz.prog w = .ok (.tuple #[.nilIface, .bool false]) w :=
  run_typeAssert_lacksB Tryz.underlying213 (by kernel_rfl) (by kernel_rfl) p _ w
theorem num_isUnwrap (p : Value) (w : World) : (Instr.typeAssert (.iface 189 p) 47 147 true).run Tryz.prog w = .ok (.tuple #[.iface 189 p, .bool true]) w :=
  run_typeAssert_hasB Tryz.underlying147 (by kernel_rfl) p _ w
theorem num_ne (p q : Value) (w : World) : (binOp .eql 47 (.iface 189 p) (.iface 217 q)).run Tryz.prog w = .ok (.bool false) w :=
  run_eql_iface_types _ _ p q Tryz.underlying47 (by decide) w
theorem str_eq (a : Addr) (w : World) : (binOp .eql 47 (.iface 217 (.pointer (some a))) (.iface 217 (.pointer (some a)))).run Tryz.prog w = .ok (.bool true) w :=
  run_eql_iface_ptr_same (te := 219) (i := Tryz.t217) (j := Tryz.t219) w a Tryz.underlying47 Tryz.underlying217 (by kernel_rfl) rfl (by kernel_rfl)
set_option maxRecDepth 100000 in
set_option maxHeartbeats 4000000 in
theorem Unwrap_any (N : Nat) (x y v : Value) (w : World) (h : w.heap[N]? = some (.cells #[x, y, v] 208 (0, 0))) :
    Calls Tryz.prog 199 #[.pointer (some ⟨N, 0, none⟩)] w fun e w' => e = .returned v ∧ ∃ n, w' = w.drewN n := by
  have c2 : w.cell? ⟨N, 2, none⟩ = some v := by simp [World.cell?, h]
  go_enter Tryz.func199, Tryz.ntmps199
  go_wp2
  go_ret
  exact ⟨rfl, 0, rfl⟩
set_option maxRecDepth 100000 in
set_option maxHeartbeats 4000000 in
theorem is_range (N : Nat) (x y : Value) (a : Addr) (w : World) (h : w.heap[N]? = some (.cells #[x, y, .iface 217 (.pointer (some a))] 208 (0, 0))) :
    Calls Tryz.prog 140 #[.iface 189 (.pointer (some ⟨N, 0, none⟩)), .iface 217 (.pointer (some a)), .bool true] w fun e w' => e = .returned (.bool true) ∧ ∃ n, w' = w.drewN n := by
  have n1 := num_ne
  have n2 := str_eq a
  have n3 := num_noIs
  have n4 := num_isUnwrap
  have n5 := num_unwrap
  have HU := Lib.hid (fun W hW => Unwrap_any N x y (.iface 217 (.pointer (some a))) W hW)
  have HH := Lib.hid h
  clear h
  go_enter Tryz.func140, Tryz.ntmps140
  go_wp2
  refine wp_loop_rounds 2 ?_
  rw [rounds_succ]
  go_wp2_with fail
  refine (HU.out _ HH.out).mono ?_
  rintro e w' ⟨rfl, n, rfl⟩
  go_wp2_with fail
  rw [rounds_succ]
  go_wp2_with fail
  go_ret
  exact ⟨rfl, n, rfl⟩
set_option maxRecDepth 100000 in
set_option maxHeartbeats 4000000 in
theorem Is_range (N : Nat) (x y : Value) (a : Addr) (w : World) (h : w.heap[N]? = some (.cells #[x, y, .iface 217 (.pointer (some a))] 208 (0, 0))) :
    Calls Tryz.prog 112 #[.iface 189 (.pointer (some ⟨N, 0, none⟩)), .iface 217 (.pointer (some a))] w fun e w' => e = .returned (.bool true) ∧ ∃ n, w' = w.drewN n := by
  have h10 := @run_callFunc_extern Tryz.prog 86 _ ReflectliteType.typeOf Tryz.func86 (by kernel_rfl) (by kernel_rfl) (by kernel_rfl) (by kernel_rfl)
  have h11 := @run_callFunc_extern Tryz.prog 187 _ (ReflectliteType.method fun t => do Rtype.noPackHeld "Comparable" t; pure (.bool (← typeInfo t).comparable)) Tryz.func187 (by kernel_rfl) (by kernel_rfl) (by kernel_rfl) (by kernel_rfl)
  have n1 := rl_typeOfS
  have n2 := rl_methodComp
  have n3 := rl_compS2
  have HI := Lib.hid (fun W hW => is_range N x y a W hW)
  have HH := Lib.hid h
  clear h
  go_enter Tryz.func112, Tryz.ntmps112
  go_wp2_with fail
  refine (HI.out _ HH.out).mono ?_
  rintro e w' ⟨rfl, n, rfl⟩
  go_wp2_with fail
  go_ret
  exact ⟨rfl, n, rfl⟩
end Go.Proofs.YtjlajnackecfgaaGreatDoor
namespace Go.Proofs.YtjlajnackecfgaaGreatDoor
open Go.RowKit Go.Lib

def ngS (S : ByteArray) : Bool := Lib.hasPrefix S.data.toList [45]
def rsS (S : ByteArray) : List UInt8 := Lib.trimPrefix S.data.toList [45]
def fmS (S : ByteArray) : Bool := refOk (rsS S) && digB (dr (rsS S))
def okS (S : ByteArray) : Bool := fmS S && !(ngS S && rsS S == [48, 46, 48, 48])
def valS (S : ByteArray) : Nat := valA 0 (dr (rsS S))
theorem split_S (S : ByteArray) : S.data.toList = (if ngS S then [45] else []) ++ rsS S := by
  unfold ngS rsS Lib.trimPrefix
  cases h : Lib.hasPrefix S.data.toList [45]
  · simp
  · simp only [if_true]
    unfold Lib.hasPrefix at h
    obtain ⟨t, ht⟩ := List.isPrefixOf_iff_prefix.1 h
    rw [← ht]
    simp
theorem rs_len (S : ByteArray) : (rsS S).length ≤ S.size := by
  rw [Lib.size_eq, split_S S, List.length_append]
  omega
theorem isText_all (S : ByteArray) (hS : S.size ≤ 120) (w : World) (m : Int) (hm : w.cell? ⟨3, 0, none⟩ = some (.int .i64 m)) :
    Calls Tryz.prog 109 #[.string S] w fun e w' => e = .returned (.bool (okS S)) ∧ Below w.heap.size w w' := by
  have hl := rs_len S
  have hT : (⟨(rsS S).toArray⟩ : ByteArray).data.toList = rsS S := rfl
  have hc := Tryz.strings_Cut ⟨(rsS S).toArray⟩ ⟨#[46]⟩ m w (by
    have : (⟨(rsS S).toArray⟩ : ByteArray).size = (rsS S).length := by simp [ByteArray.size]
    omega) hm
  rw [hT, show (⟨#[46]⟩ : ByteArray).data.toList = [46] from rfl] at hc
  obtain ⟨⟨h1, r1, p1⟩, hcut⟩ : ∃ c, Lib.cut (rsS S) [46] = c := ⟨_, rfl⟩
  rw [hcut] at hc
  have hi := isT_iff (T := ⟨(rsS S).toArray⟩) (HB := ⟨h1.toArray⟩) (RB := ⟨r1.toArray⟩) (neg := ngS S) (pt := p1) (X := rsS S) (by rw [Lib.toList_data]) (by rw [hcut]; simp [Lib.toList_data])
  have h := isText_gen S ⟨(rsS S).toArray⟩ ⟨h1.toArray⟩ ⟨r1.toArray⟩ (ngS S) p1 w (fun W => Tryz.strings_CutPrefix S ⟨#[45]⟩ W) hc
  rw [hi] at h
  exact h
theorem nodot_sg (S : ByteArray) (h : fmS S = true) : ∀ b ∈ (if ngS S then [45] else []) ++ (rsS S).take ((rsS S).length - 3), b ≠ (46 : UInt8) := fun b hb => by
  unfold fmS at h
  rw [Bool.and_eq_true] at h
  rcases List.mem_append.1 hb with hb | hb
  · split at hb
    · rw [List.mem_singleton.1 hb]; decide
    · cases hb
  · exact no_dot (digB_iff.1 h.2) b (List.mem_append_left _ hb)
set_option maxHeartbeats 4000000 in
set_option maxRecDepth 20000 in
theorem CRead_no (S : ByteArray) (hS : S.size ≤ 120) (hk : okS S = false) (w : World) (m : Int) (hm : w.cell? ⟨3, 0, none⟩ = some (.int .i64 m)) :
    Calls Tryz.prog 92 #[.string S] w fun e w' => e = .returned (.tuple #[.int .i64 0, .iface 54 (.int .i64 15)]) ∧ Below w.heap.size w w' := by
  have cT := isText_all S hS w m hm
  rw [hk] at cT
  clear hk
  go_enter Tryz.func92, Tryz.ntmps92
  go_wp2_with fail
  refine cT.mono ?_
  rintro e w1 ⟨rfl, hb1⟩
  clear cT
  go_wp2_with fail
  go_returns
  exact ⟨rfl, hb1⟩
/-- What ParseInt gets. -/
theorem over_parse (S : ByteArray) (h : fmS S = true) (hv : ¬ ((ngS S = false ∧ valS S ≤ 9223372036854775807) ∨ (ngS S = true ∧ valS S ≤ 9223372036854775808))) :
    Lib.parseIntB 64 ((if ngS S then [45] else []) ++ dr (rsS S)) = .range := by
  unfold fmS at h
  rw [Bool.and_eq_true] at h
  obtain ⟨h1, h2⟩ := h
  obtain ⟨h3, -, -⟩ := split_X h1
  have hd := digB_iff.1 h2
  rw [parse_sgn (ngS S) (fun e => by
    have := congrArg List.length e
    unfold dr at this
    rw [List.length_append, List.length_take, List.length_drop] at this
    simp at this
    omega) hd]
  exact if_neg hv
set_option maxHeartbeats 4000000 in
set_option maxRecDepth 20000 in
theorem CRead_over (S : ByteArray) (hS : S.size ≤ 120) (hk : okS S = true) (hv : ¬ ((ngS S = false ∧ valS S ≤ 9223372036854775807) ∨ (ngS S = true ∧ valS S ≤ 9223372036854775808))) (w : World) (m : Int) (hm : w.cell? ⟨3, 0, none⟩ = some (.int .i64 m))
    (a : Addr) (hR : w.cell? ⟨1, 0, none⟩ = some (.iface 217 (.pointer (some a)))) :
    Calls Tryz.prog 92 #[.string S] w fun e w' => e = .returned (.tuple #[.int .i64 0, .iface 54 (.int .i64 12)]) ∧ Below w.heap.size w w' := by
  have cT := isText_all S hS w m hm
  rw [hk] at cT
  have hf : fmS S = true := by
    unfold okS at hk
    rw [Bool.and_eq_true] at hk
    exact hk.1
  have hp := over_parse S hf hv
  have hnd := nodot_sg S hf
  have hsp := split_S S
  have hsx : refOk (rsS S) = true := by
    unfold fmS at hf
    rw [Bool.and_eq_true] at hf
    exact hf.1
  obtain ⟨h3, h4, -⟩ := split_X hsx
  obtain ⟨Z, hZ⟩ : ∃ Z : ByteArray, (⟨((if ngS S then [45] else []) ++ dr (rsS S)).toArray⟩ : ByteArray) = Z := ⟨_, rfl⟩
  have hZl : Z.data.toList = (if ngS S then [45] else []) ++ dr (rsS S) := by rw [← hZ]
  have hzs : Z.size ≤ 140 := by
    have h1 := rs_len S
    rw [Lib.size_eq, hZl, List.length_append]
    unfold dr
    rw [List.length_append, List.length_take, List.length_drop]
    split <;> simp <;> omega
  have cR : ∀ W, W.cell? ⟨3, 0, none⟩ = some (.int .i64 m) → Calls Tryz.prog 111 #[.string S, .string ⟨#[46]⟩, .string ⟨#[]⟩, .int .i64 1] W fun e w' => e = .returned (.string Z) ∧ Below W.heap.size W w' := fun W hm => by
    have h := Tryz.strings_Replace S ⟨#[46]⟩ ⟨#[]⟩ 1 m W (by omega) hm (show 1 ≤ 1 by omega) (by
      rw [show (⟨#[]⟩ : ByteArray).size = 0 from rfl, Nat.mul_zero]
      omega)
    have hr : Lib.replace S.data.toList [46] [] 1 = (if ngS S then [45] else []) ++ dr (rsS S) := by
      rw [hsp, h4, ← List.append_assoc, ← h4, replace_dot _ _ hnd, List.append_assoc]
      rfl
    rw [show (⟨#[46]⟩ : ByteArray).data.toList = [46] from rfl, show (⟨#[]⟩ : ByteArray).data.toList = [] from rfl, hr, hZ] at h
    exact h
  have cP := fun W hv => Tryz.strconv_ParseInt_10_at64_range Z (by omega) (by rw [hZl]; exact hp) (.iface 217 (.pointer (some a))) W hv (.inr ⟨_, _, rfl⟩)
  have cI := fun N x y W h => Is_range N x y a W h
  clear hk hp hf hnd hsp hsx h3 h4 hZ hZl hzs hv hS
  go_enter Tryz.func92, Tryz.ntmps92
  go_wp2_with fail
  refine cT.mono ?_
  rintro e w1 ⟨rfl, hb1⟩
  clear cT
  go_wp2_with fail
  have hm1 := (hb1.cell (p := ⟨3, 0, none⟩) (block_lt_of_cell hm)).trans hm
  refine (cR w1 hm1).mono ?_
  rintro e w2 ⟨rfl, hb2⟩
  clear cR hm1
  have HB2 := Lib.hid (hb1.trans (hb2.mono hb1.size))
  clear hb1 hb2
  go_wp2_with fail
  have hR2 := (HB2.out.cell (p := ⟨1, 0, none⟩) (block_lt_of_cell hR)).trans hR
  refine (cP w2 hR2).mono ?_
  rintro e w3 ⟨N, rfl, -, hN, hb3⟩
  clear cP hR2
  have HB3 := Lib.hid (HB2.out.trans (hb3.mono HB2.out.size))
  have hR3 := (HB3.out.cell (p := ⟨1, 0, none⟩) (block_lt_of_cell hR)).trans hR
  have HN := Lib.hid hN
  clear hb3 hN
  obtain ⟨q, hq⟩ : ∃ q, Lib.intSat 64 Z.data.toList = q := ⟨_, rfl⟩
  rw [hq]
  clear hq
  go_wp2_with fail
  refine (cI N _ _ w3 HN.out).mono ?_
  rintro e w4 ⟨rfl, n, rfl⟩
  go_wp2_with fail
  go_returns
  exact ⟨rfl, below_drewN HB3.out n⟩
end Go.Proofs.YtjlajnackecfgaaGreatDoor
