/-
  coin.isText at any text. Conditions: the laid variables' cells.
-/
import Derived.Test.YtjcnglkjjhnpbaaGreatDoorTrmD
namespace Go.Proofs.YtjcnglkjjhnpbaaGreatDoor
open Go.RowKit Go.Lib

/-- What isText tells, of what CutPrefix and Cut make. -/
def isT (T HB RB : ByteArray) (neg pt : Bool) : Bool :=
  if pt = false then false else if RB.size ≠ 2 then false else if digitsOf HB = false then false else if digitsOf RB = false then false
  else if HB[0]? = some 48 ∧ 1 < HB.size then false else (!neg || !(T.toList == [48, 46, 48, 48]))
theorem digits_head {s : ByteArray} (h : digitsOf s = true) : ∃ d, s[0]? = some d := by
  unfold digitsOf at h
  rw [Lib.toList_data] at h
  obtain ⟨⟨l⟩⟩ := s
  cases l with
  | nil => simp at h
  | cons a l => exact ⟨a, rfl⟩
set_option maxHeartbeats 4000000 in
set_option maxRecDepth 20000 in
theorem isText_gen (S T HB RB : ByteArray) (neg pt : Bool) (w : World)
    (cP : ∀ W, Calls Tryz.prog 134 #[.string S, .string ⟨#[45]⟩] W fun e w' => e = .returned (.tuple #[.string T, .bool neg]) ∧ w' = W)
    (cC : Calls Tryz.prog 135 #[.string T, .string ⟨#[46]⟩] w fun e w' => e = .returned (.tuple #[.string HB, .string RB, .bool pt]) ∧ ∃ n, w' = w.drewN n) :
    Calls Tryz.prog 99 #[.string S] w fun e w' => e = .returned (.bool (isT T HB RB neg pt)) ∧ Below w.heap.size w w' := by
  have cD1 := fun W => digits_any W HB
  have cD2 := fun W => digits_any W RB
  cases pt
  · rw [show isT T HB RB neg false = false from rfl]
    clear cD1 cD2
    go_enter Tryz.func99, Tryz.ntmps99
    go_wp2_with fail
    refine (cP _).mono ?_
    rintro e w' ⟨rfl, rfl⟩
    go_wp2_with fail
    refine cC.mono ?_
    rintro e w' ⟨rfl, n, rfl⟩
    clear cP cC
    go_wp2_with fail
    go_ret
    exact ⟨by first | rfl | simp, below_drewN (Below.refl _ _) n⟩
  · by_cases hs : RB.size = 2
    · cases h1 : digitsOf HB
      · have e : isT T HB RB neg true = false := by unfold isT; simp [hs, h1]
        rw [e]
        rw [h1] at cD1
        clear e h1 cD2
        go_enter Tryz.func99, Tryz.ntmps99
        go_wp2_with fail
        refine (cP _).mono ?_
        rintro e w' ⟨rfl, rfl⟩
        go_wp2_with fail
        refine cC.mono ?_
        rintro e w' ⟨rfl, n, rfl⟩
        clear cP cC
        go_wp2_with fail
        refine (cD1 _).mono ?_
        rintro e w1 ⟨rfl, hb1⟩
        clear cD1
        go_wp2_with fail
        go_ret
        exact ⟨by first | rfl | simp, (below_drewN (Below.refl _ _) n).trans hb1⟩
      · cases h2 : digitsOf RB
        · have e : isT T HB RB neg true = false := by unfold isT; simp [hs, h1, h2]
          rw [e]
          rw [h1] at cD1
          rw [h2] at cD2
          clear e h1 h2
          go_enter Tryz.func99, Tryz.ntmps99
          go_wp2_with fail
          refine (cP _).mono ?_
          rintro e w' ⟨rfl, rfl⟩
          go_wp2_with fail
          refine cC.mono ?_
          rintro e w' ⟨rfl, n, rfl⟩
          clear cP cC
          go_wp2_with fail
          refine (cD1 _).mono ?_
          rintro e w1 ⟨rfl, hb1⟩
          clear cD1
          go_wp2_with fail
          refine (cD2 _).mono ?_
          rintro e w2 ⟨rfl, hb2⟩
          clear cD2
          go_wp2_with fail
          go_ret
          exact ⟨by first | rfl | simp, Below.trans ((below_drewN (Below.refl _ _) n).trans hb1) (hb2.mono hb1.size)⟩
        · obtain ⟨d, h0⟩ := digits_head h1
          have hI := fun W => idx_str HB d h0 W
          by_cases h48 : d = 48
          · by_cases hl : 1 < HB.size
            · have e : isT T HB RB neg true = false := by unfold isT; simp [hs, h1, h2, h0, h48, hl]
              rw [e]
              rw [h1] at cD1
              rw [h2] at cD2
              subst h48
              have hl2 : (1 : Int) < (HB.size : Int) := by omega
              clear e h1 h2 h0
              go_enter Tryz.func99, Tryz.ntmps99
              go_wp2_with fail
              refine (cP _).mono ?_
              rintro e w' ⟨rfl, rfl⟩
              go_wp2_with fail
              refine cC.mono ?_
              rintro e w' ⟨rfl, n, rfl⟩
              clear cP cC
              go_wp2_with fail
              refine (cD1 _).mono ?_
              rintro e w1 ⟨rfl, hb1⟩
              clear cD1
              go_wp2_with fail
              refine (cD2 _).mono ?_
              rintro e w2 ⟨rfl, hb2⟩
              clear cD2
              go_wp2_with fail
              go_ret
              exact ⟨by first | rfl | simp, Below.trans ((below_drewN (Below.refl _ _) n).trans hb1) (hb2.mono hb1.size)⟩
            · have e : isT T HB RB neg true = (!neg || !(T.toList == [48, 46, 48, 48])) := by unfold isT; simp [hs, h1, h2, hl]
              rw [e]
              rw [h1] at cD1
              rw [h2] at cD2
              subst h48
              have hl2 : HB.size = 1 := by
                have : 0 < HB.size := by
                  obtain ⟨⟨l⟩⟩ := HB
                  cases l with
                  | nil => exact nomatch (show (Option.none : Option UInt8) = some 48 from h0)
                  | cons a l => simp [ByteArray.size]
                omega
              clear e h1 h2 h0 hl
              cases hn : (T.toList == [48, 46, 48, 48])
              · cases neg
                · go_enter Tryz.func99, Tryz.ntmps99
                  go_wp2_with fail
                  refine (cP _).mono ?_
                  rintro e w' ⟨rfl, rfl⟩
                  go_wp2_with fail
                  refine cC.mono ?_
                  rintro e w' ⟨rfl, n, rfl⟩
                  clear cP cC
                  go_wp2_with fail
                  refine (cD1 _).mono ?_
                  rintro e w1 ⟨rfl, hb1⟩
                  clear cD1
                  go_wp2_with fail
                  refine (cD2 _).mono ?_
                  rintro e w2 ⟨rfl, hb2⟩
                  clear cD2
                  go_wp2_with fail
                  go_ret
                  exact ⟨by first | rfl | simp, Below.trans ((below_drewN (Below.refl _ _) n).trans hb1) (hb2.mono hb1.size)⟩
                · go_enter Tryz.func99, Tryz.ntmps99
                  go_wp2_with fail
                  refine (cP _).mono ?_
                  rintro e w' ⟨rfl, rfl⟩
                  go_wp2_with fail
                  refine cC.mono ?_
                  rintro e w' ⟨rfl, n, rfl⟩
                  clear cP cC
                  go_wp2_with fail
                  refine (cD1 _).mono ?_
                  rintro e w1 ⟨rfl, hb1⟩
                  clear cD1
                  go_wp2_with fail
                  refine (cD2 _).mono ?_
                  rintro e w2 ⟨rfl, hb2⟩
                  clear cD2
                  go_wp2_with fail
                  go_ret
                  exact ⟨by first | rfl | simp, Below.trans ((below_drewN (Below.refl _ _) n).trans hb1) (hb2.mono hb1.size)⟩
              · cases neg
                · go_enter Tryz.func99, Tryz.ntmps99
                  go_wp2_with fail
                  refine (cP _).mono ?_
                  rintro e w' ⟨rfl, rfl⟩
                  go_wp2_with fail
                  refine cC.mono ?_
                  rintro e w' ⟨rfl, n, rfl⟩
                  clear cP cC
                  go_wp2_with fail
                  refine (cD1 _).mono ?_
                  rintro e w1 ⟨rfl, hb1⟩
                  clear cD1
                  go_wp2_with fail
                  refine (cD2 _).mono ?_
                  rintro e w2 ⟨rfl, hb2⟩
                  clear cD2
                  go_wp2_with fail
                  go_ret
                  exact ⟨by first | rfl | simp, Below.trans ((below_drewN (Below.refl _ _) n).trans hb1) (hb2.mono hb1.size)⟩
                · go_enter Tryz.func99, Tryz.ntmps99
                  go_wp2_with fail
                  refine (cP _).mono ?_
                  rintro e w' ⟨rfl, rfl⟩
                  go_wp2_with fail
                  refine cC.mono ?_
                  rintro e w' ⟨rfl, n, rfl⟩
                  clear cP cC
                  go_wp2_with fail
                  refine (cD1 _).mono ?_
                  rintro e w1 ⟨rfl, hb1⟩
                  clear cD1
                  go_wp2_with fail
                  refine (cD2 _).mono ?_
                  rintro e w2 ⟨rfl, hb2⟩
                  clear cD2
                  go_wp2_with fail
                  go_ret
                  exact ⟨by first | rfl | simp, Below.trans ((below_drewN (Below.refl _ _) n).trans hb1) (hb2.mono hb1.size)⟩
          · have e : isT T HB RB neg true = (!neg || !(T.toList == [48, 46, 48, 48])) := by unfold isT; simp [hs, h1, h2, h0, h48]
            rw [e]
            rw [h1] at cD1
            rw [h2] at cD2
            have jd : ((d.toNat : Int) == 48) = false := by
              rw [beq_eq_false_iff_ne]
              intro e
              exact h48 (UInt8.toNat_inj.1 (by simpa using (by omega : d.toNat = 48)))
            clear e h1 h2 h0 h48
            cases hn : (T.toList == [48, 46, 48, 48])
            · cases neg
              · go_enter Tryz.func99, Tryz.ntmps99
                go_wp2_with fail
                refine (cP _).mono ?_
                rintro e w' ⟨rfl, rfl⟩
                go_wp2_with fail
                refine cC.mono ?_
                rintro e w' ⟨rfl, n, rfl⟩
                clear cP cC
                go_wp2_with fail
                refine (cD1 _).mono ?_
                rintro e w1 ⟨rfl, hb1⟩
                clear cD1
                go_wp2_with fail
                refine (cD2 _).mono ?_
                rintro e w2 ⟨rfl, hb2⟩
                clear cD2
                go_wp2_with fail
                go_ret
                exact ⟨by first | rfl | simp, Below.trans ((below_drewN (Below.refl _ _) n).trans hb1) (hb2.mono hb1.size)⟩
              · go_enter Tryz.func99, Tryz.ntmps99
                go_wp2_with fail
                refine (cP _).mono ?_
                rintro e w' ⟨rfl, rfl⟩
                go_wp2_with fail
                refine cC.mono ?_
                rintro e w' ⟨rfl, n, rfl⟩
                clear cP cC
                go_wp2_with fail
                refine (cD1 _).mono ?_
                rintro e w1 ⟨rfl, hb1⟩
                clear cD1
                go_wp2_with fail
                refine (cD2 _).mono ?_
                rintro e w2 ⟨rfl, hb2⟩
                clear cD2
                go_wp2_with fail
                go_ret
                exact ⟨by first | rfl | simp, Below.trans ((below_drewN (Below.refl _ _) n).trans hb1) (hb2.mono hb1.size)⟩
            · cases neg
              · go_enter Tryz.func99, Tryz.ntmps99
                go_wp2_with fail
                refine (cP _).mono ?_
                rintro e w' ⟨rfl, rfl⟩
                go_wp2_with fail
                refine cC.mono ?_
                rintro e w' ⟨rfl, n, rfl⟩
                clear cP cC
                go_wp2_with fail
                refine (cD1 _).mono ?_
                rintro e w1 ⟨rfl, hb1⟩
                clear cD1
                go_wp2_with fail
                refine (cD2 _).mono ?_
                rintro e w2 ⟨rfl, hb2⟩
                clear cD2
                go_wp2_with fail
                go_ret
                exact ⟨by first | rfl | simp, Below.trans ((below_drewN (Below.refl _ _) n).trans hb1) (hb2.mono hb1.size)⟩
              · go_enter Tryz.func99, Tryz.ntmps99
                go_wp2_with fail
                refine (cP _).mono ?_
                rintro e w' ⟨rfl, rfl⟩
                go_wp2_with fail
                refine cC.mono ?_
                rintro e w' ⟨rfl, n, rfl⟩
                clear cP cC
                go_wp2_with fail
                refine (cD1 _).mono ?_
                rintro e w1 ⟨rfl, hb1⟩
                clear cD1
                go_wp2_with fail
                refine (cD2 _).mono ?_
                rintro e w2 ⟨rfl, hb2⟩
                clear cD2
                go_wp2_with fail
                go_ret
                exact ⟨by first | rfl | simp, Below.trans ((below_drewN (Below.refl _ _) n).trans hb1) (hb2.mono hb1.size)⟩
    · have e : isT T HB RB neg true = false := by unfold isT; simp [hs]
      rw [e]
      have hs2 : ((RB.size : Int) == 2) = false := by rw [beq_eq_false_iff_ne]; omega
      have hs3 : ((RB.size : Int) != 2) = true := by simp; omega
      clear e cD1 cD2
      go_enter Tryz.func99, Tryz.ntmps99
      go_wp2_with fail
      refine (cP _).mono ?_
      rintro e w' ⟨rfl, rfl⟩
      go_wp2_with fail
      refine cC.mono ?_
      rintro e w' ⟨rfl, n, rfl⟩
      clear cP cC
      go_wp2_with fail
      go_ret
      exact ⟨by first | rfl | simp, below_drewN (Below.refl _ _) n⟩
end Go.Proofs.YtjcnglkjjhnpbaaGreatDoor
