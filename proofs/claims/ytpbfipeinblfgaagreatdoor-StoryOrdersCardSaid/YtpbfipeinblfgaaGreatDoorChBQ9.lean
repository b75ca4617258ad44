/-
chart.added: the sums, account by account. Conditions: the rows are there.
-/
import Derived.Test.YtpbfipeinblfgaaGreatDoorChAQ9
import Derived.Maps.OwnSet
import Derived.Maps.RangeWalk
namespace Go.Proofs.YtpbfipeinblfgaaGreatDoor
open Go.ChangeShapes Go.WideShapes Go.ChangeAt Go.RowKit Go.Maps

theorem lawK : Keyed Tryz.prog 5 := int_keyed Tryz.underlying5
theorem zeroC (w : World) : (zeroValue 22).run Tryz.prog w = .ok (.int .i64 0) w := by kernel_rfl
theorem wf8_of {a : Nat} (h : a < 256) : (Lit.int .u8 (a : Int)).wf = true := by
  simp [Lit.wf, IntKind.min, IntKind.max, IntKind.signed, IntKind.bits]
  omega
theorem wf64_of {a : Int} (h : -9223372036854775808 ≤ a ∧ a ≤ 9223372036854775807) : (Lit.int .i64 a).wf = true := by
  simp [Lit.wf, IntKind.min, IntKind.max, IntKind.signed, IntKind.bits]
  omega
/-- The map is the sums of these legs. -/
def Is13 (D : DataW Unit) (L : List (Nat × Int)) : Prop :=
  IsMap D ∧ (∀ a : Nat, Maps.has D (.int .u8 (a : Int)) = hasA L a) ∧ ∀ a : Nat, D.atKey (.int .u8 (a : Int)) (.lit (.int .i64 0)) = .lit (.int .i64 (sumA L a))
theorem key_ne {a b : Nat} (h : a ≠ b) : (Lit.int .u8 (b : Int)) ≠ .int .u8 (a : Int) := fun e => by
  injection e with _ e
  exact h (by omega)
theorem Is13.start : Is13 (.map []) [] := ⟨isMap_empty, fun _ => rfl, fun _ => rfl⟩
theorem Is13.step {D : DataW Unit} {L : List (Nat × Int)} {g : Nat × Int} (h : Is13 D L) (hok : okL L) (hf : fitB (sumA L g.1 + g.2) = true) :
    Is13 (D.put (.int .u8 (g.1 : Int)) (.lit (.int .i64 (sumA L g.1 + g.2)))) (L ++ [g]) := by
  obtain ⟨h1, h2, h3⟩ := h
  refine ⟨h1.put _ _, fun a => ?_, fun a => ?_⟩
  · rw [hasA_snoc]
    by_cases e : g.1 = a
    · subst e
      rw [has_put_same h1 (show WideAt.IsKeyLit (.int .u8 (g.1 : Int)) from trivial)]
      simp
    · rw [has_put_other (key_ne e), h2]
      simp [e]
  · rw [sum_snoc hok hf]
    by_cases e : g.1 = a
    · subst e
      rw [atKey_put_same h1 (show WideAt.IsKeyLit (.int .u8 (g.1 : Int)) from trivial), if_pos rfl]
    · rw [atKey_put_other (key_ne e), h3, if_neg e]
def AddedPost (L : List (Nat × Int)) (w : World) (e : Ending) (w' : World) : Prop :=
  (okL L → ∃ D, e = .returned (.tuple #[.map (some w.heap.size), .nilIface]) ∧ w'.ownsMap Tryz.prog 5 (plainElem Tryz.prog 22) w.heap.size L.length D ∧ Is13 D L) ∧ (¬ okL L → e = .returned (.tuple #[.map none, eno 12])) ∧ Below w.heap.size w w'
set_option maxRecDepth 100000 in
set_option maxHeartbeats 4000000 in
theorem Added_any (A : Option Addr) (n c B : Nat) (L : List (Nat × Int)) (w : World) (hR : Rs legT w B A L) (hn : L.length = n) (hm : n ≤ 140737488355328) (hB : B ≤ w.heap.size) (hI : ∀ u ∈ L, LegIn u) :
    Calls Tryz.prog 150 #[.slice A n c] w (AddedPost L w) := by
  subst hn
  have HR := Lib.hid hR
  have HI := Lib.hid hI
  clear hR hI
  have hmm := @run_makeMap Tryz.prog
  go_enter Tryz.func150, Tryz.ntmps150
  go_wp2_with fail
  clear hmm
  go_loopw [7, 8, 12] (fun _ _ i wr => ∃ (k : Nat) (D : DataW Unit), k ≤ L.length ∧ i = .int .i64 k ∧ Hid (okL (L.take k)) ∧ Hid (Is13 D (L.take k)) ∧ Hid (wr.ownsMap Tryz.prog 5 (plainElem Tryz.prog 22) w.heap.size k D) ∧ Hid (Below w.heap.size w wr)) (fun _ _ i _ => L.length - (intOf i).toNat)
  case atStart => exact ⟨0, .map [], Nat.zero_le _, rfl, Lib.hid (fun a h => by cases h), Lib.hid Is13.start, Lib.hid (World.ownsMap_made _ _ _ _), Lib.hid (b_alloc _ _)⟩
  case round =>
    obtain ⟨k, D, hk, rfl, HOK, HIS, HO, HBL⟩ := hrel
    by_cases hlt : k < L.length
    · obtain ⟨b1, o1, rfl, hb1, c0, c1⟩ := HR.out.leg hlt
      have d0 := (HBL.out.cell (p := ⟨b1, o1 + k * 2, none⟩) (by exact Nat.lt_of_lt_of_le hb1 hB)).trans c0
      have d1 := (HBL.out.cell (p := ⟨b1, o1 + k * 2 + 1, none⟩) (by exact Nat.lt_of_lt_of_le hb1 hB)).trans c1
      obtain ⟨x0, y0, y1⟩ := HI.out _ (List.getElem_mem hlt)
      obtain ⟨x, hx⟩ : ∃ x, (L[k]).1 = x := ⟨_, rfl⟩
      obtain ⟨y, hy⟩ : ∃ y, (L[k]).2 = y := ⟨_, rfl⟩
      have hg : L[k] = (x, y) := Prod.ext hx hy
      rw [hx] at d0 x0
      rw [hy] at d1 y0 y1
      have hs := sumA_fit (L.take k) x
      have hat0 := HIS.out.2.2 x
      have hT : L.take (k + 1) = L.take k ++ [(x, y)] := by rw [List.take_succ_eq_append_getElem hlt, hg]
      obtain ⟨s, hss⟩ : ∃ s, sumA (L.take k) x = s := ⟨_, rfl⟩
      rw [hss] at hs hat0
      have HSS := Lib.hid hss
      have HT := Lib.hid hT
      have HAT := Lib.hid hat0
      have hC := fun W => CoinAdd_any s y hs ⟨y0, y1⟩ W
      have hkey : keyOf Tryz.prog 5 (.int .u8 (x : Int)) = some (.int .u8 (x : Int)) := keyOf_int_mk Tryz.underlying5 (wf8_of x0)
      have HO1 := Lib.hid (HO.out.alloc (.cells #[.int .u8 (x : Int), .int .i64 y] 99))
      have HB1 := Lib.hid (HBL.out.alloc HBL.out.size (.cells #[.int .u8 (x : Int), .int .i64 y] 99))
      clear hx hy c0 c1 hg hss hT hat0 hs
      cases hf : fitB (s + y)
      · have hnf : ¬ Fits (s + y) := fun h => by
          rw [fitB_iff.2 h] at hf
          cases hf
        simp only [if_neg hnf] at hC
        have HN := Lib.hid (show ¬ okL L from fun h => okL_take h (k + 1) x (by
          have := over_snoc (g := (x, y)) HOK.out (by rw [HSS.out]; exact hf)
          rw [HT.out]
          exact this))
        clear hf hnf
        go_wp2_with (at_lookup; refine wpList_lookup_own_int _ rfl _ _ 216 rfl 5 22 .i64 lawK Tryz.underlying216 Tryz.underlying22 (zeroC _) w.heap.size k _ rfl HO1.out _ _ rfl hkey ?_; intro c0 hat hwc)
        obtain rfl : s = c0 := by
          have := HAT.out.symm.trans hat
          injection this with this
          injection this with _ this
        clear hat hwc
        refine (hC _).mono ?_
        rintro e w2 ⟨rfl, rfl⟩
        clear hC
        go_wp2_with fail
        go_ret2
        exact ⟨fun h => absurd h HN.out, fun _ => rfl, HB1.out⟩
      · have hfi := fitB_iff.1 hf
        have hnf : Fits (s + y) := hfi
        simp only [if_pos hnf] at hC
        have HOK2 := Lib.hid (show okL (L.take (k + 1)) by rw [HT.out]; exact okL_snoc (g := (x, y)) HOK.out (by rw [HSS.out]; exact hf))
        have HIS2 := Lib.hid (show Is13 (D.put (.int .u8 (x : Int)) (.lit (.int .i64 (s + y)))) (L.take (k + 1)) by
          have := Is13.step (g := (x, y)) HIS.out HOK.out (by rw [HSS.out]; exact hf)
          rw [HSS.out] at this
          rw [HT.out]
          exact this)
        have hwf := wf64_of hfi
        obtain ⟨z, hz⟩ : ∃ z, s + y = z := ⟨_, rfl⟩
        rw [hz] at hC HIS2 hwf
        clear hf hnf hfi hz
        go_wp2_with (at_lookup; refine wpList_lookup_own_int _ rfl _ _ 216 rfl 5 22 .i64 lawK Tryz.underlying216 Tryz.underlying22 (zeroC _) w.heap.size k _ rfl HO1.out _ _ rfl hkey ?_; intro c0 hat hwc)
        obtain rfl : s = c0 := by
          have := HAT.out.symm.trans hat
          injection this with this
          injection this with _ this
        clear hat hwc
        refine (hC _).mono ?_
        rintro e w2 ⟨rfl, rfl⟩
        clear hC
        go_wp2_with (at_mapUpdate; refine wpList_mapUpdate_own _ rfl _ _ _ 216 rfl 5 22 lawK Tryz.underlying216 _ w.heap.size k _ rfl HO1.out (by unfold maxLen; omega) _ _ _ rfl rfl hkey _ [] (plainElem_int Tryz.underlying22 hwf) ?_; intro w1 hown1 hgrow1)
        have HO3 := Lib.hid hown1
        have HB3 := Lib.hid (HB1.out.grown hgrow1 HB1.out.size (fun j hj => by cases hj; exact Nat.le_refl _))
        clear hown1 hgrow1
        go_wp2_with fail
        go_roundw
        case rel => exact ⟨k + 1, _, by omega, by go_num, HOK2, HIS2, HO3, HB3⟩
        case measure => simp [intOf]; omega
    · obtain rfl : k = L.length := by omega
      rw [List.take_length] at HOK HIS
      go_wp2_with fail
      go_ret2
      exact ⟨fun _ => ⟨D, rfl, HO.out, HIS.out⟩, fun h => absurd HOK.out h, HBL.out⟩
end Go.Proofs.YtpbfipeinblfgaaGreatDoor
