/-
  DueRolls: the walk. Conditions: as DueOpens'.
-/
import Derived.Test.YtkhjmbemjndcoaaGreatDoorDRolA
namespace Go.Proofs.YtkhjmbemjndcoaaGreatDoor
open Go.RowKit

set_option maxRecDepth 20000 in
theorem RolledErr (A : Option Addr) (m c : Nat) (n k E : Int) (hP : ∀ W, Lens W → Calls Tryz.prog 8 #[.int .i32 n, .int .i64 k] W fun e w' => e = .returned (.tuple #[.int .i32 0, .iface 35 (.int .i64 E)]) ∧ Below W.heap.size W w') (w : World) (hw : Lens w) :
    Calls Tryz.prog 9 #[.slice A m c, .int .i32 n, .int .i64 k] w fun e w' => e = .returned (.tuple #[.int .i32 0, .iface 35 (.int .i64 E)]) ∧ Below w.heap.size w w' := by
  have hC := hP w hw
  clear hP
  go_enter Tryz.func9, Tryz.ntmps9
  go_wp2_with fail
  refine hC.mono ?_
  rintro e w1 ⟨rfl, hb⟩
  have HB := Lib.hid hb
  clear hb hC
  go_wp2_with fail
  go_ret2
  exact ⟨rfl, HB.out⟩
set_option maxRecDepth 20000 in
theorem RolledOk (A : Option Addr) (m c : Nat) (l : List Int) (n k : Int) (h0 : 0 ≤ n) (h1 : n ≤ 3652058) (k0 : 0 ≤ k) (k1 : k ≤ 480) (ht : pT n k < 119988) (w : World) (hw : Lens w)
    (hR : Rv w w.heap.size A (l.map encH)) (hn : l.length = m) (hnc : m ≤ c) (hm : m ≤ 1000) (hl : ∀ v ∈ l, -2147483648 ≤ v ∧ v ≤ 2147483647) :
    Calls Tryz.prog 9 #[.slice A m c, .int .i32 n, .int .i64 k] w (NxPost l (plainD n k) w) := by
  have hC := Plain_ok n k h0 h1 k0 k1 ht w hw
  obtain ⟨p1, p2, -⟩ := plain_in h0 h1 k0 ht
  generalize plainD n k = N at *
  have HR := Lib.hid hR
  have HN := Lib.hid hn
  have HL := Lib.hid hl
  clear hR hn hl ht
  go_enter Tryz.func9, Tryz.ntmps9
  go_wp2_with fail
  refine hC.mono ?_
  rintro e w1 ⟨rfl, hb⟩
  have HB := Lib.hid hb
  have hN := Next9 A m c l N w1 (rv_later HR.out hb) HN.out hnc hm HL.out ⟨p1, p2⟩
  have HNX := Lib.hid hN
  clear hb hC hN
  go_wp2_with fail
  refine HNX.out.mono ?_
  rintro e w3 ⟨hy, hn0, hb3⟩
  have HB3 := Lib.hid (HB.out.trans (hb3.mono HB.out.size))
  clear HNX hb3 HB
  cases hx : nextD l N with
  | some y =>
    have hxy := hy y hx
    clear hy hn0
    subst hxy
    have HX := Lib.hid hx
    clear hx
    go_wp2_with fail
    go_ret2
    refine ⟨fun z h => ?_, fun h => ?_, HB3.out⟩
    · have h2 := HX.out.symm.trans h
      injection h2 with h2
      subst h2
      rfl
    · have h2 := HX.out.symm.trans h
      cases h2
  | none =>
    have hxy := hn0 hx
    clear hy hn0
    subst hxy
    have HX := Lib.hid hx
    clear hx
    go_wp2_with fail
    go_ret2
    refine ⟨fun z h => ?_, fun h => ?_, HB3.out⟩
    · have h2 := HX.out.symm.trans h
      cases h2
    · rfl
set_option maxRecDepth 20000 in
set_option maxHeartbeats 4000000 in
theorem DueRollss_any (A : Option Addr) (n c : Nat) (l : List Int) (d : Int) (hdr : -2147483648 ≤ d ∧ d ≤ 2147483647) (k : Int) (w : World) (hR : Rv w w.heap.size A (l.map encL)) (hn : l.length = n) (hm : n ≤ 140737488355328) (hwf : ∀ u ∈ l, -2147483648 ≤ u ∧ u ≤ 2147483647) (hw : Lens w) (hp : Pows w) (hle : Laid w) :
    Calls Tryz.prog 3 #[.slice A n c, .int .i32 d, .int .i64 k] w fun e w' => e = .returned (.bool true) ∧ Below w.heap.size w w' := by
  have HW := Lib.hid hw
  have HP := Lib.hid hp
  have HR := Lib.hid hR
  have HF := Lib.hid hwf
  have HN := Lib.hid hn
  have HE := Lib.hid hle
  clear hw hp hR hwf hn hle
  go_enter Tryz.func3, Tryz.ntmps3
  go_wp2_with fail
  refine (awake7 _ HW.out HP.out).mono ?_
  rintro e w1 ⟨rfl, hb1⟩
  have HB1 := Lib.hid hb1
  have hR1 := HR.out.below hb1
  clear hb1
  go_wp2_with fail
  refine (Few_any A n c w.heap.size l w1 hR1 HN.out hm HB1.out.size HF.out).mono ?_
  rintro e w2 ⟨A1, A2, c1, c2, rfl, hc1, hc2, hm1, hm2, hr1, hr2, hb2⟩
  have hlen : (l.take 60).length ≤ 60 := by rw [List.length_take]; omega
  have hwf2 : ∀ u ∈ l.take 60, -2147483648 ≤ u ∧ u ≤ 2147483647 := fun u hu => HF.out u (List.mem_of_mem_take hu)
  generalize l.take 60 = x at *
  have HB2 := Lib.hid (HB1.out.trans (hb2.mono HB1.out.size))
  have HR1 := Lib.hid hr1
  have HR2 := Lib.hid hr2
  have HF2 := Lib.hid hwf2
  have HE2 := Lib.hid (HE.out.below HB2.out)
  obtain ⟨m, hmx⟩ : ∃ m, x.length = m := ⟨_, rfl⟩
  rw [hmx] at hc1 hc2 hlen ⊢
  have HMX := Lib.hid hmx
  clear hR1 hr1 hr2 hwf2 hb2 hm1 hm2 HB1 hmx
  have HW2 := Lib.hid (HW.out.below HB2.out)
  by_cases harg : d < 0 ∨ 3652058 < d ∨ k < 0 ∨ 480 < k
  · have HPL : Hid (Calls Tryz.prog 8 #[.int .i32 d, .int .i64 k] w2 fun e w' => e = .returned (.tuple #[.int .i32 0, .iface 35 (.int .i64 1)]) ∧ Below w2.heap.size w2 w') := Lib.hid ((Plain_arg d k harg w2).mono fun e w' h => ⟨h.1, by first | exact h.2 | (rw [h.2]; exact Below.refl _ _) | (rw [← h.2]; exact Below.refl _ _)⟩)
    have HRO := Lib.hid fun W (hW : Lens W) => RolledErr A1 m c1 d k 1 (fun W hW => (Plain_arg d k harg W).mono fun e w' h => ⟨h.1, by first | exact h.2 | (rw [h.2]; exact Below.refl _ _) | (rw [← h.2]; exact Below.refl _ _)⟩) W hW
    have HARG := Lib.hid harg
    clear harg
    go_wp2_with fail
    refine HPL.out.mono ?_
    rintro e w3 ⟨rfl, hb3⟩
    have HB3 := Lib.hid (HB2.out.trans (hb3.mono HB2.out.size))
    clear hb3
    go_wp2_with fail
    refine (HRO.out w3 (HW.out.below HB3.out)).mono ?_
    rintro e w4 ⟨rfl, hb4⟩
    have HB4 := Lib.hid (HB3.out.trans (hb4.mono HB3.out.size))
    clear hb4
    have HC1 := Lib.hid fun W (hW : Laid W) => Code_errno 1 W hW
    have harg := HARG.out
    by_cases c1 : d < 0
    · clear harg
      go_wp2_with fail
      refine (HC1.out _ (HE.out.below HB4.out)).mono ?_
      rintro e w5 ⟨rfl, hb5⟩
      have HB5 := Lib.hid (HB4.out.trans (hb5.mono HB4.out.size))
      clear hb5
      go_wp2_with fail
      refine (HC1.out _ (HE.out.below HB5.out)).mono ?_
      rintro e w6 ⟨rfl, hb6⟩
      have HB6 := Lib.hid (HB5.out.trans (hb6.mono HB5.out.size))
      clear hb6
      go_wp2_with fail
      go_ret
      exact ⟨rfl, HB6.out⟩
    · by_cases c2 : 3652058 < d
      · clear harg
        go_wp2_with fail
        refine (HC1.out _ (HE.out.below HB4.out)).mono ?_
        rintro e w5 ⟨rfl, hb5⟩
        have HB5 := Lib.hid (HB4.out.trans (hb5.mono HB4.out.size))
        clear hb5
        go_wp2_with fail
        refine (HC1.out _ (HE.out.below HB5.out)).mono ?_
        rintro e w6 ⟨rfl, hb6⟩
        have HB6 := Lib.hid (HB5.out.trans (hb6.mono HB5.out.size))
        clear hb6
        go_wp2_with fail
        go_ret
        exact ⟨rfl, HB6.out⟩
      · by_cases c3 : k < 0
        · clear harg
          go_wp2_with fail
          refine (HC1.out _ (HE.out.below HB4.out)).mono ?_
          rintro e w5 ⟨rfl, hb5⟩
          have HB5 := Lib.hid (HB4.out.trans (hb5.mono HB4.out.size))
          clear hb5
          go_wp2_with fail
          refine (HC1.out _ (HE.out.below HB5.out)).mono ?_
          rintro e w6 ⟨rfl, hb6⟩
          have HB6 := Lib.hid (HB5.out.trans (hb6.mono HB5.out.size))
          clear hb6
          go_wp2_with fail
          go_ret
          exact ⟨rfl, HB6.out⟩
        · have c4 : 480 < k := by omega
          clear harg
          go_wp2_with fail
          refine (HC1.out _ (HE.out.below HB4.out)).mono ?_
          rintro e w5 ⟨rfl, hb5⟩
          have HB5 := Lib.hid (HB4.out.trans (hb5.mono HB4.out.size))
          clear hb5
          go_wp2_with fail
          refine (HC1.out _ (HE.out.below HB5.out)).mono ?_
          rintro e w6 ⟨rfl, hb6⟩
          have HB6 := Lib.hid (HB5.out.trans (hb6.mono HB5.out.size))
          clear hb6
          go_wp2_with fail
          go_ret
          exact ⟨rfl, HB6.out⟩
  · have h0 : 0 ≤ d := by omega
    have h1 : d ≤ 3652058 := by omega
    have k0 : 0 ≤ k := by omega
    have k1 : k ≤ 480 := by omega
    clear harg
    by_cases ht : pT d k < 119988
    · have HPL := Lib.hid (Plain_ok d k h0 h1 k0 k1 ht w2 HW2.out)
      have HRO := Lib.hid fun W (hW : Lens W) hr => RolledOk A1 m c1 x d k h0 h1 k0 k1 ht W hW hr HMX.out hc1 (by omega) HF2.out
      have HRP := Lib.hid fun W => RPlain9 d k h0 h1 k0 k1 W
      obtain ⟨p1, p2, -⟩ := plain_in h0 h1 k0 ht
      have HT := Lib.hid ht
      obtain ⟨N, hN⟩ : ∃ N, N = plainD d k := ⟨_, rfl⟩
      have HN2 := Lib.hid hN
      rw [← hN] at HPL HRO p1 p2
      clear ht hN
      go_wp2_with fail
      refine HPL.out.mono ?_
      rintro e w3 ⟨rfl, hb3⟩
      have HB3 := Lib.hid (HB2.out.trans (hb3.mono HB2.out.size))
      have HRA := Lib.hid (rv_later HR1.out hb3)
      have HRB := Lib.hid (rv_later HR2.out hb3)
      clear hb3 HR1 HR2 HPL
      go_wp2_with fail
      refine (HRO.out w3 (HW.out.below HB3.out) HRA.out).mono ?_
      rintro e w4 ⟨hy, hn0, hb4⟩
      have HB4 := Lib.hid (HB3.out.trans (hb4.mono HB3.out.size))
      have HRB4 := Lib.hid (rv_later HRB.out hb4)
      clear hb4 HRB HRA HRO
      cases hx : nextD x N with
      | some y =>
        obtain ⟨y1, y2, -, -⟩ := nextD_in x _ N rfl y hx
        have hxy := hy y hx
        have HNR := Lib.hid fun W (hr : Rv W W.heap.size A2 (x.map encN)) => RNext9 A2 m c2 W.heap.size x N W hr HMX.out (by omega) ⟨p1, p2⟩
        rw [hx] at HNR
        clear hy hn0 hx
        subst hxy
        go_wp2_with fail
        refine (HRP.out _).mono ?_
        rintro e w5 ⟨ha, -, hb5⟩
        have hab := ha HT.out
        rw [← HN2.out] at hab
        subst hab
        have HB5 := Lib.hid (HB4.out.trans (hb5.mono HB4.out.size))
        have HRB5 := Lib.hid (rv_later HRB4.out hb5)
        clear ha hb5
        go_wp2_with fail
        refine (HNR.out w5 HRB5.out).mono ?_
        rintro e w6 ⟨rfl, rfl⟩
        rw [Option.getD_some]
        have hy0 : 0 ≤ y := by omega
        go_wp2_with fail
        go_ret
        exact ⟨rfl, HB5.out⟩
      | none =>
        have hxy := hn0 hx
        have HNR := Lib.hid fun W (hr : Rv W W.heap.size A2 (x.map encN)) => RNext9 A2 m c2 W.heap.size x N W hr HMX.out (by omega) ⟨p1, p2⟩
        rw [hx] at HNR
        clear hy hn0 hx
        subst hxy
        go_wp2_with fail
        refine (HRP.out _).mono ?_
        rintro e w5 ⟨ha, -, hb5⟩
        have hab := ha HT.out
        rw [← HN2.out] at hab
        subst hab
        have HB5 := Lib.hid (HB4.out.trans (hb5.mono HB4.out.size))
        have HRB5 := Lib.hid (rv_later HRB4.out hb5)
        clear ha hb5
        go_wp2_with fail
        refine (HNR.out w5 HRB5.out).mono ?_
        rintro e w6 ⟨rfl, rfl⟩
        rw [Option.getD_none]
        go_wp2_with fail
        refine (Code_errno 12 _ (HE.out.below HB5.out)).mono ?_
        rintro e w7 ⟨rfl, hb7⟩
        have HB7 := Lib.hid (HB5.out.trans (hb7.mono HB5.out.size))
        clear hb7
        go_wp2_with fail
        go_ret
        exact ⟨rfl, HB7.out⟩
    · have hto : 119988 ≤ pT d k := by omega
      have HPL := Lib.hid fun W (hW : Lens W) => Plain_over d k h0 h1 k0 k1 hto W hW
      have HRO := Lib.hid fun W (hW : Lens W) => RolledErr A1 m c1 d k 12 (fun W hW => Plain_over d k h0 h1 k0 k1 hto W hW) W hW
      have HRP := Lib.hid fun W => RPlain9 d k h0 h1 k0 k1 W
      have HT := Lib.hid ht
      clear ht hto
      go_wp2_with fail
      refine (HPL.out w2 HW2.out).mono ?_
      rintro e w3 ⟨rfl, hb3⟩
      have HB3 := Lib.hid (HB2.out.trans (hb3.mono HB2.out.size))
      clear hb3
      go_wp2_with fail
      refine (HRO.out w3 (HW.out.below HB3.out)).mono ?_
      rintro e w4 ⟨rfl, hb4⟩
      have HB4 := Lib.hid (HB3.out.trans (hb4.mono HB3.out.size))
      clear hb4
      go_wp2_with fail
      refine (HRP.out _).mono ?_
      rintro e w5 ⟨-, ha, hb5⟩
      have hab := ha (by have := HT.out; omega)
      subst hab
      have HB5 := Lib.hid (HB4.out.trans (hb5.mono HB4.out.size))
      clear ha hb5
      go_wp2_with fail
      refine (Code_errno 12 _ (HE.out.below HB5.out)).mono ?_
      rintro e w7 ⟨rfl, hb7⟩
      have HB7 := Lib.hid (HB5.out.trans (hb7.mono HB5.out.size))
      clear hb7
      go_wp2_with fail
      refine (Code_errno 12 _ (HE.out.below HB7.out)).mono ?_
      rintro e w8 ⟨rfl, hb8⟩
      have HB8 := Lib.hid (HB7.out.trans (hb8.mono HB7.out.size))
      clear hb8
      go_wp2_with fail
      go_ret
      exact ⟨rfl, HB8.out⟩
end Go.Proofs.YtkhjmbemjndcoaaGreatDoor
