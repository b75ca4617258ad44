/-
  DueOpens: the walk. Conditions: the days are there; the months' lengths, powers of ten, the error's type are laid.
-/
import Derived.Test.YtkhjmbemjndcoaaGreatDoorNxtC
import Derived.Test.YtkhjmbemjndcoaaGreatDoorFew
import Derived.Test.YtkhjmbemjndcoaaGreatDoorLasts
namespace Go.Proofs.YtkhjmbemjndcoaaGreatDoor
open Go.RowKit

set_option maxRecDepth 20000 in
theorem NextN9 (A : Option Addr) (n c : Nat) (d : Int) (w : World) (hd : d < 0 ∨ 3652058 < d) :
    Calls Tryz.prog 13 #[.slice A n c, .int .i32 d] w fun e w' => e = .returned (.tuple #[.int .i32 0, .iface 35 (.int .i64 1)]) ∧ w' = w := by
  have hD := DRight_any d w
  rw [day_no hd] at hD
  go_enter Tryz.func13, Tryz.ntmps13
  go_wp2_with fail
  refine hD.mono ?_
  rintro e w' ⟨rfl, rfl⟩
  go_wp2_with fail
  go_ret2
  exact ⟨rfl, rfl⟩
theorem rv_later {w w' : World} {A : Option Addr} {l : List Value} (h : Rv w w.heap.size A l) (hb : Below w.heap.size w w') : Rv w' w'.heap.size A l := (h.below hb).more hb.size
set_option maxRecDepth 20000 in
set_option maxHeartbeats 4000000 in
theorem DueOpenss_any (A : Option Addr) (n c : Nat) (l : List Int) (d : Int) (hdr : -2147483648 ≤ d ∧ d ≤ 2147483647) (w : World) (hR : Rv w w.heap.size A (l.map encL)) (hn : l.length = n) (hm : n ≤ 140737488355328) (hwf : ∀ u ∈ l, -2147483648 ≤ u ∧ u ≤ 2147483647) (hw : Lens w) (hp : Pows w) (hle : Laid w) :
    Calls Tryz.prog 4 #[.slice A n c, .int .i32 d] w fun e w' => e = .returned (.bool true) ∧ Below w.heap.size w w' := by
  have HW := Lib.hid hw
  have HP := Lib.hid hp
  have HR := Lib.hid hR
  have HF := Lib.hid hwf
  have HN := Lib.hid hn
  have HE := Lib.hid hle
  clear hw hp hR hwf hn hle
  go_enter Tryz.func4, Tryz.ntmps4
  go_wp2_with fail
  refine (awake7 _ HW.out HP.out).mono ?_
  rintro e w1 ⟨rfl, hb1⟩
  have HB1 := Lib.hid hb1
  have hR1 := HR.out.below hb1
  clear hb1
  go_wp2_with fail
  refine (Few_any A n c w.heap.size l w1 hR1 HN.out hm HB1.out.size HF.out).mono ?_
  rintro e w2 ⟨A1, A2, c1, c2, rfl, hc1, hc2, hm1, hm2, hr1, hr2, hb2⟩
  have hlen : (l.take 60).length ≤ 60 := by rw [List.length_take]; omega
  have hwf2 : ∀ u ∈ l.take 60, -2147483648 ≤ u ∧ u ≤ 2147483647 := fun u hu => HF.out u (List.mem_of_mem_take hu)
  generalize l.take 60 = x at *
  have HB2 := Lib.hid (HB1.out.trans (hb2.mono HB1.out.size))
  have HR1 := Lib.hid hr1
  have HR2 := Lib.hid hr2
  have HF2 := Lib.hid hwf2
  have HE2 := Lib.hid (HE.out.below HB2.out)
  obtain ⟨m, hmx⟩ : ∃ m, x.length = m := ⟨_, rfl⟩
  rw [hmx] at hc1 hc2 hlen ⊢
  have HMX := Lib.hid hmx
  clear hR1 hr1 hr2 hwf2 hb2 hm1 hm2 HB1 hmx
  by_cases hd : 0 ≤ d ∧ d ≤ 3652058
  · have hN := Next9 A1 m c1 x d w2 HR1.out HMX.out hc1 (by omega) HF2.out hd
    have HNX := Lib.hid hN
    clear hN
    go_wp2_with fail
    refine HNX.out.mono ?_
    rintro e w3 ⟨hy, hn0, hb3⟩
    clear HNX
    have HB3 := Lib.hid (HB2.out.trans (hb3.mono HB2.out.size))
    have HRA := Lib.hid (rv_later HR1.out hb3)
    have HRB := Lib.hid (rv_later HR2.out hb3)
    have HE3 := Lib.hid (HE2.out.below hb3)
    have HO1 := Lib.hid (Open9 A1 m c1 w3.heap.size x d w3 HRA.out HMX.out (by omega))
    have HO2 := Lib.hid (ROpen9 A2 m c2 w3.heap.size x d w3 HRB.out HMX.out (by omega) ⟨hd.1, by omega⟩)
    have HNR := Lib.hid (RNext9 A2 m c2 w3.heap.size x d w3 HRB.out HMX.out (by omega) hd)
    obtain ⟨o, ho⟩ : ∃ o, openL x d = o := ⟨_, rfl⟩
    rw [day_yes hd.1 hd.2, ho] at HO1
    rw [ho] at HO2
    rw [Bool.true_and] at HO1
    have hd1 := hd.1
    have hd2 := hd.2
    clear hd ho hb3 HR1 HR2
    cases hx : nextD x d with
    | some y =>
      obtain ⟨y1, y2, y3, -⟩ := nextD_in x _ d rfl y hx
      have hxy := hy y hx
      have HO3 := Lib.hid (Open9 A1 m c1 w3.heap.size x y w3 HRA.out HMX.out (by omega))
      rw [day_yes (by omega) y2, y3] at HO3
      rw [hx] at HNR
      have HNR2 : Hid (Calls Tryz.prog 12 #[.slice A2 m c2, .int .i64 d] w3 fun e w' => e = .returned (.int .i64 y) ∧ w' = w3) := HNR
      clear hy hn0 hx y3 HNR
      subst hxy
      go_wp2_with fail
      refine HNR2.out.mono ?_
      rintro e w4 ⟨rfl, rfl⟩
      go_wp2_with fail
      refine HO1.out.mono ?_
      rintro e w5 ⟨rfl, rfl⟩
      go_wp2_with fail
      refine HO2.out.mono ?_
      rintro e w6 ⟨rfl, rfl⟩
      go_wp2_with fail
      refine HO3.out.mono ?_
      rintro e w7 ⟨rfl, rfl⟩
      go_wp2_with fail
      go_ret
      exact ⟨rfl, HB3.out⟩
    | none =>
      have hxy := hn0 hx
      rw [hx] at HNR
      have HNR2 : Hid (Calls Tryz.prog 12 #[.slice A2 m c2, .int .i64 d] w3 fun e w' => e = .returned (.int .i64 (-1)) ∧ w' = w3) := HNR
      clear hy hn0 hx HNR
      subst hxy
      have HC := Lib.hid (Code_errno 12 w3 HE3.out)
      go_wp2_with fail
      refine HNR2.out.mono ?_
      rintro e w4 ⟨rfl, rfl⟩
      go_wp2_with fail
      refine HO1.out.mono ?_
      rintro e w5 ⟨rfl, rfl⟩
      go_wp2_with fail
      refine HO2.out.mono ?_
      rintro e w6 ⟨rfl, rfl⟩
      go_wp2_with fail
      refine HC.out.mono ?_
      rintro e w7 ⟨rfl, hb7⟩
      have HB7 := Lib.hid (HB3.out.trans (hb7.mono HB3.out.size))
      clear hb7
      go_wp2_with fail
      go_ret
      exact ⟨rfl, HB7.out⟩
  · have HNX := Lib.hid (NextN9 A1 m c1 d w2 (by omega))
    have HO1 := Lib.hid (Open9 A1 m c1 w2.heap.size x d w2 HR1.out HMX.out (by omega))
    rw [day_no (by omega)] at HO1
    rw [Bool.false_and] at HO1
    have HC := Lib.hid (Code_errno 1 w2 HE2.out)
    by_cases hd0 : d < 0
    · clear hd
      go_wp2_with fail
      refine HNX.out.mono ?_
      rintro e w3 ⟨rfl, rfl⟩
      go_wp2_with fail
      refine HO1.out.mono ?_
      rintro e w5 ⟨rfl, rfl⟩
      go_wp2_with fail
      refine HC.out.mono ?_
      rintro e w7 ⟨rfl, hb7⟩
      have HB7 := Lib.hid (HB2.out.trans (hb7.mono HB2.out.size))
      clear hb7
      go_wp2_with fail
      go_ret
      exact ⟨rfl, HB7.out⟩
    · have hd9 : 3652058 < d := by omega
      clear hd
      go_wp2_with fail
      refine HNX.out.mono ?_
      rintro e w3 ⟨rfl, rfl⟩
      go_wp2_with fail
      refine HO1.out.mono ?_
      rintro e w5 ⟨rfl, rfl⟩
      go_wp2_with fail
      refine HC.out.mono ?_
      rintro e w7 ⟨rfl, hb7⟩
      have HB7 := Lib.hid (HB2.out.trans (hb7.mono HB2.out.size))
      clear hb7
      go_wp2_with fail
      go_ret
      exact ⟨rfl, HB7.out⟩
end Go.Proofs.YtkhjmbemjndcoaaGreatDoor
