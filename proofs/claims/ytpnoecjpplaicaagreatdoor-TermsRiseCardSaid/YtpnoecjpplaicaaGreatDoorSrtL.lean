/-
The library's sort over days, XI: the whole. Conditions: the row lies there.
The library's sort over days, XII: Sort, IsSorted, Clone; days in their order. Conditions: the days are there.
-/
import Derived.Test.YtpnoecjpplaicaaGreatDoorSrtJ
import Derived.Test.YtpnoecjpplaicaaGreatDoorHRight
import Derived.Lib.Small
namespace Go.Proofs.YtpnoecjpplaicaaGreatDoor
open Go.RowKit
open Go.Sort (putRow Holds swp ltInt PermIn SortedIn size_swp permIn_trans permIn_refl insertionSort heapSort swo_ltInt insertionSort_holds heapSort_holds partialInsertionSort_holds partition_holds partitionEqual_holds partialInsertionSort partition partitionEqual round_eq round_part)

theorem Ins9n (n blk off cap a b : Nat) (d : Array Int) (w : World) (hn : d.size = n) (hH : Holds eD w blk off d) (hab : a ≤ b) (hb : b ≤ n) (hsz : n ≤ 1000000) :
    Calls Tryz.prog 197 #[.slice (some ⟨blk, off, none⟩) n cap, .int .i64 a, .int .i64 b] w fun e w' => e = .returned (.tuple #[]) ∧ ∃ d', PermIn a b d d' ∧ SortedIn ltInt a b d' ∧ Rw9 w blk off d' w' := by
  subst hn
  refine (Ins9 blk off cap a b d w hH hab hb hsz).mono ?_
  rintro e w' ⟨h1, h2⟩
  obtain ⟨p, s⟩ := insertionSort_holds swo_ltInt d a b hab hb
  exact ⟨h1, _, p, s, h2⟩
theorem Heap9n (n blk off cap a b : Nat) (d : Array Int) (w : World) (hn : d.size = n) (hH : Holds eD w blk off d) (hab : a < b) (hb : b ≤ n) (hsz : n ≤ 1000000) :
    Calls Tryz.prog 198 #[.slice (some ⟨blk, off, none⟩) n cap, .int .i64 a, .int .i64 b] w fun e w' => e = .returned (.tuple #[]) ∧ ∃ d', PermIn a b d d' ∧ SortedIn ltInt a b d' ∧ Rw9 w blk off d' w' := by
  subst hn
  refine (Heap9 blk off cap a b d w hH hab hb hsz).mono ?_
  rintro e w' ⟨h1, h2⟩
  obtain ⟨p, s⟩ := heapSort_holds swo_ltInt d a b (Nat.le_of_lt hab) hb
  exact ⟨h1, _, p, s, h2⟩
theorem Rev9n (n blk off cap a b : Nat) (d : Array Int) (w : World) (hn : d.size = n) (hH : Holds eD w blk off d) (hab : a < b) (hb : b ≤ n) (hsz : n ≤ 1000000) :
    Calls Tryz.prog 201 #[.slice (some ⟨blk, off, none⟩) n cap, .int .i64 a, .int .i64 b] w fun e w' => e = .returned (.tuple #[]) ∧ ∃ d', PermIn a b d d' ∧ Rw9 w blk off d' w' := by
  subst hn
  exact Rev9 blk off cap a b d w hH hab hb hsz
/-- A row that is a permutation, in a world that has grown. -/
abbrev Pm9 (w : World) (n blk off a b : Nat) (e : Array Int) (w' : World) : Prop := ∃ f, PermIn a b e f ∧ f.size = n ∧ At9 w blk off f w'
theorem At9.lies {w w' : World} {n blk off : Nat} {d e : Array Int} (h : At9 w blk off e w') (hH : Holds eD w blk off d) (hd : d.size = n) (he : e.size = n) (hb : blk < w.heap.size) : Holds eD w' blk off e ∧ blk < w'.heap.size := h.holds hH (he.trans hd.symm) hb
def PdRel (n a b blk off : Nat) (d : Array Int) (w : World) (x y z u v : Value) (w' : World) : Prop :=
  ∃ a1 b1 l : Nat, ∃ wb wp : Bool, ∃ e : Array Int, x = .int .i64 a1 ∧ y = .int .i64 b1 ∧ z = .int .i64 l ∧ u = .bool wb ∧ v = .bool wp ∧ (a ≤ a1 ∧ a1 ≤ b1 ∧ b1 ≤ b ∧ l ≤ 64) ∧ e.size = n ∧ At9 w blk off e w' ∧ Go.Sort.Below ltInt a1 b1 e ∧
    ∀ R, PermIn a1 b1 e R → SortedIn ltInt a1 b1 R → PermIn a b d R ∧ SortedIn ltInt a b R

set_option maxRecDepth 20000 in
set_option maxHeartbeats 8000000 in
theorem Pdq9 (n blk off cap : Nat) (hsz : n ≤ 1000000) (m : Nat) : ∀ (a b l : Nat) (d : Array Int) (w : World), b - a < m → d.size = n → Holds eD w blk off d → blk < w.heap.size → a ≤ b → b ≤ n → l ≤ 64 → Go.Sort.Below ltInt a b d →
    Calls Tryz.prog 182 #[.slice (some ⟨blk, off, none⟩) n cap, .int .i64 a, .int .i64 b, .int .i64 l] w fun e w' =>
      e = .returned (.tuple #[]) ∧ ∃ d', PermIn a b d d' ∧ SortedIn ltInt a b d' ∧ At9 w blk off d' w' := by
  induction m with
  | zero => intro a b l d w h; omega
  | succ m ih =>
  intro a b l d w hm hn hH hblk hab hb hl hB
  have IH := Lib.hid ih
  have HH := Lib.hid hH
  have HBK := Lib.hid hblk
  have HBL := Lib.hid hB
  have HN := Lib.hid hn
  clear ih hH hblk hB
  go_enter Tryz.func182, Tryz.ntmps182
  go_wp2_with fail
  go_loopw [1, 2, 3, 8, 9] (PdRel n a b blk off d w) (fun x y _ _ _ _ => (intOf y - intOf x).toNat)
  case atStart => exact ⟨a, b, l, true, true, d, rfl, rfl, rfl, rfl, rfl, ⟨Nat.le_refl _, hab, Nat.le_refl _, hl⟩, hn, Go.Sort.At.refl HH.out, HBL.out, fun R h1 h2 => ⟨h1, h2⟩⟩
  case round =>
    clear hl HBL hn
    obtain ⟨a1, b1, l, wb, wp, e, rfl, rfl, rfl, rfl, rfl, ⟨ha1, hab1, hb1, hl⟩, hes, hA, hB, hF⟩ := hrel
    have HA := Lib.hid hA
    have HB := Lib.hid hB
    have HF := Lib.hid hF
    clear hA hB hF
    by_cases h12 : (b1 : Int) - (a1 : Int) ≤ 12
    · obtain ⟨hHe, hbe⟩ := HA.out.lies HH.out HN.out hes HBK.out
      have hC := Ins9n n blk off cap a1 b1 e wr hes hHe hab1 (by omega) hsz
      have HCC := Lib.hid hC
      clear hHe hbe hC
      go_wp2_with fail
      refine HCC.out.mono ?_
      rintro x w2 ⟨rfl, f, hp, hs, hr⟩
      have HA2 := Lib.hid (HA.out.step HBK.out hp.1 hr)
      have HP := Lib.hid (HF.out f hp hs)
      clear hp hs hr
      go_wp2_with fail
      try simp only [Exit.inBlock, Exit.then]
      refine bodyPost_ret (results_none rfl _ _ _) rfl ?_
      exact ⟨rfl, f, HP.out.1, HP.out.2, HA2.out⟩
    · by_cases hl0 : l = 0
      · subst hl0
        obtain ⟨hHe, hbe⟩ := HA.out.lies HH.out HN.out hes HBK.out
        have hC := Heap9n n blk off cap a1 b1 e wr hes hHe (by omega) (by omega) hsz
        have HCC := Lib.hid hC
        clear hHe hbe hC
        rw [show ((0 : Nat) : Int) = 0 from rfl]
        go_wp2_with fail
        refine HCC.out.mono ?_
        rintro x w2 ⟨rfl, f, hp, hs, hr⟩
        have HA2 := Lib.hid (HA.out.step HBK.out hp.1 hr)
        have HP := Lib.hid (HF.out f hp hs)
        clear hp hs hr
        go_wp2_with fail
        try simp only [Exit.inBlock, Exit.then]
        refine bodyPost_ret (results_none rfl _ _ _) rfl ?_
        exact ⟨rfl, f, HP.out.1, HP.out.2, HA2.out⟩
      · have hl1 : ¬ ((l : Int) = 0) := by omega
        have h12n : a1 + 12 < b1 := by omega
        have hb1n : b1 ≤ n := by omega
        go_upto_if 35 with fail
        rw [show ((l : Int) == 0) = false from by simpa using hl1]
        go_cut [3] from 34 to 41 (fun z wx => (∃ l1 : Nat, z = .int .i64 l1 ∧ l1 ≤ 64) ∧ Pm9 w n blk off a1 b1 e wx)
        case first =>
          rcases wb with _ | _
          · obtain ⟨hHe, hbe⟩ := HA.out.lies HH.out HN.out hes HBK.out
            have hC := Break9 n blk off cap a1 b1 e wr hes hHe hbe h12n hb1n hsz
            have HCC := Lib.hid hC
            clear hHe hbe hC
            go_wp2_with fail
            refine HCC.out.mono ?_
            rintro x w2 ⟨rfl, f, hp, hr⟩
            have HP := Lib.hid hp
            have HR := Lib.hid hr
            clear hp hr
            go_wp2_with fail
            go_meet
            case rel => exact ⟨⟨l - 1, by congr 1; omega, by omega⟩, f, HP.out, HP.out.1.trans hes, HA.out.stepG HBK.out HP.out.1 HR.out⟩
          · go_wp2_with fail
            go_meet
            case rel => exact ⟨⟨l, rfl, hl⟩, e, permIn_refl _ _ _, hes, HA.out⟩
        case rest =>
          obtain ⟨⟨l1, rfl, hl2⟩, f1, hp1, hs1, hA1⟩ := hcut
          have hA1 : At9 w blk off f1 wc := hA1
          obtain ⟨hHe, hbe⟩ := At9.lies hA1 HH.out HN.out hs1 HBK.out
          have hC := Pivot9 n blk off cap a1 b1 f1 wc hs1 hHe hbe h12n hb1n hsz
          have HCC := Lib.hid hC
          have HA1 := Lib.hid hA1
          have HP1 := Lib.hid hp1
          clear hHe hbe hC hp1 hA1 HA hl hl0 hl1
          rename World => W1
          go_wp2_with fail
          refine HCC.out.mono ?_
          rintro x w2 ⟨p, hv, rfl, hpa, hpb, hr⟩
          have HA2 := Lib.hid (HA1.out.same HH.out (hs1.trans HN.out.symm) HBK.out hr)
          clear hr HCC HA1
          go_upto_if 50 with fail
          go_cut [11, 12] from 49 to 60 (fun p' h' wx => (∃ q : Nat, p' = .int .i64 q ∧ a1 ≤ q ∧ q < b1) ∧ (∃ hw : Int, h' = .int .i64 hw) ∧ Pm9 w n blk off a1 b1 e wx)
          case first =>
            by_cases h2 : hv = 2
            · subst h2
              obtain ⟨hHe, hbe⟩ := At9.lies (show At9 w blk off f1 w2 from HA2.out) HH.out HN.out hs1 HBK.out
              have hC := Rev9n n blk off cap a1 b1 f1 w2 hs1 hHe (by omega) hb1n hsz
              have HCC := Lib.hid hC
              clear hHe hbe hC
              go_wp2_with fail
              refine HCC.out.mono ?_
              rintro x w3 ⟨rfl, f, hp, hr⟩
              have HP := Lib.hid hp
              have HR := Lib.hid hr
              clear hp hr
              go_wp2_with fail
              go_meet
              case rel => exact ⟨⟨b1 - 1 - (p - a1), by congr 1; omega, by omega, by omega⟩, ⟨_, rfl⟩, f, permIn_trans _ _ _ _ _ HP1.out HP.out, HP.out.1.trans hs1, Go.Sort.At.step (show At9 w blk off f1 w2 from HA2.out) HBK.out HP.out.1 HR.out⟩
            · go_wp2_with fail
              go_meet
              case rel => exact ⟨⟨p, rfl, hpa, hpb⟩, ⟨_, rfl⟩, f1, HP1.out, hs1, HA2.out⟩
          case rest =>
            obtain ⟨⟨q, rfl, hqa, hqb⟩, ⟨hw, rfl⟩, f2, hp2, hs2, hA2⟩ := hcut
            have hA2 : At9 w blk off f2 wc := hA2
            have HP2 := Lib.hid hp2
            have HA3 := Lib.hid hA2
            clear hp2 hA2 HA2 HP1 hpa hpb hs1
            rename World => W3
            go_upto_region 15 with (fail)
            go_cut [68] from 61 to 68 (fun x wx => (∃ c : Bool, x = .bool c) ∧ wx = W3)
            case first =>
              cases wb <;> cases wp
              all_goals go_wp2_with fail
              all_goals (go_meet; exact ⟨⟨_, rfl⟩, rfl⟩)
            case rest =>
              obtain ⟨⟨c, rfl⟩, hwc⟩ := hcut
              subst hwc
              go_upto_if 68 with fail
              go_cut [69] from 69 to 72 (fun x wx => Pm9 w n blk off a1 b1 e wx)
              case first =>
                rcases c with _ | _
                · go_wp2_with fail
                  go_meet
                  case rel => exact ⟨f2, HP2.out, hs2, HA3.out⟩
                · obtain ⟨hHe, hbe⟩ := At9.lies (show At9 w blk off f2 wc from HA3.out) HH.out HN.out hs2 HBK.out
                  have hC := PIns9 n blk off cap a1 b1 f2 wc hs2 hHe h12n hb1n hsz
                  obtain ⟨hp, hss⟩ := partialInsertionSort_holds swo_ltInt f2 a1 b1 (by omega) (by omega) (by
                    have := Go.Sort.Below.perm HB.out (by omega) HP2.out
                    exact this)
                  generalize partialInsertionSort ltInt f2 a1 b1 = r at hC hp hss
                  obtain ⟨f3, br⟩ := r
                  have HCC := Lib.hid hC
                  have HP3 := Lib.hid hp
                  have HSS := Lib.hid hss
                  clear hHe hbe hC hp hss
                  go_wp2_with fail
                  refine HCC.out.mono ?_
                  rintro x w4 ⟨rfl, hr⟩
                  have HA4 := Lib.hid (Go.Sort.At.step (show At9 w blk off f2 wc from HA3.out) HBK.out HP3.out.1 hr)
                  clear hr HCC
                  rcases br with _ | _
                  · go_wp2_with fail
                    go_meet
                    case rel => exact ⟨f3, permIn_trans _ _ _ _ _ HP2.out HP3.out, HP3.out.1.trans hs2, HA4.out⟩
                  · have HP5 := Lib.hid (HF.out f3 (permIn_trans _ _ _ _ _ HP2.out HP3.out) (HSS.out rfl))
                    clear HP3 HSS
                    go_wp2_with fail
                    try simp only [Exit.inBlock, Exit.then]
                    refine bodyPost_ret (results_none rfl _ _ _) rfl ?_
                    exact ⟨rfl, f3, HP5.out.1, HP5.out.2, HA4.out⟩
              case rest =>
                obtain ⟨f3, hp3, hs3, hA4⟩ := hcut
                have HA4 := Lib.hid (show At9 w blk off f3 wc from hA4)
                have HB3 := Lib.hid (Go.Sort.Below.perm HB.out (by omega) hp3)
                have HP3 := Lib.hid hp3
                obtain ⟨hHe, hbe⟩ := At9.lies (show At9 w blk off f3 wc from HA4.out) HH.out HN.out hs3 HBK.out
                obtain ⟨G, hG, hc, hf⟩ := (Rw9.refl hHe).fam hHe rfl
                rw [hs3] at hc hf
                have HG := Lib.hid hG
                have HHE := Lib.hid hHe
                clear hHe hbe hG hp3 hA4 HA3 HP2 hs2 HB hf
                have hqn : q < n := by omega
                go_wp2_with fail
                by_cases ha0 : 0 < a1
                · have hann : a1 - 1 < n := by omega
                  go_quiet (first | (go_at_call 181; refine Calls.quiet_of_same (Less9 _ _ _)))
                  go_wp2_with fail
                  · have hl0 : (!ltInt (G (a1 - 1)) (G q)) = true := by assumption
                    have hl : ltInt (G (a1 - 1)) (G q) = false := by simpa using hl0
                    clear hl0
                    obtain ⟨W5, hW5⟩ : ∃ W, W = wc.drewN nq := ⟨_, rfl⟩
                    rw [← hW5]
                    have hA5 : At9 w blk off f3 W5 := by rw [hW5]; exact Go.Sort.At.step (show At9 w blk off f3 wc from HA4.out) HBK.out rfl ((Rw9.refl HHE.out).drewN nq)
                    obtain ⟨hH5, hb5⟩ := At9.lies hA5 HH.out HN.out hs3 HBK.out
                    have HA5 := Lib.hid hA5
                    have HH5 := Lib.hid hH5
                    clear hW5 hA5 hH5 hb5 hc HA4 HHE
                    obtain ⟨mid, d4, hx⟩ : ∃ mid d4, partitionEqual ltInt f3 a1 b1 q = (mid, d4) := ⟨_, _, rfl⟩
                    have hC := PartEq9 n blk off cap a1 b1 q f3 W5 hs3 HH5.out hqa hqb hb1n hsz
                    have hrp := round_eq swo_ltInt (partitionEqual_holds ltInt) (show 0 < a1 by omega) hqa hqb (show b1 ≤ f3.size by omega) HB3.out (by rw [← HG.out, ← HG.out]; exact hl) hx
                    rw [hx] at hC
                    obtain ⟨hm1, hm2, hs4, hB4, hfin⟩ := hrp
                    have hs4 : d4.size = n := hs4.trans hs3
                    have HCC := Lib.hid hC
                    have HB4 := Lib.hid hB4
                    have HFI := Lib.hid hfin
                    clear hC hx hB4 hfin HH5 HG hl
                    go_wp2_with fail
                    refine HCC.out.mono ?_
                    rintro x w6 ⟨rfl, hr⟩
                    have HA6 := Lib.hid (Go.Sort.At.step (show At9 w blk off f3 W5 from HA5.out) HBK.out (hs4.trans hs3.symm) hr)
                    clear hr HCC HA5
                    go_wp2_with fail
                    go_roundw
                    case rel => exact ⟨mid, b1, l1, _, _, d4, rfl, rfl, rfl, rfl, rfl, ⟨by omega, hm2, hb1, hl2⟩, hs4, HA6.out, HB4.out, fun R h1 h2 => by
                      obtain ⟨p1, p2⟩ := HFI.out R h1 h2
                      exact HF.out R (permIn_trans _ _ _ _ _ HP3.out p1) p2⟩
                    case measure => simp [intOf]; omega
                  · have hl0 : (!ltInt (G (a1 - 1)) (G q)) = false := by assumption
                    clear hl0
                    obtain ⟨W5, hW5⟩ : ∃ W, W = wc.drewN nq := ⟨_, rfl⟩
                    rw [← hW5]
                    have hA5 : At9 w blk off f3 W5 := by rw [hW5]; exact Go.Sort.At.step (show At9 w blk off f3 wc from HA4.out) HBK.out rfl ((Rw9.refl HHE.out).drewN nq)
                    obtain ⟨hH5, hb5⟩ := At9.lies hA5 HH.out HN.out hs3 HBK.out
                    have HA5 := Lib.hid hA5
                    have HH5 := Lib.hid hH5
                    clear hW5 hA5 hH5 hb5 hc HA4 HHE
                    have hC := Part9 n blk off cap a1 b1 q f3 W5 hs3 HH5.out hqa hqb hb1n hsz
                    obtain ⟨mid, ap, d4, hx⟩ : ∃ mid ap d4, partition ltInt f3 a1 b1 q = (mid, ap, d4) := ⟨_, _, _, rfl⟩
                    have hrp := round_part swo_ltInt (partition_holds ltInt) hqa hqb (show b1 ≤ f3.size by omega) HB3.out hx
                    rw [hx] at hC
                    obtain ⟨hm1, hm2, hs4, hB4, hB5, hL, hR⟩ := hrp
                    have hs4 : d4.size = n := hs4.trans hs3
                    have HCC := Lib.hid hC
                    have HB4 := Lib.hid hB4
                    have HB5 := Lib.hid hB5
                    have HL := Lib.hid hL
                    have HR := Lib.hid hR
                    clear hC hx hB4 hB5 hL hR HH5 HG
                    go_wp2_with fail
                    refine HCC.out.mono ?_
                    rintro x w6 ⟨qb, rfl, hr⟩
                    have HA6 := Lib.hid (Go.Sort.At.step (show At9 w blk off f3 W5 from HA5.out) HBK.out (hs4.trans hs3.symm) hr)
                    clear hr HCC HA5
                    obtain ⟨hH6, hb6⟩ := At9.lies (show At9 w blk off d4 w6 from HA6.out) HH.out HN.out hs4 HBK.out
                    have HH6 := Lib.hid hH6
                    have HB6 := Lib.hid hb6
                    clear hH6 hb6
                    by_cases hlr : (mid : Int) - (a1 : Int) < (b1 : Int) - (mid : Int)
                    · have hC := IH.out a1 mid l1 d4 w6 (by omega) hs4 HH6.out HB6.out hm1 (by omega) hl2 HB4.out
                      have HCC := Lib.hid hC
                      clear hC HH6 HB6
                      go_wp2_with fail
                      refine HCC.out.mono ?_
                      rintro x w7 ⟨rfl, L, hpL, hsL, hr⟩
                      obtain ⟨hBL, hfin⟩ := HL.out L hpL hsL
                      have hsz7 := hpL.1.trans hs4
                      have HA7 := Lib.hid (Go.Sort.At.stepG (show At9 w blk off d4 w6 from HA6.out) HBK.out hpL.1 hr)
                      have HBL := Lib.hid hBL
                      have HFI := Lib.hid hfin
                      clear hpL hsL hr hBL hfin HCC HA6 HL HR HB4 HB5
                      go_wp2_with fail
                      go_roundw
                      case rel => exact ⟨mid + 1, b1, l1, _, _, L, by go_num, rfl, rfl, rfl, rfl, ⟨by omega, by omega, hb1, hl2⟩, hsz7, HA7.out, HBL.out, fun R h1 h2 => by
                        obtain ⟨p1, p2⟩ := HFI.out R h1 h2
                        exact HF.out R (permIn_trans _ _ _ _ _ HP3.out p1) p2⟩
                      case measure => simp [intOf]; omega
                    · have hC := IH.out (mid + 1) b1 l1 d4 w6 (by omega) hs4 HH6.out HB6.out (by omega) hb1n hl2 HB5.out
                      have HCC := Lib.hid hC
                      clear hC HH6 HB6
                      go_wp2_with fail
                      refine HCC.out.mono ?_
                      rintro x w7 ⟨rfl, L, hpL, hsL, hr⟩
                      obtain ⟨hBL, hfin⟩ := HR.out L hpL hsL
                      have hsz7 := hpL.1.trans hs4
                      have HA7 := Lib.hid (Go.Sort.At.stepG (show At9 w blk off d4 w6 from HA6.out) HBK.out hpL.1 hr)
                      have HBL := Lib.hid hBL
                      have HFI := Lib.hid hfin
                      clear hpL hsL hr hBL hfin HCC HA6 HL HR HB4 HB5
                      go_wp2_with fail
                      go_roundw
                      case rel => exact ⟨a1, mid, l1, _, _, L, rfl, rfl, rfl, rfl, rfl, ⟨ha1, hm1, by omega, hl2⟩, hsz7, HA7.out, HBL.out, fun R h1 h2 => by
                        obtain ⟨p1, p2⟩ := HFI.out R h1 h2
                        exact HF.out R (permIn_trans _ _ _ _ _ HP3.out p1) p2⟩
                      case measure => simp [intOf]; omega
                · go_quiet (first | (go_at_call 181; refine Calls.quiet_of_same (Less9 _ _ _)))
                  go_wp2_with fail
                  obtain ⟨W5, hW5⟩ : ∃ W, W = wc.drewN nq := ⟨_, rfl⟩
                  rw [← hW5]
                  have hA5 : At9 w blk off f3 W5 := by rw [hW5]; exact Go.Sort.At.step (show At9 w blk off f3 wc from HA4.out) HBK.out rfl ((Rw9.refl HHE.out).drewN nq)
                  obtain ⟨hH5, hb5⟩ := At9.lies hA5 HH.out HN.out hs3 HBK.out
                  have HA5 := Lib.hid hA5
                  have HH5 := Lib.hid hH5
                  clear hW5 hA5 hH5 hb5 hc HA4 HHE
                  have hC := Part9 n blk off cap a1 b1 q f3 W5 hs3 HH5.out hqa hqb hb1n hsz
                  obtain ⟨mid, ap, d4, hx⟩ : ∃ mid ap d4, partition ltInt f3 a1 b1 q = (mid, ap, d4) := ⟨_, _, _, rfl⟩
                  have hrp := round_part swo_ltInt (partition_holds ltInt) hqa hqb (show b1 ≤ f3.size by omega) HB3.out hx
                  rw [hx] at hC
                  obtain ⟨hm1, hm2, hs4, hB4, hB5, hL, hR⟩ := hrp
                  have hs4 : d4.size = n := hs4.trans hs3
                  have HCC := Lib.hid hC
                  have HB4 := Lib.hid hB4
                  have HB5 := Lib.hid hB5
                  have HL := Lib.hid hL
                  have HR := Lib.hid hR
                  clear hC hx hB4 hB5 hL hR HH5 HG
                  go_wp2_with fail
                  refine HCC.out.mono ?_
                  rintro x w6 ⟨qb, rfl, hr⟩
                  have HA6 := Lib.hid (Go.Sort.At.step (show At9 w blk off f3 W5 from HA5.out) HBK.out (hs4.trans hs3.symm) hr)
                  clear hr HCC HA5
                  obtain ⟨hH6, hb6⟩ := At9.lies (show At9 w blk off d4 w6 from HA6.out) HH.out HN.out hs4 HBK.out
                  have HH6 := Lib.hid hH6
                  have HB6 := Lib.hid hb6
                  clear hH6 hb6
                  by_cases hlr : (mid : Int) - (a1 : Int) < (b1 : Int) - (mid : Int)
                  · have hC := IH.out a1 mid l1 d4 w6 (by omega) hs4 HH6.out HB6.out hm1 (by omega) hl2 HB4.out
                    have HCC := Lib.hid hC
                    clear hC HH6 HB6
                    go_wp2_with fail
                    refine HCC.out.mono ?_
                    rintro x w7 ⟨rfl, L, hpL, hsL, hr⟩
                    obtain ⟨hBL, hfin⟩ := HL.out L hpL hsL
                    have hsz7 := hpL.1.trans hs4
                    have HA7 := Lib.hid (Go.Sort.At.stepG (show At9 w blk off d4 w6 from HA6.out) HBK.out hpL.1 hr)
                    have HBL := Lib.hid hBL
                    have HFI := Lib.hid hfin
                    clear hpL hsL hr hBL hfin HCC HA6 HL HR HB4 HB5
                    go_wp2_with fail
                    go_roundw
                    case rel => exact ⟨mid + 1, b1, l1, _, _, L, by go_num, rfl, rfl, rfl, rfl, ⟨by omega, by omega, hb1, hl2⟩, hsz7, HA7.out, HBL.out, fun R h1 h2 => by
                      obtain ⟨p1, p2⟩ := HFI.out R h1 h2
                      exact HF.out R (permIn_trans _ _ _ _ _ HP3.out p1) p2⟩
                    case measure => simp [intOf]; omega
                  · have hC := IH.out (mid + 1) b1 l1 d4 w6 (by omega) hs4 HH6.out HB6.out (by omega) hb1n hl2 HB5.out
                    have HCC := Lib.hid hC
                    clear hC HH6 HB6
                    go_wp2_with fail
                    refine HCC.out.mono ?_
                    rintro x w7 ⟨rfl, L, hpL, hsL, hr⟩
                    obtain ⟨hBL, hfin⟩ := HR.out L hpL hsL
                    have hsz7 := hpL.1.trans hs4
                    have HA7 := Lib.hid (Go.Sort.At.stepG (show At9 w blk off d4 w6 from HA6.out) HBK.out hpL.1 hr)
                    have HBL := Lib.hid hBL
                    have HFI := Lib.hid hfin
                    clear hpL hsL hr hBL hfin HCC HA6 HL HR HB4 HB5
                    go_wp2_with fail
                    go_roundw
                    case rel => exact ⟨a1, mid, l1, _, _, L, rfl, rfl, rfl, rfl, rfl, ⟨ha1, hm1, by omega, hl2⟩, hsz7, HA7.out, HBL.out, fun R h1 h2 => by
                      obtain ⟨p1, p2⟩ := HFI.out R h1 h2
                      exact HF.out R (permIn_trans _ _ _ _ _ HP3.out p1) p2⟩
                    case measure => simp [intOf]; omega
end Go.Proofs.YtpnoecjpplaicaaGreatDoor
namespace Go.Proofs.YtpnoecjpplaicaaGreatDoor
open Go.RowKit
open Go.Sort (putRow Holds swp ltInt PermIn SortedIn)

set_option maxRecDepth 20000 in
theorem Sort9 (n blk off cap : Nat) (d : Array Int) (w : World) (hn : d.size = n) (hH : Holds eD w blk off d) (hblk : blk < w.heap.size) (hsz : n ≤ 1000000) :
    Calls Tryz.prog 157 #[.slice (some ⟨blk, off, none⟩) n cap] w fun e w' => e = .returned (.tuple #[]) ∧ ∃ d', PermIn 0 n d d' ∧ SortedIn ltInt 0 n d' ∧ At9 w blk off d' w' := by
  have hC := Pdq9 n blk off cap hsz (n + 1) 0 n (Lib.bitLen n) d w (by omega) hn hH hblk (by omega) (Nat.le_refl _) (by have := bit_le hsz; omega) (.inl rfl)
  have hL := Len9 n hsz w
  generalize Lib.bitLen n = k at hC hL
  go_enter Tryz.func157, Tryz.ntmps157
  go_wp2_with fail
  refine hL.mono ?_
  rintro e w' ⟨rfl, rfl⟩
  go_wp2_with fail
  refine hC.mono ?_
  rintro e w2 ⟨rfl, d', hp, hs, hA⟩
  have HP := Lib.hid hp
  have HS := Lib.hid hs
  have HA := Lib.hid hA
  clear hp hs hA hC hL
  go_wp2_with fail
  go_end0
  exact ⟨rfl, d', HP.out, HS.out, HA.out⟩

/-- Days that rise (two may be the same). -/
def Ris (l : List Int) : Prop := ∀ i, i + 1 < l.length → l.getD i 0 ≤ l.getD (i + 1) 0
def IsRel (l : List Int) (n : Nat) (w : World) (x : Value) (w' : World) : Prop := ∃ k q : Nat, x = .int .i64 ((k : Int) - 1) ∧ k ≤ n ∧ w' = w.drewN q ∧ ∀ i, k ≤ i + 1 → i + 1 < n → l.getD i 0 ≤ l.getD (i + 1) 0
def IsPost (l : List Int) (w : World) (e : Ending) (w' : World) : Prop := ∃ b : Bool, e = .returned (.bool b) ∧ (b = true → Ris l) ∧ (b = false → 2 ≤ l.length) ∧ ∃ q, w' = w.drewN q
set_option maxRecDepth 20000 in
set_option maxHeartbeats 1000000 in
theorem IsS9 (A : Option Addr) (n c B : Nat) (l : List Int) (w : World) (hR : Rv w B A (l.map encH)) (hn : l.length = n) (hm : n ≤ 1000000) :
    Calls Tryz.prog 155 #[.slice A n c] w (IsPost l w) := by
  have HR := Lib.hid hR
  have HN := Lib.hid hn
  clear hR hn
  go_enter Tryz.func155, Tryz.ntmps155
  go_wp2
  go_loopw [3] (IsRel l n w) (fun x _ => (intOf x + 1).toNat)
  case atStart => exact ⟨n, 0, rfl, Nat.le_refl _, rfl, fun i h1 h2 => by omega⟩
  case round =>
    obtain ⟨k, q, rfl, hk, hw, hS⟩ := hrel
    have HW := Lib.hid hw
    have HS := Lib.hid hS
    clear hw hS
    by_cases h2 : 2 ≤ k
    · obtain ⟨k, rfl⟩ : ∃ j, k = j + 2 := ⟨k - 2, by omega⟩
      rw [show ((k + 2 : Nat) : Int) - 1 = ((k + 1 : Nat) : Int) by omega]
      have hll : k + 1 < (l.map encH).length := by rw [List.length_map, HN.out]; omega
      obtain ⟨b, o, hA, _, c1⟩ := HR.out.at_ hll
      obtain ⟨b2, o2, hA2, _, c0⟩ := HR.out.at_ (k := k) (by omega)
      rw [hA] at hA2
      injection hA2 with e1
      injection e1 with e1 e2
      subst e1 e2 hA
      have hkl : k + 1 < l.length := by rw [HN.out]; omega
      have g1 : (l.map encH)[k + 1] = .int .i32 (l.getD (k + 1) 0) := by rw [List.getElem_map, List.getD_eq_getElem?_getD, List.getElem?_eq_getElem hkl]; rfl
      have g0 : (l.map encH)[k] = .int .i32 (l.getD k 0) := by rw [List.getElem_map, List.getD_eq_getElem?_getD, List.getElem?_eq_getElem (by omega : k < l.length)]; rfl
      rw [g1] at c1
      rw [g0] at c0
      obtain ⟨x1, hx1⟩ : ∃ x, l.getD (k + 1) 0 = x := ⟨_, rfl⟩
      obtain ⟨x0, hx0⟩ : ∃ x, l.getD k 0 = x := ⟨_, rfl⟩
      rw [hx1] at c1
      rw [hx0] at c0
      have hwc1 : wr.cell? ⟨b, o + (k + 1), none⟩ = some (.int .i32 x1) := by rw [HW.out]; exact c1
      have hwc0 : wr.cell? ⟨b, o + k, none⟩ = some (.int .i32 x0) := by rw [HW.out]; exact c0
      have HX := Lib.hid (And.intro hx1 hx0)
      have hkn : k + 1 < n := by omega
      have hkn0 : k < n := by omega
      clear g1 g0 hll hkl c1 c0 hx1 hx0
      go_wp2_with fail
      go_quiet (first | (go_at_call 181; refine Calls.quiet_of_same (Less9 _ _ _)))
      go_wp2_with fail
      · go_ret
        exact ⟨false, rfl, fun h => absurd h (by decide), fun _ => by rw [HN.out]; omega, q + nq, by rw [HW.out, World.drewN_drewN]⟩
      · have hl : ltInt x1 x0 = false := by assumption
        have hle : x0 ≤ x1 := by
          have := of_decide_eq_false hl
          omega
        go_roundw
        case rel =>
          refine ⟨k + 1, q + nq, by congr 1; omega, by omega, by rw [HW.out, World.drewN_drewN], fun i h3 h4 => ?_⟩
          by_cases e : i = k
          · subst e; rw [HX.out.1, HX.out.2]; exact hle
          · exact HS.out i (by omega) h4
        case measure => simp [intOf]; omega
    · have h3 : ¬ (0 : Int) < (k : Int) - 1 := by omega
      go_wp2_with fail
      go_ret
      exact ⟨true, rfl, fun _ i h => HS.out i (by omega) (by rw [← HN.out]; exact h), fun h => absurd h (by decide), q, HW.out⟩
end Go.Proofs.YtpnoecjpplaicaaGreatDoor
