/-
The reel's run: what stands between marks, from a half's first sector on. Conditions: a reel in memory, its drum of two sectors at least.
The drum that a Fall leaves which keeps nothing; whether sectors are clean. Conditions: a drum; sectors that there are.
wipeRest: behind the records all is noughts. Conditions: a reel in memory that is no block of its drum's; a drum that isn't armed; room for the writes.
-/
import Derived.Test.YtbaenpgjggojaaaRlGZ9
namespace Go.Proofs.Ytbaenpgjggojaaa
open Go.ChangeShapes Go.WideShapes Go.RowKit

/-- What stands between the marks of k sectors. -/
def preL (fl : List (List UInt8)) (ws : List (Nat × List UInt8)) (a : Nat) : Nat → List UInt8
  | 0 => []
  | k + 1 => preL fl ws a k ++ bodyOf (now fl ws (a + k))
theorem body_marked {s : List UInt8} (hs : s.length = 256) (h : markOf s ≠ 0) : (bodyOf s).length = 254 := by
  unfold markOf at h
  unfold bodyOf
  split
  · rw [List.length_take, List.length_drop]; omega
  · rename_i hn
    rw [if_neg hn] at h
    exact absurd rfl h
section
variable {w : World} {base d r g n c u : Nat} {R : Option Addr} {o : Nat → Prop} {fl : List (List UInt8)} {ws : List (Nat × List UInt8)} {left : Int}
/-- What run leaves: j sectors that are marked; the next one isn't, or there is none. -/
def RunPost (w : World) (fl : List (List UInt8)) (ws : List (Nat × List UInt8)) (a N : Nat) (e : Ending) (w' : World) : Prop :=
  ∃ v j, e = .returned v ∧ j ≤ N ∧ (∀ i, i < j → markOf (now fl ws (a + i)) = 165) ∧ (j = N ∨ markOf (now fl ws (a + j)) ≠ 165) ∧ OwnB w' w.heap.size v (254 * j) (preL fl ws a j) ∧ Below w.heap.size w w'
set_option maxRecDepth 20000 in
set_option maxHeartbeats 2000000 in
theorem run_dr (hr : Blk w r 62 (rhead d g R n c u)) (h : Dr w base d o fl ws left) (h2 : 2 ≤ fl.length) :
    Calls Try.prog 68 #[.pointer (some ⟨r, 0, none⟩)] w (RunPost w fl ws (startN fl.length g) (halfN fl.length)) := by
  have cS := start_dr hr h h2
  have hf := h.few
  have cE := fun W (hW : Below w.heap.size w W) => end_dr (hr.below hW hr.lt) (h.below hW) h2
  have cB := fun W (hW : Below w.heap.size w W) i (hi : i < fl.length) => between_dr (h.below hW) i hi
  have hsl := h.now_len
  have hc0 := fun W (hW : Below w.heap.size w W) => (rhead_cells (hr.below hW hr.lt)).1
  obtain ⟨N, hN⟩ : ∃ N, halfN fl.length = N := ⟨_, rfl⟩
  obtain ⟨a, ha⟩ : ∃ a, startN fl.length g = a := ⟨_, rfl⟩
  have haN : a + N ≤ fl.length := by
    rw [← ha, ← hN]
    unfold startN halfN
    rcases Nat.mod_two_eq_zero_or_one g with h | h <;> rw [h] <;> omega
  rw [ha, hN] at cE
  rw [ha] at cS
  rw [ha, hN]
  have HF := Lib.hid (And.intro haN hf)
  have HC := Lib.hid hc0
  have HS := Lib.hid hsl
  clear h hr hN ha hf haN hc0 hsl
  go_enter Try.func68, Try.ntmps68
  go_wp2_with fail
  refine cS.mono ?_
  rintro e w1 ⟨rfl, q1, rfl⟩
  clear cS
  go_wp2_with fail
  go_loopw [3, 4, 5, 6] (fun v i _ _ wr => ∃ j : Nat, j ≤ N ∧ i = .int .i64 ((a + j : Nat) : Int) ∧ (∀ i, i < j → markOf (now fl ws (a + i)) = 165) ∧ OwnB wr w.heap.size v (254 * j) (preL fl ws a j) ∧ Below w.heap.size w wr) (fun _ i _ _ _ => a + N - (intOf i).toNat)
  case atStart => exact ⟨0, Nat.zero_le _, rfl, fun i hi => absurd hi (by omega), OwnB.nil_ _ _, below_drewN (Below.refl _ _) _⟩
  case round =>
    obtain ⟨j, hj, rfl, hm, hown, hbl⟩ := hrel
    have cE1 := cE wr hbl
    have HO := Lib.hid hown
    have HB := Lib.hid hbl
    have HM := Lib.hid hm
    have hx := HF.out
    have hx1 : ((a + j : Nat) : Int) ≤ 8192 := by omega
    have hx2 : ((a + N : Nat) : Int) ≤ 8192 := by omega
    obtain ⟨t, ht⟩ : ∃ t, a + j = t := ⟨_, rfl⟩
    obtain ⟨m, hm2⟩ : ∃ m, a + N = m := ⟨_, rfl⟩
    rw [hm2] at cE1 hx2
    rw [ht] at hx1 ⊢
    have HT := Lib.hid (And.intro ht hm2)
    clear hown hbl hm hx ht hm2
    by_cases hlt : t < m
    · have hlt2 : (t : Int) < (m : Int) := by omega
      have htl : t < fl.length := by have := HF.out.1; have := HT.out; omega
      go_wp2_with fail
      refine cE1.mono ?_
      rintro e w2 ⟨rfl, q2, rfl⟩
      have hb2 : Below w.heap.size w (wr.drewN q2) := below_drewN HB.out _
      have c0 := HC.out _ hb2
      have cB1 := cB _ hb2 t htl
      have HB2 := Lib.hid hb2
      clear cE1 hb2
      go_wp2_with fail
      refine cB1.mono ?_
      rintro e w3 ⟨A, k, rfl, hk1, hk2, hrd, hb3⟩
      have hbw3 := HB2.out.trans (hb3.mono HB2.out.size)
      have HO3 := Lib.hid (OwnB.below (w := wr.drewN q2) HO.out hb3)
      have HB3 := Lib.hid hbw3
      clear cB1 hb3 c0 hbw3
      by_cases hmk : markOf (now fl ws t) = 165
      · have hbl := body_marked (HS.out t htl) (by rw [hmk]; decide)
        have HMK := Lib.hid hmk
        have HRD := Lib.hid hrd
        have HBL := Lib.hid hbl
        rw [hmk, hbl]
        obtain ⟨bd, hbd⟩ : ∃ b, bodyOf (now fl ws t) = b := ⟨_, rfl⟩
        rw [hbd] at HRD HBL
        have HBD := Lib.hid hbd
        have hts : ((t : Nat) : Int) + 1 = ((a + (j + 1) : Nat) : Int) := by have := HT.out.1; omega
        have HTS := Lib.hid hts
        clear hmk hrd hbl hbd hk1 hk2 hlt hts
        go_wp2_with (with_reducible refine wpList_append_bytes (o := ⟨some 28, _, _, _, _, _⟩) rfl (.tmp 26) (.tmp 27) rfl w.heap.size _ (254 * j) (preL fl ws a j) ?h1 HO3.out w3.heap.size A 254 k bd ?h2 HRD.out HBL.out ?h3 ?h4 ?_)
        case h1 => rfl
        case h2 => rfl
        case h3 => have := HF.out; omega
        case h4 => exact HB3.out.size
        intro v' w4 hown4 hg4
        have hb4 := hg4.below HO3.out HB3.out (Nat.le_refl _) HB3.out.size
        have HO4 := Lib.hid hown4
        have HB4 := Lib.hid hb4
        clear hown4 hg4 hb4
        go_wp2_with fail
        go_roundw
        case rel =>
          refine ⟨j + 1, by have := HT.out; omega, by rw [HTS.out], ?_, ?_, HB4.out⟩
          · intro i hi
            by_cases hij : i = j
            · rw [hij, HT.out.1]; exact HMK.out
            · exact HM.out i (by omega)
          · have e : preL fl ws a (j + 1) = preL fl ws a j ++ bd := by
              rw [← HBD.out, ← HT.out.1]
              rfl
            rw [e, show 254 * (j + 1) = 254 * j + 254 from by omega]
            exact HO4.out
        case measure => simp [intOf]; have := HT.out; omega
      · have hne : ¬ ((markOf (now fl ws t) : Nat) : Int) = 165 := by omega
        have HMK := Lib.hid hmk
        obtain ⟨x, hx⟩ : ∃ x, markOf (now fl ws t) = x := ⟨_, rfl⟩
        obtain ⟨y, hy⟩ : ∃ y, (bodyOf (now fl ws t)).length = y := ⟨_, rfl⟩
        rw [hx] at hne ⊢
        rw [hy]
        have hcm : ((x : Int) != 165) = true := by rw [bne_iff_ne]; exact hne
        have hcq : ((x : Int) == 165) = false := by rw [beq_eq_false_iff_ne]; exact hne
        clear hmk hrd hx hy hk1 hk2 hlt
        go_wp2_with fail
        go_ret
        refine ⟨_, j, rfl, hj, HM.out, .inr ?_, HO3.out, HB3.out⟩
        rw [HT.out.1]
        exact HMK.out
    · have hlt2 : ¬ (t : Int) < (m : Int) := by omega
      have hjn : j = N := by have := HT.out; omega
      have HJ := Lib.hid hjn
      clear hlt hjn
      go_wp2_with fail
      refine cE1.mono ?_
      rintro e w2 ⟨rfl, q2, rfl⟩
      clear cE1
      go_wp2_with fail
      go_ret
      exact ⟨_, j, rfl, hj, HM.out, .inl HJ.out, HO.out, below_drewN HB.out _⟩
end
end Go.Proofs.Ytbaenpgjggojaaa
namespace Go.Proofs.Ytbaenpgjggojaaa
open Go.ChangeShapes Go.WideShapes Go.RowKit

section
variable {w : World} {base d : Nat} {o : Nat → Prop} {fl : List (List UInt8)} {ws : List (Nat × List UInt8)} {left : Int}
theorem fallOf_nil (fl : List (List UInt8)) (ws : List (Nat × List UInt8)) (t : Int) : fallOf fl ws [] t = fl := by
  unfold fallOf
  simp [lastOf, fallK]
theorem flushed_dr (h : Dr w base d o fl ws left) : Calls Try.prog 35 #[.pointer (some ⟨d, 0, none⟩)] w fun e w' =>
    ∃ d' o', e = .returned (.pointer (some ⟨d', 0, none⟩)) ∧ Dr w' w.heap.size d' o' fl [] (-1) ∧ Below w.heap.size w w' := by
  have c := Fall_dr h (A := none) (n := 0) 0 0 [] (fun hn => absurd hn (by simp)) (Nat.zero_le _) rfl (by decide) (-1)
  rw [fallOf_nil] at c
  clear h
  go_enter Try.func35, Try.ntmps35
  go_wp2_with fail
  refine c.mono ?_
  rintro e w' ⟨d', o', rfl, hd, hb⟩
  have HD := Lib.hid hd
  have HB := Lib.hid hb
  clear c hd hb
  go_wp2_with fail
  go_ret
  exact ⟨d', o', rfl, HD.out, HB.out⟩
def CleanPost (fl : List (List UInt8)) (ws : List (Nat × List UInt8)) (a n : Nat) (w : World) (e : Ending) (w' : World) : Prop := (∃ b : Bool, e = .returned (.bool b) ∧ (b = true ↔ ∀ i, i < n → now fl ws (a + i) = zeros)) ∧ w' = w
theorem clean_dr (h : Dr w base d o fl ws left) (a n : Nat) (hn : a + n ≤ fl.length) :
    Calls Try.prog 51 #[.pointer (some ⟨d, 0, none⟩), .int .i64 (a : Int), .int .i64 ((a + n : Nat) : Int)] w (CleanPost fl ws a n w) := by
  have hf := h.few
  have cC := fun i hi => Clean_dr h i hi
  obtain ⟨m, hm⟩ : ∃ m, a + n = m := ⟨_, rfl⟩
  rw [hm]
  have hm8 : (m : Int) ≤ 8192 := by omega
  have HM := Lib.hid (And.intro hm hn)
  clear h hm hn
  go_enter Try.func51, Try.ntmps51
  go_wp2
  go_loopw [7] (fun i wr => ∃ k : Nat, k ≤ n ∧ i = .int .i64 ((a + k : Nat) : Int) ∧ (∀ i, i < k → now fl ws (a + i) = zeros) ∧ wr = w) (fun i _ => m - (intOf i).toNat)
  case atStart => exact ⟨0, Nat.zero_le _, rfl, fun i hi => absurd hi (by omega), rfl⟩
  case round =>
    obtain ⟨k, hk, rfl, hz, rfl⟩ := hrel
    have HZ := Lib.hid hz
    obtain ⟨t, ht⟩ : ∃ t, a + k = t := ⟨_, rfl⟩
    have hx : (t : Int) ≤ 8192 := by have := HM.out; omega
    have HT := Lib.hid ht
    rw [ht]
    clear hz ht
    by_cases hlt : t < m
    · have hlt2 : (t : Int) < (m : Int) := by omega
      have cC1 := cC t (by have := HM.out; omega)
      by_cases hw : now fl ws t = zeros
      · rw [decide_eq_true hw] at cC1
        have HW := Lib.hid hw
        have hts : ((t : Nat) : Int) + 1 = ((a + (k + 1) : Nat) : Int) := by have := HT.out; omega
        have HTS := Lib.hid hts
        clear hw hlt hts
        go_wp2_with fail
        refine cC1.mono ?_
        rintro e w2 ⟨rfl, rfl⟩
        clear cC1
        go_wp2_with fail
        go_roundw
        case rel =>
          refine ⟨k + 1, by have := HT.out; have := HM.out; omega, by rw [HTS.out], ?_, by simp⟩
          intro i hi
          by_cases hik : i = k
          · rw [hik, HT.out]; exact HW.out
          · exact HZ.out i (by omega)
        case measure => simp [intOf]; have := HT.out; omega
      · rw [decide_eq_false hw] at cC1
        have HW := Lib.hid hw
        have hkn : k < n := by have := HT.out; have := HM.out; omega
        clear hw hlt
        go_wp2_with fail
        refine cC1.mono ?_
        rintro e w2 ⟨rfl, rfl⟩
        clear cC1
        go_wp2_with fail
        go_ret
        refine ⟨⟨false, rfl, ?_⟩, rfl⟩
        constructor
        · intro h; cases h
        · intro h
          exact absurd (by rw [← HT.out]; exact h k hkn) HW.out
    · have hlt2 : ¬ (t : Int) < (m : Int) := by omega
      have hkn : k = n := by have := HT.out; have := HM.out; omega
      have HK := Lib.hid hkn
      clear hlt hkn
      go_wp2_with fail
      go_ret
      refine ⟨⟨true, rfl, ?_⟩, rfl⟩
      constructor
      · intro _ i hi
        exact HZ.out i (by rw [HK.out]; exact hi)
      · intro _; rfl
end
end Go.Proofs.Ytbaenpgjggojaaa
namespace Go.Proofs.Ytbaenpgjggojaaa
open Go.ChangeShapes Go.WideShapes Go.RowKit

section
variable {w : World} {base d r g n c u : Nat} {R : Option Addr} {o : Nat → Prop} {fl : List (List UInt8)} {ws : List (Nat × List UInt8)}
/-- Noughts from a on, up to m; all else as it was. -/
def RestPost (w : World) (o : Nat → Prop) (base d : Nat) (fl : List (List UInt8)) (ws : List (Nat × List UInt8)) (a m : Nat) (e : Ending) (w' : World) : Prop :=
  e = .returned .nilIface ∧ ∃ fl' ws', DrK w o base d fl' ws' w' ∧ fl'.length = fl.length ∧ ws'.length ≤ ws.length + (m - a) ∧ ∀ j, now fl' ws' j = if a ≤ j ∧ j < m then zeros else now fl ws j
theorem now_flush (fl : List (List UInt8)) (ws : List (Nat × List UInt8)) (j : Nat) : now (app fl ws) [] j = now fl ws j := rfl
set_option maxRecDepth 20000 in
set_option maxHeartbeats 2000000 in
theorem wipeRest_dr (hr : Blk w r 62 (rhead d g R n c u)) (h : Dr w base d o fl ws (-1)) (h2 : 2 ≤ fl.length) (hro : ¬ o r) (hu : u ≤ halfN fl.length) (hws : ws.length + fl.length ≤ 999999) :
    Calls Try.prog 53 #[.pointer (some ⟨r, 0, none⟩)] w (RestPost w o base d fl ws (startN fl.length g + u) (startN fl.length g + halfN fl.length)) := by
  have cS := fun W (hW : Below w.heap.size w W) => start_dr (hr.below hW hr.lt) (h.below hW) h2
  have cE := fun W (hW : Below w.heap.size w W) => end_dr (hr.below hW hr.lt) (h.below hW) h2
  have hf := h.few
  obtain ⟨N, hN⟩ : ∃ N, halfN fl.length = N := ⟨_, rfl⟩
  obtain ⟨a, ha⟩ : ∃ a, startN fl.length g = a := ⟨_, rfl⟩
  have haN : a + N ≤ fl.length := by
    rw [← ha, ← hN]
    unfold startN halfN
    rcases Nat.mod_two_eq_zero_or_one g with h | h <;> rw [h] <;> omega
  rw [ha, hN] at cE
  rw [ha] at cS
  rw [hN] at hu
  rw [ha, hN]
  have cC := fun W (hW : Below w.heap.size w W) => clean_dr (h.below hW) (a + u) (N - u) (by omega)
  have cF := fun W (hW : Below w.heap.size w W) => flushed_dr (h.below hW)
  have cW := fun W (hW : Below w.heap.size w W) => wipe_dr (h.below hW) (a + u) (N - u) (by omega) (by omega)
  have hl := wipeW_len fl ws (a + u) (N - u)
  have hnow := wipeW_now fl ws (a + u) (N - u) (by omega)
  have eM : a + u + (N - u) = a + N := by omega
  rw [eM] at hnow
  simp only [eM] at cC cW
  obtain ⟨t, ht⟩ : ∃ t, a + u = t := ⟨_, rfl⟩
  obtain ⟨m, hm⟩ : ∃ m, a + N = m := ⟨_, rfl⟩
  simp only [ht, hm] at cC cW cE hnow hl ⊢
  have cells := fun W (hW : Below w.heap.size w W) => rhead_cells (hr.below hW hr.lt)
  obtain ⟨c0, -, -, c3⟩ := rhead_cells hr
  have HX := Lib.hid (And.intro h (And.intro hr hro))
  have HL := Lib.hid (And.intro hl hnow)
  have HE := Lib.hid (And.intro ht (And.intro hm (And.intro haN hf)))
  have HE2 := Lib.hid hu
  have hau : (a : Int) + (u : Int) = (t : Int) := by omega
  have ha0 : (a : Int) ≤ 8192 := by omega
  have hu0 : (u : Int) ≤ 8192 := by omega
  have ht0 : (t : Int) ≤ 8192 := by omega
  have hwt : wrap64 ((a : Int) + (u : Int)) = (t : Int) := by unfold wrap64; omega
  clear h hr hro hl hnow ht hm haN hf hN ha eM hu hws
  go_enter Try.func53, Try.ntmps53
  go_wp2_with fail
  go_quiet (first | (go_at_call 38; refine Calls.quiet_of (cS _ (below_drewN (Below.refl _ _) _))) | (go_at_call 57; refine Calls.quiet_of (cE _ (below_drewN (Below.refl _ _) _))))
  clear cS cE
  go_wp2_with fail
  refine (cC _ (below_drewN (Below.refl _ _) _)).mono ?_
  rintro e w1 ⟨⟨b, rfl, -⟩, hw1⟩
  have hbw1 : Below w.heap.size w w1 := by rw [hw1]; exact below_drewN (Below.refl _ _) _
  clear hw1 cC
  cases b with
  | false =>
    have HBW := Lib.hid hbw1
    obtain ⟨wc, hwc⟩ : ∃ wc, w1 = wc := ⟨_, rfl⟩
    subst hwc
    clear hbw1 cF c0
    have c0 := (cells w1 HBW.out).1
    have cW1 := cW w1 HBW.out
    clear cW
    go_wp2_with fail
    refine cW1.mono ?_
    rintro e w5 ⟨rfl, hdk⟩
    have hdk2 : DrK w o base d fl (wipeW fl ws t (N - u)) w5 := DrK.trans (Kept.of_below HBW.out) (fun _ _ h => h) hdk
    have HDK := Lib.hid hdk2
    obtain ⟨o3, hd3, hk3, ho3⟩ := hdk2
    have hr5 : w5.heap[r]? = w.heap[r]? := hk3.block r HX.out.2.1.lt HX.out.2.2
    have hb5 : Blk w5 r 62 (rhead d g R n c u) := hr5.trans HX.out.2.1
    have c5 := (rhead_cells hb5).1
    have cL := Flush_dr hd3 (by decide) (by decide)
    rw [show less (-1) = -1 from rfl] at cL
    have HK3 := Lib.hid (And.intro hk3 ho3)
    clear cW1 hdk hd3 hk3 ho3 hr5 hb5 c0
    go_wp2_with fail
    refine cL.mono ?_
    rintro e w6 ⟨rfl, o6, hd6, hk6, ho6⟩
    have HF6 : Hid (DrK w o base d (app fl (wipeW fl ws t (N - u))) [] w6) := Lib.hid ⟨o6, hd6, HK3.out.1.trans hk6 HK3.out.2, fun i hi hj => HK3.out.2 i hi (ho6 i (Nat.lt_of_lt_of_le hi HK3.out.1.size) hj)⟩
    clear cL hd6 hk6 ho6 c5
    go_wp2_with fail
    go_ret
    exact ⟨rfl, _, [], HF6.out, app_length _ _, by simp, fun j => (now_flush _ _ _).trans (HL.out.2 j)⟩
  | true =>
    have c0 := (cells w1 hbw1).1
    have cF1 := cF w1 hbw1
    have HB1 := Lib.hid hbw1
    clear cF hbw1
    go_wp2_with fail
    refine cF1.mono ?_
    rintro e w2 ⟨d2, o2, rfl, hd2, hb2⟩
    have hbw2 := HB1.out.trans (hb2.mono HB1.out.size)
    have cC2 := clean_dr hd2 t (N - u) (by have := HE.out; have := HE2.out; omega)
    rw [show t + (N - u) = m from by have := HE.out; have := HE2.out; omega] at cC2
    have HBW := Lib.hid hbw2
    clear cF1 hd2 hb2 hbw2 c0
    go_wp2_with fail
    refine cC2.mono ?_
    rintro e w3 ⟨⟨b2, rfl, -⟩, hw3⟩
    subst hw3
    clear cC2
    cases b2 with
    | false =>
      have c0 := (cells w3 HBW.out).1
      have cW1 := cW w3 HBW.out
      clear cW
      go_wp2_with fail
      refine cW1.mono ?_
      rintro e w5 ⟨rfl, hdk⟩
      have hdk2 : DrK w o base d fl (wipeW fl ws t (N - u)) w5 := DrK.trans (Kept.of_below HBW.out) (fun _ _ h => h) hdk
      have HDK := Lib.hid hdk2
      obtain ⟨o3, hd3, hk3, ho3⟩ := hdk2
      have hr5 : w5.heap[r]? = w.heap[r]? := hk3.block r HX.out.2.1.lt HX.out.2.2
      have hb5 : Blk w5 r 62 (rhead d g R n c u) := hr5.trans HX.out.2.1
      have c5 := (rhead_cells hb5).1
      have cL := Flush_dr hd3 (by decide) (by decide)
      rw [show less (-1) = -1 from rfl] at cL
      have HK3 := Lib.hid (And.intro hk3 ho3)
      clear cW1 hdk hd3 hk3 ho3 hr5 hb5 c0
      go_wp2_with fail
      refine cL.mono ?_
      rintro e w6 ⟨rfl, o6, hd6, hk6, ho6⟩
      have HF6 : Hid (DrK w o base d (app fl (wipeW fl ws t (N - u))) [] w6) := Lib.hid ⟨o6, hd6, HK3.out.1.trans hk6 HK3.out.2, fun i hi hj => HK3.out.2 i hi (ho6 i (Nat.lt_of_lt_of_le hi HK3.out.1.size) hj)⟩
      clear cL hd6 hk6 ho6 c5
      go_wp2_with fail
      go_ret
      exact ⟨rfl, _, [], HF6.out, app_length _ _, by simp, fun j => (now_flush _ _ _).trans (HL.out.2 j)⟩
    | true =>
      have c0 := (cells w3 HBW.out).1
      have cW1 := cW w3 HBW.out
      clear cW
      go_wp2_with fail
      refine cW1.mono ?_
      rintro e w5 ⟨rfl, hdk⟩
      have hdk2 : DrK w o base d fl (wipeW fl ws t (N - u)) w5 := DrK.trans (Kept.of_below HBW.out) (fun _ _ h => h) hdk
      have HDK := Lib.hid hdk2
      obtain ⟨o3, hd3, hk3, ho3⟩ := hdk2
      have hr5 : w5.heap[r]? = w.heap[r]? := hk3.block r HX.out.2.1.lt HX.out.2.2
      have hb5 : Blk w5 r 62 (rhead d g R n c u) := hr5.trans HX.out.2.1
      have c5 := (rhead_cells hb5).1
      clear cW1 hdk hd3 hk3 ho3 hr5 hb5 c5 c0
      go_wp2_with fail
      go_ret
      exact ⟨rfl, fl, _, HDK.out, rfl, by have := HL.out.1; have := HE.out; omega, HL.out.2⟩
end
end Go.Proofs.Ytbaenpgjggojaaa
