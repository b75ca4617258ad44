/-
  The library's sort over days, IX: the parting, with a pivot. Conditions: the row lies there.
-/
import Derived.Test.YtkhjmbemjndcoaaGreatDoorSrtG
namespace Go.Proofs.YtkhjmbemjndcoaaGreatDoor
open Go.RowKit
open Go.Sort (putRow Holds swp ltInt PermIn size_swp scanUp scanDown partLoop partition)
def PtRel (T : Nat × Array Int) (a b blk off n : Nat) (w : World) (x y : Value) (w' : World) : Prop :=
  ∃ i j : Nat, ∃ e : Array Int, x = .int .i64 i ∧ y = .int .i64 j ∧ a < i ∧ i ≤ j + 1 ∧ j < b ∧ e.size = n ∧ Rw9 w blk off e w' ∧ partLoop ltInt a i j e = T
set_option maxRecDepth 20000 in
set_option maxHeartbeats 8000000 in
theorem Part9 (n blk off cap a b pivot : Nat) (d : Array Int) (w : World) (hn : d.size = n) (hH : Holds eD w blk off d) (hap : a ≤ pivot) (hpb : pivot < b) (hb : b ≤ n) (hsz : n ≤ 1000000) :
    Calls Tryz.prog 70 #[.slice (some ⟨blk, off, none⟩) n cap, .int .i64 a, .int .i64 b, .int .i64 pivot] w fun e w' =>
      ∃ q : Bool, e = .returned (.tuple #[.int .i64 ((partition ltInt d a b pivot).1 : Nat), .bool q]) ∧ Rw9 w blk off (partition ltInt d a b pivot).2.2 w' := by
  rw [Go.Sort.partition_fst, Go.Sort.partition_arr]
  obtain ⟨T, hT⟩ : ∃ T, partLoop ltInt a (a + 1) (b - 1) (swp d a pivot) = T := ⟨_, rfl⟩
  rw [hT]
  obtain ⟨G, hG, hc, hf⟩ := (Rw9.refl hH).fam hH rfl
  rw [hn] at hc hf
  have han : a < n := by omega
  have hpn : pivot < n := by omega
  obtain ⟨v9, hv9⟩ := cell?_setCell_some (w := w) (p := ⟨blk, off + a, none⟩) (x := .int .i32 (G pivot)) (q := ⟨blk, off + pivot, none⟩) (hc pivot hpn)
  have HH := Lib.hid hH
  have HG := Lib.hid hG
  have HT := Lib.hid hT
  clear hH hG hT
  go_enter Tryz.func70, Tryz.ntmps70
  go_wp2
  go_region
  have hR0 := ((Rw9.refl HH.out).swap (i := a) (j := pivot) (by omega) (by omega) (HG.out _) (HG.out _)).drew
  obtain ⟨W, hw0⟩ : ∃ W, W = ((w.setCell ⟨blk, off + a, none⟩ (eD (G pivot))).setCell ⟨blk, off + pivot, none⟩ (eD (G a))).drew := ⟨_, rfl⟩
  rw [← hw0] at hR0 ⊢
  obtain ⟨i, hi⟩ : ∃ i : Nat, i = a + 1 := ⟨_, rfl⟩
  obtain ⟨j, hj⟩ : ∃ j : Nat, j + 1 = b := ⟨b - 1, by omega⟩
  obtain ⟨e, he⟩ : ∃ e, e = swp d a pivot := ⟨_, rfl⟩
  rw [← he] at hR0
  have HO : Hid (partLoop ltInt a i j e = T) := Lib.hid (by rw [hi, he, show j = b - 1 by omega]; exact HT.out)
  have hes : e.size = n := by rw [he, size_swp]; exact hn
  have hai : a < i := by omega
  have hij : i ≤ j + 1 := by omega
  have hjb : j < b := by omega
  have hjn : j < n := by omega
  have HIJ := Lib.hid (show ((a : Int) + 1 = (i : Int)) ∧ ((b : Int) - 1 = (j : Int)) by omega)
  clear hw0 hc hf HG hv9 hi hj he HT
  obtain ⟨G, hG, hc, hf⟩ := hR0.fam HH.out (hes.trans hn.symm)
  rw [hn] at hc hf
  have HR := Lib.hid hR0
  have HG := Lib.hid hG
  clear hR0 hG
  go_upto_block 0 with fail
  rw [HIJ.out.1, HIJ.out.2]
  go_cut [10] from 30 to 45 (fun x wx => x = .int .i64 ((scanUp (fun x => ltInt x e[a]!) e j i : Nat) : Int) ∧ ∃ q, wx = W.drewN q)
  case first =>
    go_wp2_with fail
    go_loopw [10] (UpRel (fun x => ltInt x e[a]!) e i j W) (fun x _ => j + 1 - (intOf x).toNat)
    case atStart => exact ⟨i, 0, rfl, Nat.le_refl _, hij, rfl, rfl⟩
    case round =>
      obtain ⟨k, q, rfl, hk1, hk2, hw, hs⟩ := hrel
      have hcw : ∀ t, t < n → wr.cell? ⟨blk, off + t, none⟩ = some (.int .i32 (G t)) := by rw [hw]; exact hc
      have HW := Lib.hid hw
      have HS := Lib.hid hs
      clear hw hs hc hf
      go_wp2_with fail
      by_cases hle : k ≤ j
      · have hkn : k < n := by omega
        go_quiet (first | (go_at_call 53; refine Calls.quiet_of_same (Less9 _ _ _)))
        go_wp2
        · have hl : ltInt (G k) (G a) = true := by assumption
          go_roundw
          case rel => exact ⟨k + 1, q + nq, by go_num, by omega, by omega, by rw [HW.out, World.drewN_drewN], by rw [← HS.out, up_go hle (by show ltInt e[k]! e[a]! = true; rw [← HG.out, ← HG.out, hl])]⟩
          case measure => simp [intOf]; omega
        · have hl : ltInt (G k) (G a) = false := by assumption
          go_meet
          case rel => exact ⟨by rw [← HS.out, up_end (.inr (by show ltInt e[k]! e[a]! = false; rw [← HG.out, ← HG.out, hl]))], q + nq, by rw [HW.out, World.drewN_drewN]⟩
      · go_quiet (first | (go_at_call 53; refine Calls.quiet_of_same (Less9 _ _ _)))
        go_wp2
        go_meet
        case rel => exact ⟨by rw [← HS.out, up_end (.inl hle)], q + nq, by rw [HW.out, World.drewN_drewN]⟩
  case rest =>
    obtain ⟨rfl, q9, hq9⟩ := hcut
    have hR9 := HR.out.drewN q9
    have hc9 : ∀ t, t < n → wc.cell? ⟨blk, off + t, none⟩ = some (.int .i32 (G t)) := by rw [hq9]; exact hc
    have hf9 : ∀ t, t < n → wc.frozen? ⟨blk, off + t, none⟩ = false := by rw [hq9]; exact hf
    rw [← hq9] at hR9
    have HR9 := Lib.hid hR9
    clear hR9 hq9 hc hf HR
    obtain ⟨i2, hi2⟩ : ∃ i2, i2 = scanUp (fun x => ltInt x e[a]!) e j i := ⟨_, rfl⟩
    rw [← hi2]
    have hi3 : i ≤ i2 ∧ i2 ≤ j + 1 := by
      obtain ⟨u1, u2, _, _⟩ := Go.Sort.scanUp_spec (fun x => ltInt x e[a]!) e j _ i rfl
      rw [← hi2] at u1 u2
      exact ⟨u1, u2 hij⟩
    obtain ⟨hi4, hi5⟩ := hi3
    have HI2 := Lib.hid hi2
    clear hi2
    rename World => W2
    have hc := hc9
    have hf := hf9
    have HR := HR9
    clear hc9 hf9 HR9
    go_upto_block 2 with fail
    go_cut [11] from 46 to 62 (fun x wx => x = .int .i64 ((scanDown (fun x => (!ltInt x e[a]!)) e i2 j : Nat) : Int) ∧ ∃ q, wx = W2.drewN q)
    case first =>
      go_wp2_with fail
      go_loopw [11] (DnRel (fun x => (!ltInt x e[a]!)) e i2 j W2) (fun x _ => (intOf x).toNat)
      case atStart => exact ⟨j, 0, rfl, by omega, Nat.le_refl _, rfl, rfl⟩
      case round =>
        obtain ⟨k, q, rfl, hk1, hk2, hw, hs⟩ := hrel
        have hcw : ∀ t, t < n → wr.cell? ⟨blk, off + t, none⟩ = some (.int .i32 (G t)) := by rw [hw]; exact hc
        have HW := Lib.hid hw
        have HS := Lib.hid hs
        clear hw hs hc hf
        go_wp2_with fail
        by_cases hle : i2 ≤ k
        · obtain ⟨k, rfl⟩ : ∃ k', k = k' + 1 := ⟨k - 1, by omega⟩
          have hkn : k + 1 < n := by omega
          have hle9 : (i2 : Int) ≤ (k : Int) + 1 := by omega
          go_quiet (first | (go_at_call 53; refine Calls.quiet_of_same (Less9 _ _ _)))
          go_wp2
          · have hl0 : (!ltInt (G (k + 1)) (G a)) = true := by assumption
            have hl : ltInt (G (k + 1)) (G a) = false := by simpa using hl0
            go_roundw
            case rel => exact ⟨k, q + nq, by first | rfl | (congr 1; omega), by omega, by omega, by rw [HW.out, World.drewN_drewN], by rw [← HS.out, down_go hle (by show (!ltInt e[k + 1]! e[a]!) = true; rw [← HG.out, ← HG.out, hl]; rfl)]⟩
            case measure => simp [intOf]
          · have hl0 : (!ltInt (G (k + 1)) (G a)) = false := by assumption
            have hl : ltInt (G (k + 1)) (G a) = true := by simpa using hl0
            go_meet
            case rel => exact ⟨by rw [← HS.out, down_end (.inr (by show (!ltInt e[k + 1]! e[a]!) = false; rw [← HG.out, ← HG.out, hl]; rfl))], q + nq, by rw [HW.out, World.drewN_drewN]⟩
        · go_quiet (first | (go_at_call 53; refine Calls.quiet_of_same (Less9 _ _ _)))
          go_wp2
          go_meet
          case rel => exact ⟨by rw [← HS.out, down_end (.inl hle)], q + nq, by rw [HW.out, World.drewN_drewN]⟩
    case rest =>
      obtain ⟨rfl, q9, hq9⟩ := hcut
      have hR9 := HR.out.drewN q9
      have hc9 : ∀ t, t < n → wc.cell? ⟨blk, off + t, none⟩ = some (.int .i32 (G t)) := by rw [hq9]; exact hc
      have hf9 : ∀ t, t < n → wc.frozen? ⟨blk, off + t, none⟩ = false := by rw [hq9]; exact hf
      rw [← hq9] at hR9
      have HR9 := Lib.hid hR9
      clear hR9 hq9 hc hf HR
      obtain ⟨j2, hj2⟩ : ∃ j2, j2 = scanDown (fun x => (!ltInt x e[a]!)) e i2 j := ⟨_, rfl⟩
      rw [← hj2]
      obtain ⟨s1, s2, s3, s4, s5⟩ := scans (p := fun x => ltInt x e[a]!) (q := fun x => (!ltInt x e[a]!)) (fun x => by simp) (show 0 < i by omega) hij HI2.out hj2
      have HJ2 := Lib.hid hj2
      clear hj2
      rename World => W3
      have hc := hc9
      have hf := hf9
      have HR := HR9
      clear hc9 hf9 HR9
      have hj2n : j2 < n := by omega
      have haj : a ≤ j2 := by omega
      by_cases hle : j2 < i2
      · obtain ⟨v9, hv9⟩ := cell?_setCell_some (w := W3) (p := ⟨blk, off + j2, none⟩) (x := .int .i32 (G a)) (q := ⟨blk, off + a, none⟩) (hc a han)
        go_wp2_with fail
        go_region
        have hR0 := (HR.out.swap (i := j2) (j := a) (by omega) (by omega) (HG.out _) (HG.out _)).drew
        have hT9 : T = (j2, e) := by rw [← HO.out, pl_break HI2.out HJ2.out hle]
        have HR5 := Lib.hid hR0
        have HT9 := Lib.hid hT9
        obtain ⟨w9, hw9⟩ : ∃ W, W = ((W3.setCell ⟨blk, off + j2, none⟩ (eD (G a))).setCell ⟨blk, off + a, none⟩ (eD (G j2))).drew := ⟨_, rfl⟩
        have HR5 := HR5.out
        rw [← hw9] at HR5 ⊢
        have HR6 := Lib.hid HR5
        clear hR0 hT9 HR5 hw9 hv9 hc hf
        go_wp2_with fail
        go_ret2
        rw [HT9.out]
        exact ⟨_, rfl, HR6.out⟩
      · have hlt := s5 (by omega)
        have hi2n : i2 < n := by omega
        go_wp2_with fail
        go_region
        have hR0 := (HR.out.swap (i := i2) (j := j2) (by omega) (by omega) (HG.out _) (HG.out _)).drew
        obtain ⟨w9, hw9⟩ : ∃ W, W = ((W3.setCell ⟨blk, off + i2, none⟩ (eD (G j2))).setCell ⟨blk, off + j2, none⟩ (eD (G i2))).drew := ⟨_, rfl⟩
        rw [← hw9] at hR0
        have HR5 := Lib.hid hR0
        have HO5 : Hid (partLoop ltInt a (i2 + 1) (j2 - 1) (swp e i2 j2) = T) := Lib.hid (by rw [← pl_go HI2.out HJ2.out hle]; exact HO.out)
        clear hR0
        first | rw [← hw9] | rw [show ((W3.drew.setCell ⟨blk, off + i2, none⟩ (eD (G j2))).setCell ⟨blk, off + j2, none⟩ (eD (G i2))) = w9 from hw9.symm]
        clear hw9 hc hf
        go_wp2_with fail
        go_loopw [10, 11] (PtRel T a b blk off n w) (fun x y _ => (intOf y).toNat + 1 - (intOf x).toNat)
        case atStart => exact ⟨i2 + 1, j2 - 1, swp e i2 j2, by go_num, by congr 1; omega, by omega, by omega, by omega, by rw [size_swp]; exact hes, HR5.out, HO5.out⟩
        case round =>
          clear HR5 HO5 HI2 HJ2 HR HG HO hes hai hij hjb hjn hi4 hi5 s1 s2 s3 s4 s5 hlt hle hi2n hj2n haj
          obtain ⟨i, j, e, rfl, rfl, hai, hij, hjb, hes, hR, hO⟩ := hrel
          obtain ⟨G, hG, hc, hf⟩ := hR.fam HH.out (hes.trans hn.symm)
          rw [hn] at hc hf
          have HR := Lib.hid hR
          have HG := Lib.hid hG
          have HO := Lib.hid hO
          have hjn : j < n := by omega
          clear hR hG hO
          obtain ⟨W, hWr⟩ : ∃ W, W = wr := ⟨_, rfl⟩
          rw [← hWr] at HR hc hf ⊢
          clear hWr
          go_upto_block 6 with fail
          go_cut [10] from 99 to 114 (fun x wx => x = .int .i64 ((scanUp (fun x => ltInt x e[a]!) e j i : Nat) : Int) ∧ ∃ q, wx = W.drewN q)
          case first =>
            go_wp2_with fail
            go_loopw [10] (UpRel (fun x => ltInt x e[a]!) e i j W) (fun x _ => j + 1 - (intOf x).toNat)
            case atStart => exact ⟨i, 0, rfl, Nat.le_refl _, hij, rfl, rfl⟩
            case round =>
              obtain ⟨k, q, rfl, hk1, hk2, hw, hs⟩ := hrel
              have hcw : ∀ t, t < n → wr.cell? ⟨blk, off + t, none⟩ = some (.int .i32 (G t)) := by rw [hw]; exact hc
              have HW := Lib.hid hw
              have HS := Lib.hid hs
              clear hw hs hc hf
              go_wp2_with fail
              by_cases hle : k ≤ j
              · have hkn : k < n := by omega
                go_quiet (first | (go_at_call 53; refine Calls.quiet_of_same (Less9 _ _ _)))
                go_wp2
                · have hl : ltInt (G k) (G a) = true := by assumption
                  go_roundw
                  case rel => exact ⟨k + 1, q + nq, by go_num, by omega, by omega, by rw [HW.out, World.drewN_drewN], by rw [← HS.out, up_go hle (by show ltInt e[k]! e[a]! = true; rw [← HG.out, ← HG.out, hl])]⟩
                  case measure => simp [intOf]; omega
                · have hl : ltInt (G k) (G a) = false := by assumption
                  go_meet
                  case rel => exact ⟨by rw [← HS.out, up_end (.inr (by show ltInt e[k]! e[a]! = false; rw [← HG.out, ← HG.out, hl]))], q + nq, by rw [HW.out, World.drewN_drewN]⟩
              · go_quiet (first | (go_at_call 53; refine Calls.quiet_of_same (Less9 _ _ _)))
                go_wp2
                go_meet
                case rel => exact ⟨by rw [← HS.out, up_end (.inl hle)], q + nq, by rw [HW.out, World.drewN_drewN]⟩
          case rest =>
            obtain ⟨rfl, q9, hq9⟩ := hcut
            have hR9 := HR.out.drewN q9
            have hc9 : ∀ t, t < n → wc.cell? ⟨blk, off + t, none⟩ = some (.int .i32 (G t)) := by rw [hq9]; exact hc
            have hf9 : ∀ t, t < n → wc.frozen? ⟨blk, off + t, none⟩ = false := by rw [hq9]; exact hf
            rw [← hq9] at hR9
            have HR9 := Lib.hid hR9
            clear hR9 hq9 hc hf HR
            obtain ⟨i2, hi2⟩ : ∃ i2, i2 = scanUp (fun x => ltInt x e[a]!) e j i := ⟨_, rfl⟩
            rw [← hi2]
            have hi3 : i ≤ i2 ∧ i2 ≤ j + 1 := by
              obtain ⟨u1, u2, _, _⟩ := Go.Sort.scanUp_spec (fun x => ltInt x e[a]!) e j _ i rfl
              rw [← hi2] at u1 u2
              exact ⟨u1, u2 hij⟩
            obtain ⟨hi4, hi5⟩ := hi3
            have HI2 := Lib.hid hi2
            clear hi2
            rename World => W2
            have hc := hc9
            have hf := hf9
            have HR := HR9
            clear hc9 hf9 HR9
            go_upto_block 8 with fail
            go_cut [11] from 115 to 131 (fun x wx => x = .int .i64 ((scanDown (fun x => (!ltInt x e[a]!)) e i2 j : Nat) : Int) ∧ ∃ q, wx = W2.drewN q)
            case first =>
              go_wp2_with fail
              go_loopw [11] (DnRel (fun x => (!ltInt x e[a]!)) e i2 j W2) (fun x _ => (intOf x).toNat)
              case atStart => exact ⟨j, 0, rfl, by omega, Nat.le_refl _, rfl, rfl⟩
              case round =>
                obtain ⟨k, q, rfl, hk1, hk2, hw, hs⟩ := hrel
                have hcw : ∀ t, t < n → wr.cell? ⟨blk, off + t, none⟩ = some (.int .i32 (G t)) := by rw [hw]; exact hc
                have HW := Lib.hid hw
                have HS := Lib.hid hs
                clear hw hs hc hf
                go_wp2_with fail
                by_cases hle : i2 ≤ k
                · obtain ⟨k, rfl⟩ : ∃ k', k = k' + 1 := ⟨k - 1, by omega⟩
                  have hkn : k + 1 < n := by omega
                  have hle9 : (i2 : Int) ≤ (k : Int) + 1 := by omega
                  go_quiet (first | (go_at_call 53; refine Calls.quiet_of_same (Less9 _ _ _)))
                  go_wp2
                  · have hl0 : (!ltInt (G (k + 1)) (G a)) = true := by assumption
                    have hl : ltInt (G (k + 1)) (G a) = false := by simpa using hl0
                    go_roundw
                    case rel => exact ⟨k, q + nq, by first | rfl | (congr 1; omega), by omega, by omega, by rw [HW.out, World.drewN_drewN], by rw [← HS.out, down_go hle (by show (!ltInt e[k + 1]! e[a]!) = true; rw [← HG.out, ← HG.out, hl]; rfl)]⟩
                    case measure => simp [intOf]
                  · have hl0 : (!ltInt (G (k + 1)) (G a)) = false := by assumption
                    have hl : ltInt (G (k + 1)) (G a) = true := by simpa using hl0
                    go_meet
                    case rel => exact ⟨by rw [← HS.out, down_end (.inr (by show (!ltInt e[k + 1]! e[a]!) = false; rw [← HG.out, ← HG.out, hl]; rfl))], q + nq, by rw [HW.out, World.drewN_drewN]⟩
                · go_quiet (first | (go_at_call 53; refine Calls.quiet_of_same (Less9 _ _ _)))
                  go_wp2
                  go_meet
                  case rel => exact ⟨by rw [← HS.out, down_end (.inl hle)], q + nq, by rw [HW.out, World.drewN_drewN]⟩
            case rest =>
              obtain ⟨rfl, q9, hq9⟩ := hcut
              have hR9 := HR.out.drewN q9
              have hc9 : ∀ t, t < n → wc.cell? ⟨blk, off + t, none⟩ = some (.int .i32 (G t)) := by rw [hq9]; exact hc
              have hf9 : ∀ t, t < n → wc.frozen? ⟨blk, off + t, none⟩ = false := by rw [hq9]; exact hf
              rw [← hq9] at hR9
              have HR9 := Lib.hid hR9
              clear hR9 hq9 hc hf HR
              obtain ⟨j2, hj2⟩ : ∃ j2, j2 = scanDown (fun x => (!ltInt x e[a]!)) e i2 j := ⟨_, rfl⟩
              rw [← hj2]
              obtain ⟨s1, s2, s3, s4, s5⟩ := scans (p := fun x => ltInt x e[a]!) (q := fun x => (!ltInt x e[a]!)) (fun x => by simp) (show 0 < i by omega) hij HI2.out hj2
              have HJ2 := Lib.hid hj2
              clear hj2
              rename World => W3
              have hc := hc9
              have hf := hf9
              have HR := HR9
              clear hc9 hf9 HR9
              have hj2n : j2 < n := by omega
              have haj : a ≤ j2 := by omega
              by_cases hle : j2 < i2
              · obtain ⟨v9, hv9⟩ := cell?_setCell_some (w := W3) (p := ⟨blk, off + j2, none⟩) (x := .int .i32 (G a)) (q := ⟨blk, off + a, none⟩) (hc a han)
                go_wp2_with fail
                go_region
                have hR0 := (HR.out.swap (i := j2) (j := a) (by omega) (by omega) (HG.out _) (HG.out _)).drew
                have hT9 : T = (j2, e) := by rw [← HO.out, pl_break HI2.out HJ2.out hle]
                have HR5 := Lib.hid hR0
                have HT9 := Lib.hid hT9
                obtain ⟨w9, hw9⟩ : ∃ W, W = ((W3.setCell ⟨blk, off + j2, none⟩ (eD (G a))).setCell ⟨blk, off + a, none⟩ (eD (G j2))).drew := ⟨_, rfl⟩
                have HR5 := HR5.out
                rw [← hw9] at HR5 ⊢
                have HR6 := Lib.hid HR5
                clear hR0 hT9 HR5 hw9 hv9 hc hf
                go_wp2_with fail
                go_ret2
                rw [HT9.out]
                exact ⟨_, rfl, HR6.out⟩
              · have hlt := s5 (by omega)
                have hi2n : i2 < n := by omega
                go_wp2_with fail
                go_region
                have hR0 := (HR.out.swap (i := i2) (j := j2) (by omega) (by omega) (HG.out _) (HG.out _)).drew
                obtain ⟨w9, hw9⟩ : ∃ W, W = ((W3.setCell ⟨blk, off + i2, none⟩ (eD (G j2))).setCell ⟨blk, off + j2, none⟩ (eD (G i2))).drew := ⟨_, rfl⟩
                rw [← hw9] at hR0
                have HR5 := Lib.hid hR0
                have HO5 : Hid (partLoop ltInt a (i2 + 1) (j2 - 1) (swp e i2 j2) = T) := Lib.hid (by rw [← pl_go HI2.out HJ2.out hle]; exact HO.out)
                clear hR0
                first | rw [← hw9] | rw [show ((W3.drew.setCell ⟨blk, off + i2, none⟩ (eD (G j2))).setCell ⟨blk, off + j2, none⟩ (eD (G i2))) = w9 from hw9.symm]
                clear hw9 hc hf
                go_wp2_with fail
                go_roundw
                case rel => exact ⟨i2 + 1, j2 - 1, swp e i2 j2, by go_num, by congr 1; omega, by omega, by omega, by omega, by rw [size_swp]; exact hes, HR5.out, HO5.out⟩
                case measure => simp [intOf]; omega
end Go.Proofs.YtkhjmbemjndcoaaGreatDoor
