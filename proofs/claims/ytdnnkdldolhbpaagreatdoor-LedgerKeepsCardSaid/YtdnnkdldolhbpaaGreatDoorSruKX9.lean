/-
The library's sort over uint32, IX: the parting, with a pivot. Conditions: the row lies there.
The library's sort over uint32, X: a row that is nearly sorted. Conditions: the row lies there.
The library's sort over uint32, XI: the whole. Conditions: the row lies there.
-/
import Derived.Test.YtdnnkdldolhbpaaGreatDoorSruGX9
namespace Go.Proofs.YtdnnkdldolhbpaaGreatDoor.U32
open Go.RowKit
open Go.Sort (putRow Holds swp ltInt PermIn size_swp scanUp scanDown partLoop partition)
def PtRel (T : Nat × Array Int) (a b blk off n : Nat) (w : World) (x y : Value) (w' : World) : Prop :=
  ∃ i j : Nat, ∃ e : Array Int, x = .int .i64 i ∧ y = .int .i64 j ∧ a < i ∧ i ≤ j + 1 ∧ j < b ∧ e.size = n ∧ Rw9 w blk off e w' ∧ partLoop ltInt a i j e = T
set_option maxRecDepth 20000 in
set_option maxHeartbeats 8000000 in
theorem Part9 (n blk off cap a b pivot : Nat) (d : Array Int) (w : World) (hn : d.size = n) (hH : Holds eD w blk off d) (hap : a ≤ pivot) (hpb : pivot < b) (hb : b ≤ n) (hsz : n ≤ 1000000) :
    Calls Tryz.prog 123 #[.slice (some ⟨blk, off, none⟩) n cap, .int .i64 a, .int .i64 b, .int .i64 pivot] w fun e w' =>
      ∃ q : Bool, e = .returned (.tuple #[.int .i64 ((partition ltInt d a b pivot).1 : Nat), .bool q]) ∧ Rw9 w blk off (partition ltInt d a b pivot).2.2 w' := by
  rw [Go.Sort.partition_fst, Go.Sort.partition_arr]
  obtain ⟨T, hT⟩ : ∃ T, partLoop ltInt a (a + 1) (b - 1) (swp d a pivot) = T := ⟨_, rfl⟩
  rw [hT]
  obtain ⟨G, hG, hc, hf⟩ := (Rw9.refl hH).fam hH rfl
  rw [hn] at hc hf
  have han : a < n := by omega
  have hpn : pivot < n := by omega
  obtain ⟨v9, hv9⟩ := cell?_setCell_some (w := w) (p := ⟨blk, off + a, none⟩) (x := .int .u32 (G pivot)) (q := ⟨blk, off + pivot, none⟩) (hc pivot hpn)
  have HH := Lib.hid hH
  have HG := Lib.hid hG
  have HT := Lib.hid hT
  clear hH hG hT
  go_enter Tryz.func123, Tryz.ntmps123
  go_wp2
  go_region
  have hR0 := ((Rw9.refl HH.out).swap (i := a) (j := pivot) (by omega) (by omega) (HG.out _) (HG.out _)).drew
  obtain ⟨W, hw0⟩ : ∃ W, W = ((w.setCell ⟨blk, off + a, none⟩ (eD (G pivot))).setCell ⟨blk, off + pivot, none⟩ (eD (G a))).drew := ⟨_, rfl⟩
  rw [← hw0] at hR0 ⊢
  obtain ⟨i, hi⟩ : ∃ i : Nat, i = a + 1 := ⟨_, rfl⟩
  obtain ⟨j, hj⟩ : ∃ j : Nat, j + 1 = b := ⟨b - 1, by omega⟩
  obtain ⟨e, he⟩ : ∃ e, e = swp d a pivot := ⟨_, rfl⟩
  rw [← he] at hR0
  have HO : Hid (partLoop ltInt a i j e = T) := Lib.hid (by rw [hi, he, show j = b - 1 by omega]; exact HT.out)
  have hes : e.size = n := by rw [he, size_swp]; exact hn
  have hai : a < i := by omega
  have hij : i ≤ j + 1 := by omega
  have hjb : j < b := by omega
  have hjn : j < n := by omega
  have HIJ := Lib.hid (show ((a : Int) + 1 = (i : Int)) ∧ ((b : Int) - 1 = (j : Int)) by omega)
  clear hw0 hc hf HG hv9 hi hj he HT
  obtain ⟨G, hG, hc, hf⟩ := hR0.fam HH.out (hes.trans hn.symm)
  rw [hn] at hc hf
  have HR := Lib.hid hR0
  have HG := Lib.hid hG
  clear hR0 hG
  go_upto_block 0 with fail
  rw [HIJ.out.1, HIJ.out.2]
  go_cut [10] from 30 to 45 (fun x wx => x = .int .i64 ((scanUp (fun x => ltInt x e[a]!) e j i : Nat) : Int) ∧ ∃ q, wx = W.drewN q)
  case first =>
    go_wp2_with fail
    go_loopw [10] (UpRel (fun x => ltInt x e[a]!) e i j W) (fun x _ => j + 1 - (intOf x).toNat)
    case atStart => exact ⟨i, 0, rfl, Nat.le_refl _, hij, rfl, rfl⟩
    case round =>
      obtain ⟨k, q, rfl, hk1, hk2, hw, hs⟩ := hrel
      have hcw : ∀ t, t < n → wr.cell? ⟨blk, off + t, none⟩ = some (.int .u32 (G t)) := by rw [hw]; exact hc
      have HW := Lib.hid hw
      have HS := Lib.hid hs
      clear hw hs hc hf
      go_wp2_with fail
      by_cases hle : k ≤ j
      · have hkn : k < n := by omega
        go_quiet (first | (go_at_call 121; refine Calls.quiet_of_same (Less9 _ _ _)))
        go_wp2
        · have hl : ltInt (G k) (G a) = true := by assumption
          go_roundw
          case rel => exact ⟨k + 1, q + nq, by go_num, by omega, by omega, by rw [HW.out, World.drewN_drewN], by rw [← HS.out, up_go hle (by show ltInt e[k]! e[a]! = true; rw [← HG.out, ← HG.out, hl])]⟩
          case measure => simp [intOf]; omega
        · have hl : ltInt (G k) (G a) = false := by assumption
          go_meet
          case rel => exact ⟨by rw [← HS.out, up_end (.inr (by show ltInt e[k]! e[a]! = false; rw [← HG.out, ← HG.out, hl]))], q + nq, by rw [HW.out, World.drewN_drewN]⟩
      · go_quiet (first | (go_at_call 121; refine Calls.quiet_of_same (Less9 _ _ _)))
        go_wp2
        go_meet
        case rel => exact ⟨by rw [← HS.out, up_end (.inl hle)], q + nq, by rw [HW.out, World.drewN_drewN]⟩
  case rest =>
    obtain ⟨rfl, q9, hq9⟩ := hcut
    have hR9 := HR.out.drewN q9
    have hc9 : ∀ t, t < n → wc.cell? ⟨blk, off + t, none⟩ = some (.int .u32 (G t)) := by rw [hq9]; exact hc
    have hf9 : ∀ t, t < n → wc.frozen? ⟨blk, off + t, none⟩ = false := by rw [hq9]; exact hf
    rw [← hq9] at hR9
    have HR9 := Lib.hid hR9
    clear hR9 hq9 hc hf HR
    obtain ⟨i2, hi2⟩ : ∃ i2, i2 = scanUp (fun x => ltInt x e[a]!) e j i := ⟨_, rfl⟩
    rw [← hi2]
    have hi3 : i ≤ i2 ∧ i2 ≤ j + 1 := by
      obtain ⟨u1, u2, _, _⟩ := Go.Sort.scanUp_spec (fun x => ltInt x e[a]!) e j _ i rfl
      rw [← hi2] at u1 u2
      exact ⟨u1, u2 hij⟩
    obtain ⟨hi4, hi5⟩ := hi3
    have HI2 := Lib.hid hi2
    clear hi2
    rename World => W2
    have hc := hc9
    have hf := hf9
    have HR := HR9
    clear hc9 hf9 HR9
    go_upto_block 2 with fail
    go_cut [11] from 46 to 62 (fun x wx => x = .int .i64 ((scanDown (fun x => (!ltInt x e[a]!)) e i2 j : Nat) : Int) ∧ ∃ q, wx = W2.drewN q)
    case first =>
      go_wp2_with fail
      go_loopw [11] (DnRel (fun x => (!ltInt x e[a]!)) e i2 j W2) (fun x _ => (intOf x).toNat)
      case atStart => exact ⟨j, 0, rfl, by omega, Nat.le_refl _, rfl, rfl⟩
      case round =>
        obtain ⟨k, q, rfl, hk1, hk2, hw, hs⟩ := hrel
        have hcw : ∀ t, t < n → wr.cell? ⟨blk, off + t, none⟩ = some (.int .u32 (G t)) := by rw [hw]; exact hc
        have HW := Lib.hid hw
        have HS := Lib.hid hs
        clear hw hs hc hf
        go_wp2_with fail
        by_cases hle : i2 ≤ k
        · obtain ⟨k, rfl⟩ : ∃ k', k = k' + 1 := ⟨k - 1, by omega⟩
          have hkn : k + 1 < n := by omega
          have hle9 : (i2 : Int) ≤ (k : Int) + 1 := by omega
          go_quiet (first | (go_at_call 121; refine Calls.quiet_of_same (Less9 _ _ _)))
          go_wp2
          · have hl0 : (!ltInt (G (k + 1)) (G a)) = true := by assumption
            have hl : ltInt (G (k + 1)) (G a) = false := by simpa using hl0
            go_roundw
            case rel => exact ⟨k, q + nq, by first | rfl | (congr 1; omega), by omega, by omega, by rw [HW.out, World.drewN_drewN], by rw [← HS.out, down_go hle (by show (!ltInt e[k + 1]! e[a]!) = true; rw [← HG.out, ← HG.out, hl]; rfl)]⟩
            case measure => simp [intOf]
          · have hl0 : (!ltInt (G (k + 1)) (G a)) = false := by assumption
            have hl : ltInt (G (k + 1)) (G a) = true := by simpa using hl0
            go_meet
            case rel => exact ⟨by rw [← HS.out, down_end (.inr (by show (!ltInt e[k + 1]! e[a]!) = false; rw [← HG.out, ← HG.out, hl]; rfl))], q + nq, by rw [HW.out, World.drewN_drewN]⟩
        · go_quiet (first | (go_at_call 121; refine Calls.quiet_of_same (Less9 _ _ _)))
          go_wp2
          go_meet
          case rel => exact ⟨by rw [← HS.out, down_end (.inl hle)], q + nq, by rw [HW.out, World.drewN_drewN]⟩
    case rest =>
      obtain ⟨rfl, q9, hq9⟩ := hcut
      have hR9 := HR.out.drewN q9
      have hc9 : ∀ t, t < n → wc.cell? ⟨blk, off + t, none⟩ = some (.int .u32 (G t)) := by rw [hq9]; exact hc
      have hf9 : ∀ t, t < n → wc.frozen? ⟨blk, off + t, none⟩ = false := by rw [hq9]; exact hf
      rw [← hq9] at hR9
      have HR9 := Lib.hid hR9
      clear hR9 hq9 hc hf HR
      obtain ⟨j2, hj2⟩ : ∃ j2, j2 = scanDown (fun x => (!ltInt x e[a]!)) e i2 j := ⟨_, rfl⟩
      rw [← hj2]
      obtain ⟨s1, s2, s3, s4, s5⟩ := scans (p := fun x => ltInt x e[a]!) (q := fun x => (!ltInt x e[a]!)) (fun x => by simp) (show 0 < i by omega) hij HI2.out hj2
      have HJ2 := Lib.hid hj2
      clear hj2
      rename World => W3
      have hc := hc9
      have hf := hf9
      have HR := HR9
      clear hc9 hf9 HR9
      have hj2n : j2 < n := by omega
      have haj : a ≤ j2 := by omega
      by_cases hle : j2 < i2
      · obtain ⟨v9, hv9⟩ := cell?_setCell_some (w := W3) (p := ⟨blk, off + j2, none⟩) (x := .int .u32 (G a)) (q := ⟨blk, off + a, none⟩) (hc a han)
        go_wp2_with fail
        go_region
        have hR0 := (HR.out.swap (i := j2) (j := a) (by omega) (by omega) (HG.out _) (HG.out _)).drew
        have hT9 : T = (j2, e) := by rw [← HO.out, pl_break HI2.out HJ2.out hle]
        have HR5 := Lib.hid hR0
        have HT9 := Lib.hid hT9
        obtain ⟨w9, hw9⟩ : ∃ W, W = ((W3.setCell ⟨blk, off + j2, none⟩ (eD (G a))).setCell ⟨blk, off + a, none⟩ (eD (G j2))).drew := ⟨_, rfl⟩
        have HR5 := HR5.out
        rw [← hw9] at HR5 ⊢
        have HR6 := Lib.hid HR5
        clear hR0 hT9 HR5 hw9 hv9 hc hf
        go_wp2_with fail
        go_ret2
        rw [HT9.out]
        exact ⟨_, rfl, HR6.out⟩
      · have hlt := s5 (by omega)
        have hi2n : i2 < n := by omega
        go_wp2_with fail
        go_region
        have hR0 := (HR.out.swap (i := i2) (j := j2) (by omega) (by omega) (HG.out _) (HG.out _)).drew
        obtain ⟨w9, hw9⟩ : ∃ W, W = ((W3.setCell ⟨blk, off + i2, none⟩ (eD (G j2))).setCell ⟨blk, off + j2, none⟩ (eD (G i2))).drew := ⟨_, rfl⟩
        rw [← hw9] at hR0
        have HR5 := Lib.hid hR0
        have HO5 : Hid (partLoop ltInt a (i2 + 1) (j2 - 1) (swp e i2 j2) = T) := Lib.hid (by rw [← pl_go HI2.out HJ2.out hle]; exact HO.out)
        clear hR0
        first | rw [← hw9] | rw [show ((W3.drew.setCell ⟨blk, off + i2, none⟩ (eD (G j2))).setCell ⟨blk, off + j2, none⟩ (eD (G i2))) = w9 from hw9.symm]
        clear hw9 hc hf
        go_wp2_with fail
        go_loopw [10, 11] (PtRel T a b blk off n w) (fun x y _ => (intOf y).toNat + 1 - (intOf x).toNat)
        case atStart => exact ⟨i2 + 1, j2 - 1, swp e i2 j2, by go_num, by congr 1; omega, by omega, by omega, by omega, by rw [size_swp]; exact hes, HR5.out, HO5.out⟩
        case round =>
          clear HR5 HO5 HI2 HJ2 HR HG HO hes hai hij hjb hjn hi4 hi5 s1 s2 s3 s4 s5 hlt hle hi2n hj2n haj
          obtain ⟨i, j, e, rfl, rfl, hai, hij, hjb, hes, hR, hO⟩ := hrel
          obtain ⟨G, hG, hc, hf⟩ := hR.fam HH.out (hes.trans hn.symm)
          rw [hn] at hc hf
          have HR := Lib.hid hR
          have HG := Lib.hid hG
          have HO := Lib.hid hO
          have hjn : j < n := by omega
          clear hR hG hO
          obtain ⟨W, hWr⟩ : ∃ W, W = wr := ⟨_, rfl⟩
          rw [← hWr] at HR hc hf ⊢
          clear hWr
          go_upto_block 6 with fail
          go_cut [10] from 99 to 114 (fun x wx => x = .int .i64 ((scanUp (fun x => ltInt x e[a]!) e j i : Nat) : Int) ∧ ∃ q, wx = W.drewN q)
          case first =>
            go_wp2_with fail
            go_loopw [10] (UpRel (fun x => ltInt x e[a]!) e i j W) (fun x _ => j + 1 - (intOf x).toNat)
            case atStart => exact ⟨i, 0, rfl, Nat.le_refl _, hij, rfl, rfl⟩
            case round =>
              obtain ⟨k, q, rfl, hk1, hk2, hw, hs⟩ := hrel
              have hcw : ∀ t, t < n → wr.cell? ⟨blk, off + t, none⟩ = some (.int .u32 (G t)) := by rw [hw]; exact hc
              have HW := Lib.hid hw
              have HS := Lib.hid hs
              clear hw hs hc hf
              go_wp2_with fail
              by_cases hle : k ≤ j
              · have hkn : k < n := by omega
                go_quiet (first | (go_at_call 121; refine Calls.quiet_of_same (Less9 _ _ _)))
                go_wp2
                · have hl : ltInt (G k) (G a) = true := by assumption
                  go_roundw
                  case rel => exact ⟨k + 1, q + nq, by go_num, by omega, by omega, by rw [HW.out, World.drewN_drewN], by rw [← HS.out, up_go hle (by show ltInt e[k]! e[a]! = true; rw [← HG.out, ← HG.out, hl])]⟩
                  case measure => simp [intOf]; omega
                · have hl : ltInt (G k) (G a) = false := by assumption
                  go_meet
                  case rel => exact ⟨by rw [← HS.out, up_end (.inr (by show ltInt e[k]! e[a]! = false; rw [← HG.out, ← HG.out, hl]))], q + nq, by rw [HW.out, World.drewN_drewN]⟩
              · go_quiet (first | (go_at_call 121; refine Calls.quiet_of_same (Less9 _ _ _)))
                go_wp2
                go_meet
                case rel => exact ⟨by rw [← HS.out, up_end (.inl hle)], q + nq, by rw [HW.out, World.drewN_drewN]⟩
          case rest =>
            obtain ⟨rfl, q9, hq9⟩ := hcut
            have hR9 := HR.out.drewN q9
            have hc9 : ∀ t, t < n → wc.cell? ⟨blk, off + t, none⟩ = some (.int .u32 (G t)) := by rw [hq9]; exact hc
            have hf9 : ∀ t, t < n → wc.frozen? ⟨blk, off + t, none⟩ = false := by rw [hq9]; exact hf
            rw [← hq9] at hR9
            have HR9 := Lib.hid hR9
            clear hR9 hq9 hc hf HR
            obtain ⟨i2, hi2⟩ : ∃ i2, i2 = scanUp (fun x => ltInt x e[a]!) e j i := ⟨_, rfl⟩
            rw [← hi2]
            have hi3 : i ≤ i2 ∧ i2 ≤ j + 1 := by
              obtain ⟨u1, u2, _, _⟩ := Go.Sort.scanUp_spec (fun x => ltInt x e[a]!) e j _ i rfl
              rw [← hi2] at u1 u2
              exact ⟨u1, u2 hij⟩
            obtain ⟨hi4, hi5⟩ := hi3
            have HI2 := Lib.hid hi2
            clear hi2
            rename World => W2
            have hc := hc9
            have hf := hf9
            have HR := HR9
            clear hc9 hf9 HR9
            go_upto_block 8 with fail
            go_cut [11] from 115 to 131 (fun x wx => x = .int .i64 ((scanDown (fun x => (!ltInt x e[a]!)) e i2 j : Nat) : Int) ∧ ∃ q, wx = W2.drewN q)
            case first =>
              go_wp2_with fail
              go_loopw [11] (DnRel (fun x => (!ltInt x e[a]!)) e i2 j W2) (fun x _ => (intOf x).toNat)
              case atStart => exact ⟨j, 0, rfl, by omega, Nat.le_refl _, rfl, rfl⟩
              case round =>
                obtain ⟨k, q, rfl, hk1, hk2, hw, hs⟩ := hrel
                have hcw : ∀ t, t < n → wr.cell? ⟨blk, off + t, none⟩ = some (.int .u32 (G t)) := by rw [hw]; exact hc
                have HW := Lib.hid hw
                have HS := Lib.hid hs
                clear hw hs hc hf
                go_wp2_with fail
                by_cases hle : i2 ≤ k
                · obtain ⟨k, rfl⟩ : ∃ k', k = k' + 1 := ⟨k - 1, by omega⟩
                  have hkn : k + 1 < n := by omega
                  have hle9 : (i2 : Int) ≤ (k : Int) + 1 := by omega
                  go_quiet (first | (go_at_call 121; refine Calls.quiet_of_same (Less9 _ _ _)))
                  go_wp2
                  · have hl0 : (!ltInt (G (k + 1)) (G a)) = true := by assumption
                    have hl : ltInt (G (k + 1)) (G a) = false := by simpa using hl0
                    go_roundw
                    case rel => exact ⟨k, q + nq, by first | rfl | (congr 1; omega), by omega, by omega, by rw [HW.out, World.drewN_drewN], by rw [← HS.out, down_go hle (by show (!ltInt e[k + 1]! e[a]!) = true; rw [← HG.out, ← HG.out, hl]; rfl)]⟩
                    case measure => simp [intOf]
                  · have hl0 : (!ltInt (G (k + 1)) (G a)) = false := by assumption
                    have hl : ltInt (G (k + 1)) (G a) = true := by simpa using hl0
                    go_meet
                    case rel => exact ⟨by rw [← HS.out, down_end (.inr (by show (!ltInt e[k + 1]! e[a]!) = false; rw [← HG.out, ← HG.out, hl]; rfl))], q + nq, by rw [HW.out, World.drewN_drewN]⟩
                · go_quiet (first | (go_at_call 121; refine Calls.quiet_of_same (Less9 _ _ _)))
                  go_wp2
                  go_meet
                  case rel => exact ⟨by rw [← HS.out, down_end (.inl hle)], q + nq, by rw [HW.out, World.drewN_drewN]⟩
            case rest =>
              obtain ⟨rfl, q9, hq9⟩ := hcut
              have hR9 := HR.out.drewN q9
              have hc9 : ∀ t, t < n → wc.cell? ⟨blk, off + t, none⟩ = some (.int .u32 (G t)) := by rw [hq9]; exact hc
              have hf9 : ∀ t, t < n → wc.frozen? ⟨blk, off + t, none⟩ = false := by rw [hq9]; exact hf
              rw [← hq9] at hR9
              have HR9 := Lib.hid hR9
              clear hR9 hq9 hc hf HR
              obtain ⟨j2, hj2⟩ : ∃ j2, j2 = scanDown (fun x => (!ltInt x e[a]!)) e i2 j := ⟨_, rfl⟩
              rw [← hj2]
              obtain ⟨s1, s2, s3, s4, s5⟩ := scans (p := fun x => ltInt x e[a]!) (q := fun x => (!ltInt x e[a]!)) (fun x => by simp) (show 0 < i by omega) hij HI2.out hj2
              have HJ2 := Lib.hid hj2
              clear hj2
              rename World => W3
              have hc := hc9
              have hf := hf9
              have HR := HR9
              clear hc9 hf9 HR9
              have hj2n : j2 < n := by omega
              have haj : a ≤ j2 := by omega
              by_cases hle : j2 < i2
              · obtain ⟨v9, hv9⟩ := cell?_setCell_some (w := W3) (p := ⟨blk, off + j2, none⟩) (x := .int .u32 (G a)) (q := ⟨blk, off + a, none⟩) (hc a han)
                go_wp2_with fail
                go_region
                have hR0 := (HR.out.swap (i := j2) (j := a) (by omega) (by omega) (HG.out _) (HG.out _)).drew
                have hT9 : T = (j2, e) := by rw [← HO.out, pl_break HI2.out HJ2.out hle]
                have HR5 := Lib.hid hR0
                have HT9 := Lib.hid hT9
                obtain ⟨w9, hw9⟩ : ∃ W, W = ((W3.setCell ⟨blk, off + j2, none⟩ (eD (G a))).setCell ⟨blk, off + a, none⟩ (eD (G j2))).drew := ⟨_, rfl⟩
                have HR5 := HR5.out
                rw [← hw9] at HR5 ⊢
                have HR6 := Lib.hid HR5
                clear hR0 hT9 HR5 hw9 hv9 hc hf
                go_wp2_with fail
                go_ret2
                rw [HT9.out]
                exact ⟨_, rfl, HR6.out⟩
              · have hlt := s5 (by omega)
                have hi2n : i2 < n := by omega
                go_wp2_with fail
                go_region
                have hR0 := (HR.out.swap (i := i2) (j := j2) (by omega) (by omega) (HG.out _) (HG.out _)).drew
                obtain ⟨w9, hw9⟩ : ∃ W, W = ((W3.setCell ⟨blk, off + i2, none⟩ (eD (G j2))).setCell ⟨blk, off + j2, none⟩ (eD (G i2))).drew := ⟨_, rfl⟩
                rw [← hw9] at hR0
                have HR5 := Lib.hid hR0
                have HO5 : Hid (partLoop ltInt a (i2 + 1) (j2 - 1) (swp e i2 j2) = T) := Lib.hid (by rw [← pl_go HI2.out HJ2.out hle]; exact HO.out)
                clear hR0
                first | rw [← hw9] | rw [show ((W3.drew.setCell ⟨blk, off + i2, none⟩ (eD (G j2))).setCell ⟨blk, off + j2, none⟩ (eD (G i2))) = w9 from hw9.symm]
                clear hw9 hc hf
                go_wp2_with fail
                go_roundw
                case rel => exact ⟨i2 + 1, j2 - 1, swp e i2 j2, by go_num, by congr 1; omega, by omega, by omega, by omega, by rw [size_swp]; exact hes, HR5.out, HO5.out⟩
                case measure => simp [intOf]; omega
end Go.Proofs.YtdnnkdldolhbpaaGreatDoor.U32
namespace Go.Proofs.YtdnnkdldolhbpaaGreatDoor.U32
open Go.RowKit
open Go.Sort (putRow Holds swp ltInt PermIn size_swp scanSorted shiftDown shiftUp partialIns partialInsertionSort fixDown fixUp)

theorem so_go {d : Array Int} {b i : Nat} (h : i < b) (hp : ltInt d[i]! d[i - 1]! = false) : scanSorted ltInt d b i = scanSorted ltInt d b (i + 1) := by rw [scanSorted, if_pos (by simp [h, hp])]
theorem so_end {d : Array Int} {b i : Nat} (h : ¬ i < b ∨ ltInt d[i]! d[i - 1]! = true) : scanSorted ltInt d b i = i := by rw [scanSorted, if_neg (by rcases h with h | h <;> simp [h])]
theorem sdn_go {d : Array Int} {j : Nat} (h : ltInt d[j + 1]! d[j]! = true) : shiftDown ltInt (j + 1) d = shiftDown ltInt j (swp d (j + 1) j) := by rw [shiftDown, if_neg (by rw [h]; simp)]
theorem sdn_end {d : Array Int} {j : Nat} (h : ltInt d[j + 1]! d[j]! = false) : shiftDown ltInt (j + 1) d = d := by rw [shiftDown, if_pos (by rw [h]; rfl)]
theorem sup_go {d : Array Int} {b j : Nat} (hb : j < b) (h : ltInt d[j]! d[j - 1]! = true) : shiftUp ltInt b j d = shiftUp ltInt b (j + 1) (swp d j (j - 1)) := by rw [shiftUp, if_pos hb, if_neg (by rw [h]; simp)]
theorem sup_end {d : Array Int} {b j : Nat} (h : ¬ j < b ∨ ltInt d[j]! d[j - 1]! = false) : shiftUp ltInt b j d = d := by
  rw [shiftUp]
  rcases h with h | h
  · rw [if_neg h]
  · split
    · rw [if_pos (by rw [h]; rfl)]
    · rfl
theorem so_in (d : Array Int) (b : Nat) : ∀ (n i : Nat), b - i = n → i ≤ b → i ≤ scanSorted ltInt d b i ∧ scanSorted ltInt d b i ≤ b := by
  intro n
  induction n with
  | zero => intro i h1 h2; rw [so_end (.inl (by omega))]; omega
  | succ n ih =>
    intro i h1 h2
    cases h : ltInt d[i]! d[i - 1]! with
    | true => rw [so_end (.inr h)]; omega
    | false => rw [so_go (by omega) h]; have := ih (i + 1) (by omega) (by omega); omega
theorem sdn_size : ∀ (j : Nat) (d : Array Int), (shiftDown ltInt j d).size = d.size
  | 0, d => rfl
  | j + 1, d => by
    cases h : ltInt d[j + 1]! d[j]! with
    | true => rw [sdn_go h, sdn_size j, size_swp]
    | false => rw [sdn_end h]
theorem sup_size (b : Nat) : ∀ (n j : Nat) (d : Array Int), b - j = n → (shiftUp ltInt b j d).size = d.size := by
  intro n
  induction n with
  | zero => intro j d h; rw [sup_end (.inl (by omega))]
  | succ n ih =>
    intro j d hj
    cases h : ltInt d[j]! d[j - 1]! with
    | true => rw [sup_go (by omega) h, ih _ _ (by omega), size_swp]
    | false => rw [sup_end (.inr h)]
theorem fdn_size (a i : Nat) (d : Array Int) : (fixDown ltInt a i d).size = d.size := by unfold fixDown; split; exact sdn_size _ _; rfl
theorem fup_size (b i : Nat) (d : Array Int) : (fixUp ltInt b i d).size = d.size := by unfold fixUp; split; exact sup_size _ _ _ _ rfl; rfl
def SoRel (e : Array Int) (i b : Nat) (w : World) (x : Value) (w' : World) : Prop := ∃ k q : Nat, x = .int .i64 k ∧ i ≤ k ∧ k ≤ b ∧ w' = w.drewN q ∧ scanSorted ltInt e b k = scanSorted ltInt e b i
def SnRel (n i blk off : Nat) (w : World) (T : Array Int) (x : Value) (w' : World) : Prop := ∃ k : Nat, ∃ f : Array Int, x = .int .i64 k ∧ k ≤ i ∧ f.size = n ∧ Rw9 w blk off f w' ∧ shiftDown ltInt k f = T
def SuRel (n i b blk off : Nat) (w : World) (T : Array Int) (x : Value) (w' : World) : Prop := ∃ k : Nat, ∃ f : Array Int, x = .int .i64 k ∧ i < k ∧ k ≤ b ∧ f.size = n ∧ Rw9 w blk off f w' ∧ shiftUp ltInt b k f = T
def PiRel (n a b blk off : Nat) (w : World) (T : Array Int × Bool) (x y : Value) (w' : World) : Prop := ∃ i s : Nat, ∃ e : Array Int, x = .int .i64 i ∧ y = .int .i64 (5 - (s : Int)) ∧ s ≤ 5 ∧ a < i ∧ i ≤ b ∧ e.size = n ∧ Rw9 w blk off e w' ∧ partialIns ltInt a b s i e = T

set_option maxRecDepth 20000 in
set_option maxHeartbeats 8000000 in
theorem PIns9 (n blk off cap a b : Nat) (d : Array Int) (w : World) (hn : d.size = n) (hH : Holds eD w blk off d) (hab : a + 12 < b) (hb : b ≤ n) (hsz : n ≤ 1000000) :
    Calls Tryz.prog 120 #[.slice (some ⟨blk, off, none⟩) n cap, .int .i64 a, .int .i64 b] w fun e w' =>
      e = .returned (.bool (partialInsertionSort ltInt d a b).2) ∧ Rw9 w blk off (partialInsertionSort ltInt d a b).1 w' := by
  obtain ⟨T, hT⟩ : ∃ T, partialIns ltInt a b 5 (a + 1) d = T := ⟨_, rfl⟩
  have hE : partialInsertionSort ltInt d a b = T := hT
  rw [hE]
  have HT := Lib.hid hT
  have HH := Lib.hid hH
  clear hH hE hT
  go_enter Tryz.func120, Tryz.ntmps120
  go_wp2_with fail
  go_loopw [7, 8] (PiRel n a b blk off w T) (fun _ y _ => (5 - intOf y).toNat)
  case atStart => exact ⟨a + 1, 5, d, by go_num, rfl, Nat.le_refl _, by omega, by omega, hn, Rw9.refl HH.out, HT.out⟩
  case round =>
    clear HT
    obtain ⟨i, s, e, rfl, rfl, hs5, hai, hib, hes, hR, hO⟩ := hrel
    have HR := Lib.hid hR
    have HO := Lib.hid hO
    clear hR hO
    rcases s with _ | s
    · have HO2 : Hid ((e, false) = T) := Lib.hid HO.out
      rw [show (5 : Int) - ((0 : Nat) : Int) = 5 from rfl]
      go_wp2_with fail
      go_ret
      rw [← HO2.out]
      exact ⟨rfl, HR.out⟩
    · obtain ⟨G, hG, hc, hf⟩ := HR.out.fam HH.out (hes.trans hn.symm)
      rw [hn] at hc hf
      have HG := Lib.hid hG
      clear hG
      obtain ⟨jn, hjn⟩ : ∃ jn : Int, jn = 5 - ((s + 1 : Nat) : Int) := ⟨_, rfl⟩
      rw [← hjn]
      have hj5 : jn < 5 := by omega
      have hj0 : 0 ≤ jn := by omega
      have HJN := Lib.hid hjn
      clear hjn
      obtain ⟨W, hWr⟩ : ∃ W, W = wr := ⟨_, rfl⟩
      rw [← hWr] at HR hc hf ⊢
      clear hWr
      go_upto_block 2 with fail
      go_cut [7] from 17 to 34 (fun x wx => x = .int .i64 ((scanSorted ltInt e b i : Nat) : Int) ∧ ∃ q, wx = W.drewN q)
      case first =>
        go_wp2_with fail
        go_loopw [7] (SoRel e i b W) (fun x _ => b - (intOf x).toNat)
        case atStart => exact ⟨i, 0, rfl, Nat.le_refl _, hib, rfl, rfl⟩
        case round =>
          obtain ⟨k, q, rfl, hk1, hk2, hw, hs⟩ := hrel
          have hcw : ∀ t, t < n → wr.cell? ⟨blk, off + t, none⟩ = some (.int .u32 (G t)) := by rw [hw]; exact hc
          have HW := Lib.hid hw
          have HS := Lib.hid hs
          clear hw hs hc hf
          go_wp2_with fail
          by_cases hle : k < b
          · have hkn : k < n := by omega
            have hk0 : 1 ≤ k := by omega
            go_quiet (first | (go_at_call 121; refine Calls.quiet_of_same (Less9 _ _ _)))
            go_wp2
            · have hl0 : (!ltInt (G k) (G (k - 1))) = true := by assumption
              have hl : ltInt (G k) (G (k - 1)) = false := by simpa using hl0
              go_roundw
              case rel => exact ⟨k + 1, q + nq, by go_num, by omega, by omega, by rw [HW.out, World.drewN_drewN], by rw [← HS.out, so_go hle (by rw [← HG.out, ← HG.out, hl])]⟩
              case measure => simp [intOf]; omega
            · have hl0 : (!ltInt (G k) (G (k - 1))) = false := by assumption
              have hl : ltInt (G k) (G (k - 1)) = true := by simpa using hl0
              go_meet
              case rel => exact ⟨by rw [← HS.out, so_end (.inr (by rw [← HG.out, ← HG.out, hl]))], q + nq, by rw [HW.out, World.drewN_drewN]⟩
          · go_quiet (first | (go_at_call 121; refine Calls.quiet_of_same (Less9 _ _ _)))
            go_wp2
            go_meet
            case rel => exact ⟨by rw [← HS.out, so_end (.inl hle)], q + nq, by rw [HW.out, World.drewN_drewN]⟩
      case rest =>
        obtain ⟨rfl, q9, hq9⟩ := hcut
        have hR9 := HR.out.drewN q9
        have hc9 : ∀ t, t < n → wc.cell? ⟨blk, off + t, none⟩ = some (.int .u32 (G t)) := by rw [hq9]; exact hc
        have hf9 : ∀ t, t < n → wc.frozen? ⟨blk, off + t, none⟩ = false := by rw [hq9]; exact hf
        rw [← hq9] at hR9
        have HR9 := Lib.hid hR9
        clear hR9 hq9 hc hf HR
        obtain ⟨i2, hi2⟩ : ∃ i2, i2 = scanSorted ltInt e b i := ⟨_, rfl⟩
        rw [← hi2]
        have hi3 := so_in e b _ i rfl hib
        rw [← hi2] at hi3
        obtain ⟨hi4, hi5⟩ := hi3
        have HO3 := HO.out
        rw [Go.Sort.partialIns_succ, ← hi2] at HO3
        have HO4 := Lib.hid HO3
        clear hi2 HO3 HO
        rename World => W2
        by_cases hb9 : i2 = b
        · have HO5 : Hid ((e, true) = T) := Lib.hid (by rw [← HO4.out, if_pos hb9])
          subst hb9
          go_wp2_with fail
          go_ret
          rw [← HO5.out]
          exact ⟨rfl, HR9.out⟩
        · by_cases h50 : b - a < 50
          · have HO5 : Hid ((e, false) = T) := Lib.hid (by rw [← HO4.out, if_neg hb9, if_pos h50])
            have hb8 : ¬ ((i2 : Int) = (b : Int)) := by omega
            have hb7 : (b : Int) - (a : Int) < 50 := by omega
            go_wp2_with fail
            go_ret
            rw [← HO5.out]
            exact ⟨rfl, HR9.out⟩
          · have HO5 : Hid (partialIns ltInt a b s i2 (fixUp ltInt b i2 (fixDown ltInt a i2 (swp e i2 (i2 - 1)))) = T) := Lib.hid (by rw [← HO4.out, if_neg hb9, if_neg h50])
            clear HO4
            have hb8 : ¬ ((i2 : Int) = (b : Int)) := by omega
            have hb7 : ¬ (b : Int) - (a : Int) < 50 := by omega
            have hi2n : i2 < n := by omega
            have hi20 : 1 ≤ i2 := by omega
            go_wp2_with fail
            go_region
            obtain ⟨e1, he1⟩ : ∃ e1, e1 = swp e i2 (i2 - 1) := ⟨_, rfl⟩
            have hR0 := (HR9.out.swap (i := i2) (j := i2 - 1) (by omega) (by omega) (HG.out _) (HG.out _)).drew
            obtain ⟨w9, hw9⟩ : ∃ W, W = ((W2.setCell ⟨blk, off + i2, none⟩ (eD (G (i2 - 1)))).setCell ⟨blk, off + (i2 - 1), none⟩ (eD (G i2))).drew := ⟨_, rfl⟩
            rw [← hw9] at hR0 ⊢
            rw [← he1] at hR0 HO5
            have hes1 : e1.size = n := by rw [he1, size_swp]; exact hes
            have HR5 := Lib.hid hR0
            clear hR0 hw9 hc9 hf9 HR9 he1
            go_upto_if 61 with fail
            go_cut [9] from 63 to 94 (fun x wx => Rw9 w blk off (fixDown ltInt a i2 e1) wx)
            case first =>
              by_cases hq : i2 - a ≥ 2
              · have hq9 : (2 : Int) ≤ (i2 : Int) - (a : Int) := by omega
                go_wp2_with fail
                go_loopw [9] (SnRel n i2 blk off w (shiftDown ltInt (i2 - 1) e1)) (fun x _ => (intOf x).toNat)
                case atStart => exact ⟨i2 - 1, e1, by congr 1; omega, by omega, hes1, HR5.out, rfl⟩
                case round =>
                  obtain ⟨k, f, rfl, hk1, hfs, hR, hS⟩ := hrel
                  obtain ⟨G, hG, hc, hf⟩ := hR.fam HH.out (hfs.trans hn.symm)
                  rw [hn] at hc hf
                  have HR := Lib.hid hR
                  have HS := Lib.hid hS
                  have HG := Lib.hid hG
                  clear hR hS hG
                  rcases k with _ | k
                  · have HS0 : Hid (f = shiftDown ltInt (i2 - 1) e1) := Lib.hid HS.out
                    clear HS
                    rw [show ((0 : Nat) : Int) = 0 from rfl]
                    go_wp2_with fail
                    go_meet
                    case rel =>
                      unfold fixDown
                      rw [if_pos hq, ← HS0.out]
                      exact HR.out
                  · have hkn : k + 1 < n := by omega
                    have hkn0 : k < n := by omega
                    go_wp2_with fail
                    go_quiet (first | (go_at_call 121; refine Calls.quiet_of_same (Less9 _ _ _)))
                    go_wp2_with fail
                    · have hl0 : (!ltInt (G (k + 1)) (G k)) = true := by assumption
                      have hl : ltInt (G (k + 1)) (G k) = false := by simpa using hl0
                      have HS1 : Hid (f = shiftDown ltInt (i2 - 1) e1) := Lib.hid (by rw [← HS.out, sdn_end (by rw [← HG.out, ← HG.out, hl])])
                      go_meet
                      case rel =>
                        unfold fixDown
                        rw [if_pos hq, ← HS1.out]
                        exact HR.out.drewN _
                    · have hl0 : (!ltInt (G (k + 1)) (G k)) = false := by assumption
                      have hl : ltInt (G (k + 1)) (G k) = true := by simpa using hl0
                      go_region
                      all_goals go_wp2_with fail
                      go_roundw
                      case rel => exact ⟨k, swp f (k + 1) k, by first | rfl | (congr 1; omega), by omega, by rw [size_swp]; exact hfs, (HR.out.drewN _).swap (i := k + 1) (j := k) (by omega) (by omega) (HG.out _) (HG.out _), by rw [← HS.out, sdn_go (by rw [← HG.out, ← HG.out, hl])]⟩
                      case measure => simp [intOf]
              · have hq9 : ¬ (2 : Int) ≤ (i2 : Int) - (a : Int) := by omega
                go_wp2_with fail
                go_meet
                case rel =>
                  unfold fixDown
                  rw [if_neg hq]
                  exact HR5.out
            case rest =>
              obtain ⟨e2, he2⟩ : ∃ e2, e2 = fixDown ltInt a i2 e1 := ⟨_, rfl⟩
              have hcut2 := hcut
              rw [← he2] at hcut2 HO5
              have hes2 : e2.size = n := by rw [he2, fdn_size]; exact hes1
              have HR6 := Lib.hid hcut2
              clear hcut hcut2 he2 HR5
              by_cases hq : b - i2 ≥ 2
              · have hq9 : (2 : Int) ≤ (b : Int) - (i2 : Int) := by omega
                go_wp2_with fail
                go_loopw [10] (SuRel n i2 b blk off w (shiftUp ltInt b (i2 + 1) e2)) (fun x _ => b - (intOf x).toNat)
                case atStart => exact ⟨i2 + 1, e2, by go_num, by omega, by omega, hes2, HR6.out, rfl⟩
                case round =>
                  clear HR6
                  obtain ⟨k, f, rfl, hk1, hk2, hfs, hR, hS⟩ := hrel
                  obtain ⟨G, hG, hc, hf⟩ := hR.fam HH.out (hfs.trans hn.symm)
                  rw [hn] at hc hf
                  have HR := Lib.hid hR
                  have HS := Lib.hid hS
                  have HG := Lib.hid hG
                  clear hR hS hG
                  by_cases hkb : k < b
                  · have hkn : k < n := by omega
                    have hkn0 : k - 1 < n := by omega
                    go_wp2_with fail
                    go_quiet (first | (go_at_call 121; refine Calls.quiet_of_same (Less9 _ _ _)))
                    go_wp2_with fail
                    · have hl0 : (!ltInt (G k) (G (k - 1))) = true := by assumption
                      have hl : ltInt (G k) (G (k - 1)) = false := by simpa using hl0
                      have HS1 : Hid (f = fixUp ltInt b i2 e2) := Lib.hid (by unfold fixUp; rw [if_pos hq, ← HS.out, sup_end (.inr (by rw [← HG.out, ← HG.out, hl]))])
                      go_roundw
                      case rel => exact ⟨i2, s, fixUp ltInt b i2 e2, rfl, by have := HJN.out; congr 1; omega, by omega, by omega, by omega, by rw [fup_size]; exact hes2, by rw [← HS1.out]; exact HR.out.drewN _, HO5.out⟩
                      case measure => have := HJN.out; simp [intOf]; omega
                    · have hl0 : (!ltInt (G k) (G (k - 1))) = false := by assumption
                      have hl : ltInt (G k) (G (k - 1)) = true := by simpa using hl0
                      go_region
                      all_goals go_wp2_with fail
                      go_roundw
                      case rel => exact ⟨k + 1, swp f k (k - 1), by go_num, by omega, by omega, by rw [size_swp]; exact hfs, (HR.out.drewN _).swap (i := k) (j := k - 1) (by omega) (by omega) (HG.out _) (HG.out _), by rw [← HS.out, sup_go hkb (by rw [← HG.out, ← HG.out, hl])]⟩
                      case measure => simp [intOf]; omega
                  · have HS1 : Hid (f = fixUp ltInt b i2 e2) := Lib.hid (by unfold fixUp; rw [if_pos hq, ← HS.out, sup_end (.inl hkb)])
                    go_wp2_with fail
                    go_roundw
                    case rel => exact ⟨i2, s, fixUp ltInt b i2 e2, rfl, by have := HJN.out; congr 1; omega, by omega, by omega, by omega, by rw [fup_size]; exact hes2, by rw [← HS1.out]; exact HR.out, HO5.out⟩
                    case measure => have := HJN.out; simp [intOf]; omega
              · have hq9 : ¬ (2 : Int) ≤ (b : Int) - (i2 : Int) := by omega
                have HS1 : Hid (e2 = fixUp ltInt b i2 e2) := Lib.hid (by unfold fixUp; rw [if_neg hq])
                go_wp2_with fail
                go_roundw
                case rel => exact ⟨i2, s, fixUp ltInt b i2 e2, rfl, by have := HJN.out; congr 1; omega, by omega, by omega, by omega, by rw [fup_size]; exact hes2, by rw [← HS1.out]; exact HR6.out, HO5.out⟩
                case measure => have := HJN.out; simp [intOf]; omega
end Go.Proofs.YtdnnkdldolhbpaaGreatDoor.U32
namespace Go.Proofs.YtdnnkdldolhbpaaGreatDoor.U32
open Go.RowKit
open Go.Sort (putRow Holds swp ltInt PermIn SortedIn size_swp permIn_trans permIn_refl insertionSort heapSort swo_ltInt insertionSort_holds heapSort_holds partialInsertionSort_holds partition_holds partitionEqual_holds partialInsertionSort partition partitionEqual round_eq round_part)

theorem Ins9n (n blk off cap a b : Nat) (d : Array Int) (w : World) (hn : d.size = n) (hH : Holds eD w blk off d) (hab : a ≤ b) (hb : b ≤ n) (hsz : n ≤ 1000000) :
    Calls Tryz.prog 115 #[.slice (some ⟨blk, off, none⟩) n cap, .int .i64 a, .int .i64 b] w fun e w' => e = .returned (.tuple #[]) ∧ ∃ d', PermIn a b d d' ∧ SortedIn ltInt a b d' ∧ Rw9 w blk off d' w' := by
  subst hn
  refine (Ins9 blk off cap a b d w hH hab hb hsz).mono ?_
  rintro e w' ⟨h1, h2⟩
  obtain ⟨p, s⟩ := insertionSort_holds swo_ltInt d a b hab hb
  exact ⟨h1, _, p, s, h2⟩
theorem Heap9n (n blk off cap a b : Nat) (d : Array Int) (w : World) (hn : d.size = n) (hH : Holds eD w blk off d) (hab : a < b) (hb : b ≤ n) (hsz : n ≤ 1000000) :
    Calls Tryz.prog 116 #[.slice (some ⟨blk, off, none⟩) n cap, .int .i64 a, .int .i64 b] w fun e w' => e = .returned (.tuple #[]) ∧ ∃ d', PermIn a b d d' ∧ SortedIn ltInt a b d' ∧ Rw9 w blk off d' w' := by
  subst hn
  refine (Heap9 blk off cap a b d w hH hab hb hsz).mono ?_
  rintro e w' ⟨h1, h2⟩
  obtain ⟨p, s⟩ := heapSort_holds swo_ltInt d a b (Nat.le_of_lt hab) hb
  exact ⟨h1, _, p, s, h2⟩
theorem Rev9n (n blk off cap a b : Nat) (d : Array Int) (w : World) (hn : d.size = n) (hH : Holds eD w blk off d) (hab : a < b) (hb : b ≤ n) (hsz : n ≤ 1000000) :
    Calls Tryz.prog 119 #[.slice (some ⟨blk, off, none⟩) n cap, .int .i64 a, .int .i64 b] w fun e w' => e = .returned (.tuple #[]) ∧ ∃ d', PermIn a b d d' ∧ Rw9 w blk off d' w' := by
  subst hn
  exact Rev9 blk off cap a b d w hH hab hb hsz
/-- A row that is a permutation, in a world that has grown. -/
abbrev Pm9 (w : World) (n blk off a b : Nat) (e : Array Int) (w' : World) : Prop := ∃ f, PermIn a b e f ∧ f.size = n ∧ At9 w blk off f w'
theorem At9.lies {w w' : World} {n blk off : Nat} {d e : Array Int} (h : At9 w blk off e w') (hH : Holds eD w blk off d) (hd : d.size = n) (he : e.size = n) (hb : blk < w.heap.size) : Holds eD w' blk off e ∧ blk < w'.heap.size := h.holds hH (he.trans hd.symm) hb
def PdRel (n a b blk off : Nat) (d : Array Int) (w : World) (x y z u v : Value) (w' : World) : Prop :=
  ∃ a1 b1 l : Nat, ∃ wb wp : Bool, ∃ e : Array Int, x = .int .i64 a1 ∧ y = .int .i64 b1 ∧ z = .int .i64 l ∧ u = .bool wb ∧ v = .bool wp ∧ (a ≤ a1 ∧ a1 ≤ b1 ∧ b1 ≤ b ∧ l ≤ 64) ∧ e.size = n ∧ At9 w blk off e w' ∧ Go.Sort.Below ltInt a1 b1 e ∧
    ∀ R, PermIn a1 b1 e R → SortedIn ltInt a1 b1 R → PermIn a b d R ∧ SortedIn ltInt a b R

set_option maxRecDepth 20000 in
set_option maxHeartbeats 8000000 in
theorem Pdq9 (n blk off cap : Nat) (hsz : n ≤ 1000000) (m : Nat) : ∀ (a b l : Nat) (d : Array Int) (w : World), b - a < m → d.size = n → Holds eD w blk off d → blk < w.heap.size → a ≤ b → b ≤ n → l ≤ 64 → Go.Sort.Below ltInt a b d →
    Calls Tryz.prog 88 #[.slice (some ⟨blk, off, none⟩) n cap, .int .i64 a, .int .i64 b, .int .i64 l] w fun e w' =>
      e = .returned (.tuple #[]) ∧ ∃ d', PermIn a b d d' ∧ SortedIn ltInt a b d' ∧ At9 w blk off d' w' := by
  induction m with
  | zero => intro a b l d w h; omega
  | succ m ih =>
  intro a b l d w hm hn hH hblk hab hb hl hB
  have IH := Lib.hid ih
  have HH := Lib.hid hH
  have HBK := Lib.hid hblk
  have HBL := Lib.hid hB
  have HN := Lib.hid hn
  clear ih hH hblk hB
  go_enter Tryz.func88, Tryz.ntmps88
  go_wp2_with fail
  go_loopw [1, 2, 3, 8, 9] (PdRel n a b blk off d w) (fun x y _ _ _ _ => (intOf y - intOf x).toNat)
  case atStart => exact ⟨a, b, l, true, true, d, rfl, rfl, rfl, rfl, rfl, ⟨Nat.le_refl _, hab, Nat.le_refl _, hl⟩, hn, Go.Sort.At.refl HH.out, HBL.out, fun R h1 h2 => ⟨h1, h2⟩⟩
  case round =>
    clear hl HBL hn
    obtain ⟨a1, b1, l, wb, wp, e, rfl, rfl, rfl, rfl, rfl, ⟨ha1, hab1, hb1, hl⟩, hes, hA, hB, hF⟩ := hrel
    have HA := Lib.hid hA
    have HB := Lib.hid hB
    have HF := Lib.hid hF
    clear hA hB hF
    by_cases h12 : (b1 : Int) - (a1 : Int) ≤ 12
    · obtain ⟨hHe, hbe⟩ := HA.out.lies HH.out HN.out hes HBK.out
      have hC := Ins9n n blk off cap a1 b1 e wr hes hHe hab1 (by omega) hsz
      have HCC := Lib.hid hC
      clear hHe hbe hC
      go_wp2_with fail
      refine HCC.out.mono ?_
      rintro x w2 ⟨rfl, f, hp, hs, hr⟩
      have HA2 := Lib.hid (HA.out.step HBK.out hp.1 hr)
      have HP := Lib.hid (HF.out f hp hs)
      clear hp hs hr
      go_wp2_with fail
      try simp only [Exit.inBlock, Exit.then]
      refine bodyPost_ret (results_none rfl _ _ _) rfl ?_
      exact ⟨rfl, f, HP.out.1, HP.out.2, HA2.out⟩
    · by_cases hl0 : l = 0
      · subst hl0
        obtain ⟨hHe, hbe⟩ := HA.out.lies HH.out HN.out hes HBK.out
        have hC := Heap9n n blk off cap a1 b1 e wr hes hHe (by omega) (by omega) hsz
        have HCC := Lib.hid hC
        clear hHe hbe hC
        rw [show ((0 : Nat) : Int) = 0 from rfl]
        go_wp2_with fail
        refine HCC.out.mono ?_
        rintro x w2 ⟨rfl, f, hp, hs, hr⟩
        have HA2 := Lib.hid (HA.out.step HBK.out hp.1 hr)
        have HP := Lib.hid (HF.out f hp hs)
        clear hp hs hr
        go_wp2_with fail
        try simp only [Exit.inBlock, Exit.then]
        refine bodyPost_ret (results_none rfl _ _ _) rfl ?_
        exact ⟨rfl, f, HP.out.1, HP.out.2, HA2.out⟩
      · have hl1 : ¬ ((l : Int) = 0) := by omega
        have h12n : a1 + 12 < b1 := by omega
        have hb1n : b1 ≤ n := by omega
        go_upto_if 35 with fail
        rw [show ((l : Int) == 0) = false from by simpa using hl1]
        go_cut [3] from 34 to 41 (fun z wx => (∃ l1 : Nat, z = .int .i64 l1 ∧ l1 ≤ 64) ∧ Pm9 w n blk off a1 b1 e wx)
        case first =>
          rcases wb with _ | _
          · obtain ⟨hHe, hbe⟩ := HA.out.lies HH.out HN.out hes HBK.out
            have hC := Break9 n blk off cap a1 b1 e wr hes hHe hbe h12n hb1n hsz
            have HCC := Lib.hid hC
            clear hHe hbe hC
            go_wp2_with fail
            refine HCC.out.mono ?_
            rintro x w2 ⟨rfl, f, hp, hr⟩
            have HP := Lib.hid hp
            have HR := Lib.hid hr
            clear hp hr
            go_wp2_with fail
            go_meet
            case rel => exact ⟨⟨l - 1, by congr 1; omega, by omega⟩, f, HP.out, HP.out.1.trans hes, HA.out.stepG HBK.out HP.out.1 HR.out⟩
          · go_wp2_with fail
            go_meet
            case rel => exact ⟨⟨l, rfl, hl⟩, e, permIn_refl _ _ _, hes, HA.out⟩
        case rest =>
          obtain ⟨⟨l1, rfl, hl2⟩, f1, hp1, hs1, hA1⟩ := hcut
          have hA1 : At9 w blk off f1 wc := hA1
          obtain ⟨hHe, hbe⟩ := At9.lies hA1 HH.out HN.out hs1 HBK.out
          have hC := Pivot9 n blk off cap a1 b1 f1 wc hs1 hHe hbe h12n hb1n hsz
          have HCC := Lib.hid hC
          have HA1 := Lib.hid hA1
          have HP1 := Lib.hid hp1
          clear hHe hbe hC hp1 hA1 HA hl hl0 hl1
          rename World => W1
          go_wp2_with fail
          refine HCC.out.mono ?_
          rintro x w2 ⟨p, hv, rfl, hpa, hpb, hr⟩
          have HA2 := Lib.hid (HA1.out.same HH.out (hs1.trans HN.out.symm) HBK.out hr)
          clear hr HCC HA1
          go_upto_if 50 with fail
          go_cut [11, 12] from 49 to 60 (fun p' h' wx => (∃ q : Nat, p' = .int .i64 q ∧ a1 ≤ q ∧ q < b1) ∧ (∃ hw : Int, h' = .int .i64 hw) ∧ Pm9 w n blk off a1 b1 e wx)
          case first =>
            by_cases h2 : hv = 2
            · subst h2
              obtain ⟨hHe, hbe⟩ := At9.lies (show At9 w blk off f1 w2 from HA2.out) HH.out HN.out hs1 HBK.out
              have hC := Rev9n n blk off cap a1 b1 f1 w2 hs1 hHe (by omega) hb1n hsz
              have HCC := Lib.hid hC
              clear hHe hbe hC
              go_wp2_with fail
              refine HCC.out.mono ?_
              rintro x w3 ⟨rfl, f, hp, hr⟩
              have HP := Lib.hid hp
              have HR := Lib.hid hr
              clear hp hr
              go_wp2_with fail
              go_meet
              case rel => exact ⟨⟨b1 - 1 - (p - a1), by congr 1; omega, by omega, by omega⟩, ⟨_, rfl⟩, f, permIn_trans _ _ _ _ _ HP1.out HP.out, HP.out.1.trans hs1, Go.Sort.At.step (show At9 w blk off f1 w2 from HA2.out) HBK.out HP.out.1 HR.out⟩
            · go_wp2_with fail
              go_meet
              case rel => exact ⟨⟨p, rfl, hpa, hpb⟩, ⟨_, rfl⟩, f1, HP1.out, hs1, HA2.out⟩
          case rest =>
            obtain ⟨⟨q, rfl, hqa, hqb⟩, ⟨hw, rfl⟩, f2, hp2, hs2, hA2⟩ := hcut
            have hA2 : At9 w blk off f2 wc := hA2
            have HP2 := Lib.hid hp2
            have HA3 := Lib.hid hA2
            clear hp2 hA2 HA2 HP1 hpa hpb hs1
            rename World => W3
            go_upto_region 15 with (fail)
            go_cut [68] from 61 to 68 (fun x wx => (∃ c : Bool, x = .bool c) ∧ wx = W3)
            case first =>
              cases wb <;> cases wp
              all_goals go_wp2_with fail
              all_goals (go_meet; exact ⟨⟨_, rfl⟩, rfl⟩)
            case rest =>
              obtain ⟨⟨c, rfl⟩, hwc⟩ := hcut
              subst hwc
              go_upto_if 68 with fail
              go_cut [69] from 69 to 72 (fun x wx => Pm9 w n blk off a1 b1 e wx)
              case first =>
                rcases c with _ | _
                · go_wp2_with fail
                  go_meet
                  case rel => exact ⟨f2, HP2.out, hs2, HA3.out⟩
                · obtain ⟨hHe, hbe⟩ := At9.lies (show At9 w blk off f2 wc from HA3.out) HH.out HN.out hs2 HBK.out
                  have hC := PIns9 n blk off cap a1 b1 f2 wc hs2 hHe h12n hb1n hsz
                  obtain ⟨hp, hss⟩ := partialInsertionSort_holds swo_ltInt f2 a1 b1 (by omega) (by omega) (by
                    have := Go.Sort.Below.perm HB.out (by omega) HP2.out
                    exact this)
                  generalize partialInsertionSort ltInt f2 a1 b1 = r at hC hp hss
                  obtain ⟨f3, br⟩ := r
                  have HCC := Lib.hid hC
                  have HP3 := Lib.hid hp
                  have HSS := Lib.hid hss
                  clear hHe hbe hC hp hss
                  go_wp2_with fail
                  refine HCC.out.mono ?_
                  rintro x w4 ⟨rfl, hr⟩
                  have HA4 := Lib.hid (Go.Sort.At.step (show At9 w blk off f2 wc from HA3.out) HBK.out HP3.out.1 hr)
                  clear hr HCC
                  rcases br with _ | _
                  · go_wp2_with fail
                    go_meet
                    case rel => exact ⟨f3, permIn_trans _ _ _ _ _ HP2.out HP3.out, HP3.out.1.trans hs2, HA4.out⟩
                  · have HP5 := Lib.hid (HF.out f3 (permIn_trans _ _ _ _ _ HP2.out HP3.out) (HSS.out rfl))
                    clear HP3 HSS
                    go_wp2_with fail
                    try simp only [Exit.inBlock, Exit.then]
                    refine bodyPost_ret (results_none rfl _ _ _) rfl ?_
                    exact ⟨rfl, f3, HP5.out.1, HP5.out.2, HA4.out⟩
              case rest =>
                obtain ⟨f3, hp3, hs3, hA4⟩ := hcut
                have HA4 := Lib.hid (show At9 w blk off f3 wc from hA4)
                have HB3 := Lib.hid (Go.Sort.Below.perm HB.out (by omega) hp3)
                have HP3 := Lib.hid hp3
                obtain ⟨hHe, hbe⟩ := At9.lies (show At9 w blk off f3 wc from HA4.out) HH.out HN.out hs3 HBK.out
                obtain ⟨G, hG, hc, hf⟩ := (Rw9.refl hHe).fam hHe rfl
                rw [hs3] at hc hf
                have HG := Lib.hid hG
                have HHE := Lib.hid hHe
                clear hHe hbe hG hp3 hA4 HA3 HP2 hs2 HB hf
                have hqn : q < n := by omega
                go_wp2_with fail
                by_cases ha0 : 0 < a1
                · have hann : a1 - 1 < n := by omega
                  go_quiet (first | (go_at_call 121; refine Calls.quiet_of_same (Less9 _ _ _)))
                  go_wp2_with fail
                  · have hl0 : (!ltInt (G (a1 - 1)) (G q)) = true := by assumption
                    have hl : ltInt (G (a1 - 1)) (G q) = false := by simpa using hl0
                    clear hl0
                    obtain ⟨W5, hW5⟩ : ∃ W, W = wc.drewN nq := ⟨_, rfl⟩
                    rw [← hW5]
                    have hA5 : At9 w blk off f3 W5 := by rw [hW5]; exact Go.Sort.At.step (show At9 w blk off f3 wc from HA4.out) HBK.out rfl ((Rw9.refl HHE.out).drewN nq)
                    obtain ⟨hH5, hb5⟩ := At9.lies hA5 HH.out HN.out hs3 HBK.out
                    have HA5 := Lib.hid hA5
                    have HH5 := Lib.hid hH5
                    clear hW5 hA5 hH5 hb5 hc HA4 HHE
                    obtain ⟨mid, d4, hx⟩ : ∃ mid d4, partitionEqual ltInt f3 a1 b1 q = (mid, d4) := ⟨_, _, rfl⟩
                    have hC := PartEq9 n blk off cap a1 b1 q f3 W5 hs3 HH5.out hqa hqb hb1n hsz
                    have hrp := round_eq swo_ltInt (partitionEqual_holds ltInt) (show 0 < a1 by omega) hqa hqb (show b1 ≤ f3.size by omega) HB3.out (by rw [← HG.out, ← HG.out]; exact hl) hx
                    rw [hx] at hC
                    obtain ⟨hm1, hm2, hs4, hB4, hfin⟩ := hrp
                    have hs4 : d4.size = n := hs4.trans hs3
                    have HCC := Lib.hid hC
                    have HB4 := Lib.hid hB4
                    have HFI := Lib.hid hfin
                    clear hC hx hB4 hfin HH5 HG hl
                    go_wp2_with fail
                    refine HCC.out.mono ?_
                    rintro x w6 ⟨rfl, hr⟩
                    have HA6 := Lib.hid (Go.Sort.At.step (show At9 w blk off f3 W5 from HA5.out) HBK.out (hs4.trans hs3.symm) hr)
                    clear hr HCC HA5
                    go_wp2_with fail
                    go_roundw
                    case rel => exact ⟨mid, b1, l1, _, _, d4, rfl, rfl, rfl, rfl, rfl, ⟨by omega, hm2, hb1, hl2⟩, hs4, HA6.out, HB4.out, fun R h1 h2 => by
                      obtain ⟨p1, p2⟩ := HFI.out R h1 h2
                      exact HF.out R (permIn_trans _ _ _ _ _ HP3.out p1) p2⟩
                    case measure => simp [intOf]; omega
                  · have hl0 : (!ltInt (G (a1 - 1)) (G q)) = false := by assumption
                    clear hl0
                    obtain ⟨W5, hW5⟩ : ∃ W, W = wc.drewN nq := ⟨_, rfl⟩
                    rw [← hW5]
                    have hA5 : At9 w blk off f3 W5 := by rw [hW5]; exact Go.Sort.At.step (show At9 w blk off f3 wc from HA4.out) HBK.out rfl ((Rw9.refl HHE.out).drewN nq)
                    obtain ⟨hH5, hb5⟩ := At9.lies hA5 HH.out HN.out hs3 HBK.out
                    have HA5 := Lib.hid hA5
                    have HH5 := Lib.hid hH5
                    clear hW5 hA5 hH5 hb5 hc HA4 HHE
                    have hC := Part9 n blk off cap a1 b1 q f3 W5 hs3 HH5.out hqa hqb hb1n hsz
                    obtain ⟨mid, ap, d4, hx⟩ : ∃ mid ap d4, partition ltInt f3 a1 b1 q = (mid, ap, d4) := ⟨_, _, _, rfl⟩
                    have hrp := round_part swo_ltInt (partition_holds ltInt) hqa hqb (show b1 ≤ f3.size by omega) HB3.out hx
                    rw [hx] at hC
                    obtain ⟨hm1, hm2, hs4, hB4, hB5, hL, hR⟩ := hrp
                    have hs4 : d4.size = n := hs4.trans hs3
                    have HCC := Lib.hid hC
                    have HB4 := Lib.hid hB4
                    have HB5 := Lib.hid hB5
                    have HL := Lib.hid hL
                    have HR := Lib.hid hR
                    clear hC hx hB4 hB5 hL hR HH5 HG
                    go_wp2_with fail
                    refine HCC.out.mono ?_
                    rintro x w6 ⟨qb, rfl, hr⟩
                    have HA6 := Lib.hid (Go.Sort.At.step (show At9 w blk off f3 W5 from HA5.out) HBK.out (hs4.trans hs3.symm) hr)
                    clear hr HCC HA5
                    obtain ⟨hH6, hb6⟩ := At9.lies (show At9 w blk off d4 w6 from HA6.out) HH.out HN.out hs4 HBK.out
                    have HH6 := Lib.hid hH6
                    have HB6 := Lib.hid hb6
                    clear hH6 hb6
                    by_cases hlr : (mid : Int) - (a1 : Int) < (b1 : Int) - (mid : Int)
                    · have hC := IH.out a1 mid l1 d4 w6 (by omega) hs4 HH6.out HB6.out hm1 (by omega) hl2 HB4.out
                      have HCC := Lib.hid hC
                      clear hC HH6 HB6
                      go_wp2_with fail
                      refine HCC.out.mono ?_
                      rintro x w7 ⟨rfl, L, hpL, hsL, hr⟩
                      obtain ⟨hBL, hfin⟩ := HL.out L hpL hsL
                      have hsz7 := hpL.1.trans hs4
                      have HA7 := Lib.hid (Go.Sort.At.stepG (show At9 w blk off d4 w6 from HA6.out) HBK.out hpL.1 hr)
                      have HBL := Lib.hid hBL
                      have HFI := Lib.hid hfin
                      clear hpL hsL hr hBL hfin HCC HA6 HL HR HB4 HB5
                      go_wp2_with fail
                      go_roundw
                      case rel => exact ⟨mid + 1, b1, l1, _, _, L, by go_num, rfl, rfl, rfl, rfl, ⟨by omega, by omega, hb1, hl2⟩, hsz7, HA7.out, HBL.out, fun R h1 h2 => by
                        obtain ⟨p1, p2⟩ := HFI.out R h1 h2
                        exact HF.out R (permIn_trans _ _ _ _ _ HP3.out p1) p2⟩
                      case measure => simp [intOf]; omega
                    · have hC := IH.out (mid + 1) b1 l1 d4 w6 (by omega) hs4 HH6.out HB6.out (by omega) hb1n hl2 HB5.out
                      have HCC := Lib.hid hC
                      clear hC HH6 HB6
                      go_wp2_with fail
                      refine HCC.out.mono ?_
                      rintro x w7 ⟨rfl, L, hpL, hsL, hr⟩
                      obtain ⟨hBL, hfin⟩ := HR.out L hpL hsL
                      have hsz7 := hpL.1.trans hs4
                      have HA7 := Lib.hid (Go.Sort.At.stepG (show At9 w blk off d4 w6 from HA6.out) HBK.out hpL.1 hr)
                      have HBL := Lib.hid hBL
                      have HFI := Lib.hid hfin
                      clear hpL hsL hr hBL hfin HCC HA6 HL HR HB4 HB5
                      go_wp2_with fail
                      go_roundw
                      case rel => exact ⟨a1, mid, l1, _, _, L, rfl, rfl, rfl, rfl, rfl, ⟨ha1, hm1, by omega, hl2⟩, hsz7, HA7.out, HBL.out, fun R h1 h2 => by
                        obtain ⟨p1, p2⟩ := HFI.out R h1 h2
                        exact HF.out R (permIn_trans _ _ _ _ _ HP3.out p1) p2⟩
                      case measure => simp [intOf]; omega
                · go_quiet (first | (go_at_call 121; refine Calls.quiet_of_same (Less9 _ _ _)))
                  go_wp2_with fail
                  obtain ⟨W5, hW5⟩ : ∃ W, W = wc.drewN nq := ⟨_, rfl⟩
                  rw [← hW5]
                  have hA5 : At9 w blk off f3 W5 := by rw [hW5]; exact Go.Sort.At.step (show At9 w blk off f3 wc from HA4.out) HBK.out rfl ((Rw9.refl HHE.out).drewN nq)
                  obtain ⟨hH5, hb5⟩ := At9.lies hA5 HH.out HN.out hs3 HBK.out
                  have HA5 := Lib.hid hA5
                  have HH5 := Lib.hid hH5
                  clear hW5 hA5 hH5 hb5 hc HA4 HHE
                  have hC := Part9 n blk off cap a1 b1 q f3 W5 hs3 HH5.out hqa hqb hb1n hsz
                  obtain ⟨mid, ap, d4, hx⟩ : ∃ mid ap d4, partition ltInt f3 a1 b1 q = (mid, ap, d4) := ⟨_, _, _, rfl⟩
                  have hrp := round_part swo_ltInt (partition_holds ltInt) hqa hqb (show b1 ≤ f3.size by omega) HB3.out hx
                  rw [hx] at hC
                  obtain ⟨hm1, hm2, hs4, hB4, hB5, hL, hR⟩ := hrp
                  have hs4 : d4.size = n := hs4.trans hs3
                  have HCC := Lib.hid hC
                  have HB4 := Lib.hid hB4
                  have HB5 := Lib.hid hB5
                  have HL := Lib.hid hL
                  have HR := Lib.hid hR
                  clear hC hx hB4 hB5 hL hR HH5 HG
                  go_wp2_with fail
                  refine HCC.out.mono ?_
                  rintro x w6 ⟨qb, rfl, hr⟩
                  have HA6 := Lib.hid (Go.Sort.At.step (show At9 w blk off f3 W5 from HA5.out) HBK.out (hs4.trans hs3.symm) hr)
                  clear hr HCC HA5
                  obtain ⟨hH6, hb6⟩ := At9.lies (show At9 w blk off d4 w6 from HA6.out) HH.out HN.out hs4 HBK.out
                  have HH6 := Lib.hid hH6
                  have HB6 := Lib.hid hb6
                  clear hH6 hb6
                  by_cases hlr : (mid : Int) - (a1 : Int) < (b1 : Int) - (mid : Int)
                  · have hC := IH.out a1 mid l1 d4 w6 (by omega) hs4 HH6.out HB6.out hm1 (by omega) hl2 HB4.out
                    have HCC := Lib.hid hC
                    clear hC HH6 HB6
                    go_wp2_with fail
                    refine HCC.out.mono ?_
                    rintro x w7 ⟨rfl, L, hpL, hsL, hr⟩
                    obtain ⟨hBL, hfin⟩ := HL.out L hpL hsL
                    have hsz7 := hpL.1.trans hs4
                    have HA7 := Lib.hid (Go.Sort.At.stepG (show At9 w blk off d4 w6 from HA6.out) HBK.out hpL.1 hr)
                    have HBL := Lib.hid hBL
                    have HFI := Lib.hid hfin
                    clear hpL hsL hr hBL hfin HCC HA6 HL HR HB4 HB5
                    go_wp2_with fail
                    go_roundw
                    case rel => exact ⟨mid + 1, b1, l1, _, _, L, by go_num, rfl, rfl, rfl, rfl, ⟨by omega, by omega, hb1, hl2⟩, hsz7, HA7.out, HBL.out, fun R h1 h2 => by
                      obtain ⟨p1, p2⟩ := HFI.out R h1 h2
                      exact HF.out R (permIn_trans _ _ _ _ _ HP3.out p1) p2⟩
                    case measure => simp [intOf]; omega
                  · have hC := IH.out (mid + 1) b1 l1 d4 w6 (by omega) hs4 HH6.out HB6.out (by omega) hb1n hl2 HB5.out
                    have HCC := Lib.hid hC
                    clear hC HH6 HB6
                    go_wp2_with fail
                    refine HCC.out.mono ?_
                    rintro x w7 ⟨rfl, L, hpL, hsL, hr⟩
                    obtain ⟨hBL, hfin⟩ := HR.out L hpL hsL
                    have hsz7 := hpL.1.trans hs4
                    have HA7 := Lib.hid (Go.Sort.At.stepG (show At9 w blk off d4 w6 from HA6.out) HBK.out hpL.1 hr)
                    have HBL := Lib.hid hBL
                    have HFI := Lib.hid hfin
                    clear hpL hsL hr hBL hfin HCC HA6 HL HR HB4 HB5
                    go_wp2_with fail
                    go_roundw
                    case rel => exact ⟨a1, mid, l1, _, _, L, rfl, rfl, rfl, rfl, rfl, ⟨ha1, hm1, by omega, hl2⟩, hsz7, HA7.out, HBL.out, fun R h1 h2 => by
                      obtain ⟨p1, p2⟩ := HFI.out R h1 h2
                      exact HF.out R (permIn_trans _ _ _ _ _ HP3.out p1) p2⟩
                    case measure => simp [intOf]; omega
end Go.Proofs.YtdnnkdldolhbpaaGreatDoor.U32
