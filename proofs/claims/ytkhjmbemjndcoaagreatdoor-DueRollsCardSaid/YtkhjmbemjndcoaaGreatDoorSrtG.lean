/-
  The library's sort over days, VIII: the parting. Conditions: the row lies there.
-/
import Derived.Test.YtkhjmbemjndcoaaGreatDoorSrtF
import Derived.Deep.CutBlock
namespace Go.Proofs.YtkhjmbemjndcoaaGreatDoor
open Go.RowKit
open Go.Sort (putRow Holds swp ltInt PermIn size_swp scanUp scanDown partEqLoop partLoop partitionEqual partition)

theorem up_go {p : Int → Bool} {d : Array Int} {j i : Nat} (h : i ≤ j) (hp : p d[i]! = true) : scanUp p d j i = scanUp p d j (i + 1) := by rw [scanUp, if_pos (by simp [h, hp])]
theorem up_end {p : Int → Bool} {d : Array Int} {j i : Nat} (h : ¬ i ≤ j ∨ p d[i]! = false) : scanUp p d j i = i := by rw [scanUp, if_neg (by rcases h with h | h <;> simp [h])]
theorem down_go {p : Int → Bool} {d : Array Int} {i j : Nat} (h : i ≤ j + 1) (hp : p d[j + 1]! = true) : scanDown p d i (j + 1) = scanDown p d i j := by rw [scanDown, if_pos (by simp [h, hp])]
theorem down_end {p : Int → Bool} {d : Array Int} {i j : Nat} (h : ¬ i ≤ j ∨ p d[j]! = false) : scanDown p d i j = j := by
  cases j with
  | zero => rfl
  | succ k => rw [scanDown, if_neg (by rcases h with h | h <;> simp [h])]
/-- Where the two scans stop. -/
theorem scans {p q : Int → Bool} (hq : ∀ x, q x = !p x) {d : Array Int} {i j i2 j2 : Nat} (h0 : 0 < i) (hij : i ≤ j + 1) (e1 : i2 = scanUp p d j i) (e2 : j2 = scanDown q d i2 j) :
    i ≤ i2 ∧ i2 ≤ j + 1 ∧ j2 ≤ j ∧ i2 ≤ j2 + 1 ∧ (i2 ≤ j2 → i2 < j2) := by
  obtain ⟨u1, u2, _, u4⟩ := Go.Sort.scanUp_spec p d j _ i rfl
  rw [← e1] at u1 u2 u4
  obtain ⟨v1, v2, _, v4⟩ := Go.Sort.scanDown_spec q d i2 j
  rw [← e2] at v1 v2 v4
  have hu := u2 hij
  refine ⟨u1, hu, v1, v2 hu, fun h => ?_⟩
  rcases Nat.lt_or_ge i2 j2 with h' | h'
  · exact h'
  · have e : i2 = j2 := by omega
    have f1 := u4 (by omega)
    have f2 := v4 h (by omega)
    rw [hq, ← e, f1] at f2
    cases f2
theorem pe_break {e : Array Int} {a i j i2 j2 : Nat} (h1 : i2 = scanUp (fun x => (!ltInt e[a]! x)) e j i) (h2 : j2 = scanDown (fun x => ltInt e[a]! x) e i2 j) (h : j2 < i2) : partEqLoop ltInt a i j e = (i2, e) := by
  subst h1; subst h2; rw [Go.Sort.partEqLoop_eq, if_pos h]
theorem pe_go {e : Array Int} {a i j i2 j2 : Nat} (h1 : i2 = scanUp (fun x => (!ltInt e[a]! x)) e j i) (h2 : j2 = scanDown (fun x => ltInt e[a]! x) e i2 j) (h : ¬ j2 < i2) : partEqLoop ltInt a i j e = partEqLoop ltInt a (i2 + 1) (j2 - 1) (swp e i2 j2) := by
  subst h1; subst h2; rw [Go.Sort.partEqLoop_eq, if_neg h]
theorem pl_break {e : Array Int} {a i j i2 j2 : Nat} (h1 : i2 = scanUp (fun x => ltInt x e[a]!) e j i) (h2 : j2 = scanDown (fun x => (!ltInt x e[a]!)) e i2 j) (h : j2 < i2) : partLoop ltInt a i j e = (j2, e) := by
  subst h1; subst h2; rw [Go.Sort.partLoop_eq, if_pos h]
theorem pl_go {e : Array Int} {a i j i2 j2 : Nat} (h1 : i2 = scanUp (fun x => ltInt x e[a]!) e j i) (h2 : j2 = scanDown (fun x => (!ltInt x e[a]!)) e i2 j) (h : ¬ j2 < i2) : partLoop ltInt a i j e = partLoop ltInt a (i2 + 1) (j2 - 1) (swp e i2 j2) := by
  subst h1; subst h2; rw [Go.Sort.partLoop_eq, if_neg h]
def UpRel (p : Int → Bool) (e : Array Int) (i j : Nat) (w : World) (x : Value) (w' : World) : Prop := ∃ k q : Nat, x = .int .i64 k ∧ i ≤ k ∧ k ≤ j + 1 ∧ w' = w.drewN q ∧ scanUp p e j k = scanUp p e j i
def DnRel (p : Int → Bool) (e : Array Int) (i j : Nat) (w : World) (x : Value) (w' : World) : Prop := ∃ k q : Nat, x = .int .i64 k ∧ i ≤ k + 1 ∧ k ≤ j ∧ w' = w.drewN q ∧ scanDown p e i k = scanDown p e i j

def PeRel (d : Array Int) (a b pivot blk off n : Nat) (w : World) (x y : Value) (w' : World) : Prop :=
  ∃ i j : Nat, ∃ e : Array Int, x = .int .i64 i ∧ y = .int .i64 j ∧ a < i ∧ i ≤ j + 1 ∧ j < b ∧ e.size = n ∧ Rw9 w blk off e w' ∧ partEqLoop ltInt a i j e = partEqLoop ltInt a (a + 1) (b - 1) (swp d a pivot)
set_option maxRecDepth 20000 in
set_option maxHeartbeats 4000000 in
theorem PartEq9 (n blk off cap a b pivot : Nat) (d : Array Int) (w : World) (hn : d.size = n) (hH : Holds eD w blk off d) (hap : a ≤ pivot) (hpb : pivot < b) (hb : b ≤ n) (hsz : n ≤ 1000000) :
    Calls Tryz.prog 69 #[.slice (some ⟨blk, off, none⟩) n cap, .int .i64 a, .int .i64 b, .int .i64 pivot] w fun e w' =>
      e = .returned (.int .i64 ((partitionEqual ltInt d a b pivot).1 : Nat)) ∧ Rw9 w blk off (partitionEqual ltInt d a b pivot).2 w' := by
  have hE : partitionEqual ltInt d a b pivot = partEqLoop ltInt a (a + 1) (b - 1) (swp d a pivot) := rfl
  rw [hE]
  clear hE
  obtain ⟨T, hT⟩ : ∃ T, T = partEqLoop ltInt a (a + 1) (b - 1) (swp d a pivot) := ⟨_, rfl⟩
  rw [← hT]
  have HT := Lib.hid hT
  obtain ⟨G, hG, hc, hf⟩ := (Rw9.refl hH).fam hH rfl
  rw [hn] at hc hf
  have han : a < n := by omega
  have hpn : pivot < n := by omega
  obtain ⟨v9, hv9⟩ := cell?_setCell_some (w := w) (p := ⟨blk, off + a, none⟩) (x := .int .i32 (G pivot)) (q := ⟨blk, off + pivot, none⟩) (hc pivot hpn)
  have HH := Lib.hid hH
  have HG := Lib.hid hG
  clear hH hG hT
  go_enter Tryz.func69, Tryz.ntmps69
  go_wp2
  go_region
  have hR0 := ((Rw9.refl HH.out).swap (i := a) (j := pivot) (by omega) (by omega) (HG.out _) (HG.out _)).drew
  obtain ⟨w0, hw0⟩ : ∃ W, W = ((w.setCell ⟨blk, off + a, none⟩ (eD (G pivot))).setCell ⟨blk, off + pivot, none⟩ (eD (G a))).drew := ⟨_, rfl⟩
  rw [← hw0] at hR0 ⊢
  have HR0 := Lib.hid hR0
  clear hw0 hR0 hc hf HG hv9
  go_wp2_with fail
  go_loopw [9, 10] (PeRel d a b pivot blk off n w) (fun x y _ => (intOf y).toNat + 1 - (intOf x).toNat)
  case atStart => exact ⟨a + 1, b - 1, swp d a pivot, by go_num, by congr 1; omega, by omega, by omega, by omega, by rw [size_swp]; exact hn, HR0.out, rfl⟩
  case round =>
    obtain ⟨i, j, e, rfl, rfl, hai, hij, hjb, hes, hR, hO⟩ := hrel
    obtain ⟨G, hG, hc, hf⟩ := hR.fam HH.out (hes.trans hn.symm)
    rw [hn] at hc hf
    have HR := Lib.hid hR
    have HG := Lib.hid hG
    have HO := Lib.hid hO
    have hjn : j < n := by omega
    clear hR hG hO HR0
    obtain ⟨W, hWr⟩ : ∃ W, W = wr := ⟨_, rfl⟩
    rw [← hWr] at HR hc hf ⊢
    clear hWr
    go_upto_block 2 with fail
    go_cut [9] from 29 to 45 (fun x wx => x = .int .i64 ((scanUp (fun x => (!ltInt e[a]! x)) e j i : Nat) : Int) ∧ ∃ q, wx = W.drewN q)
    case first =>
      go_wp2_with fail
      go_loopw [9] (UpRel (fun x => (!ltInt e[a]! x)) e i j W) (fun x _ => j + 1 - (intOf x).toNat)
      case atStart => exact ⟨i, 0, rfl, Nat.le_refl _, hij, rfl, rfl⟩
      case round =>
        obtain ⟨k, q, rfl, hk1, hk2, hw, hs⟩ := hrel
        have hcw : ∀ t, t < n → wr.cell? ⟨blk, off + t, none⟩ = some (.int .i32 (G t)) := by rw [hw]; exact hc
        have HW := Lib.hid hw
        have HS := Lib.hid hs
        clear hw hs hc hf
        go_wp2_with fail
        by_cases hle : k ≤ j
        · have hkn : k < n := by omega
          go_quiet (first | (go_at_call 53; refine Calls.quiet_of_same (Less9 _ _ _)))
          go_wp2
          · have hl0 : (!ltInt (G a) (G k)) = true := by assumption
            have hl : ltInt (G a) (G k) = false := by simpa using hl0
            go_roundw
            case rel => exact ⟨k + 1, q + nq, by go_num, by omega, by omega, by rw [HW.out, World.drewN_drewN], by rw [← HS.out, up_go hle (by show (!ltInt e[a]! e[k]!) = true; rw [← HG.out, ← HG.out, hl]; rfl)]⟩
            case measure => simp [intOf]; omega
          · have hl0 : (!ltInt (G a) (G k)) = false := by assumption
            have hl : ltInt (G a) (G k) = true := by simpa using hl0
            go_meet
            case rel => exact ⟨by rw [← HS.out, up_end (.inr (by show (!ltInt e[a]! e[k]!) = false; rw [← HG.out, ← HG.out, hl]; rfl))], q + nq, by rw [HW.out, World.drewN_drewN]⟩
        · go_quiet (first | (go_at_call 53; refine Calls.quiet_of_same (Less9 _ _ _)))
          go_wp2
          go_meet
          case rel => exact ⟨by rw [← HS.out, up_end (.inl hle)], q + nq, by rw [HW.out, World.drewN_drewN]⟩
    case rest =>
      obtain ⟨rfl, q9, hq9⟩ := hcut
      have hR9 := HR.out.drewN q9
      have hc9 : ∀ t, t < n → wc.cell? ⟨blk, off + t, none⟩ = some (.int .i32 (G t)) := by rw [hq9]; exact hc
      have hf9 : ∀ t, t < n → wc.frozen? ⟨blk, off + t, none⟩ = false := by rw [hq9]; exact hf
      rw [← hq9] at hR9
      have HR9 := Lib.hid hR9
      clear hR9 hq9 hc hf HR
      obtain ⟨i2, hi2⟩ : ∃ i2, i2 = scanUp (fun x => (!ltInt e[a]! x)) e j i := ⟨_, rfl⟩
      rw [← hi2]
      have hi3 : i ≤ i2 ∧ i2 ≤ j + 1 := by
        obtain ⟨u1, u2, _, _⟩ := Go.Sort.scanUp_spec (fun x => (!ltInt e[a]! x)) e j _ i rfl
        rw [← hi2] at u1 u2
        exact ⟨u1, u2 hij⟩
      obtain ⟨hi4, hi5⟩ := hi3
      have HI2 := Lib.hid hi2
      clear hi2
      rename World => W2
      have hc := hc9
      have hf := hf9
      have HR := HR9
      clear hc9 hf9 HR9
      go_upto_block 4 with fail
      go_cut [10] from 46 to 61 (fun x wx => x = .int .i64 ((scanDown (fun x => ltInt e[a]! x) e i2 j : Nat) : Int) ∧ ∃ q, wx = W2.drewN q)
      case first =>
        go_wp2_with fail
        go_loopw [10] (DnRel (fun x => ltInt e[a]! x) e i2 j W2) (fun x _ => (intOf x).toNat)
        case atStart => exact ⟨j, 0, rfl, by omega, Nat.le_refl _, rfl, rfl⟩
        case round =>
          obtain ⟨k, q, rfl, hk1, hk2, hw, hs⟩ := hrel
          have hcw : ∀ t, t < n → wr.cell? ⟨blk, off + t, none⟩ = some (.int .i32 (G t)) := by rw [hw]; exact hc
          have HW := Lib.hid hw
          have HS := Lib.hid hs
          clear hw hs hc hf
          go_wp2_with fail
          by_cases hle : i2 ≤ k
          · obtain ⟨k, rfl⟩ : ∃ k', k = k' + 1 := ⟨k - 1, by omega⟩
            have hkn : k + 1 < n := by omega
            have hle9 : (i2 : Int) ≤ (k : Int) + 1 := by omega
            go_quiet (first | (go_at_call 53; refine Calls.quiet_of_same (Less9 _ _ _)))
            go_wp2
            · have hl : ltInt (G a) (G (k + 1)) = true := by assumption
              go_roundw
              case rel => exact ⟨k, q + nq, by first | rfl | (congr 1; omega), by omega, by omega, by rw [HW.out, World.drewN_drewN], by rw [← HS.out, down_go hle (by show ltInt e[a]! e[k + 1]! = true; rw [← HG.out, ← HG.out, hl])]⟩
              case measure => simp [intOf]
            · have hl : ltInt (G a) (G (k + 1)) = false := by assumption
              go_meet
              case rel => exact ⟨by rw [← HS.out, down_end (.inr (by show ltInt e[a]! e[k + 1]! = false; rw [← HG.out, ← HG.out, hl]))], q + nq, by rw [HW.out, World.drewN_drewN]⟩
          · go_quiet (first | (go_at_call 53; refine Calls.quiet_of_same (Less9 _ _ _)))
            go_wp2
            go_meet
            case rel => exact ⟨by rw [← HS.out, down_end (.inl hle)], q + nq, by rw [HW.out, World.drewN_drewN]⟩
      case rest =>
        obtain ⟨rfl, q9, hq9⟩ := hcut
        have hR9 := HR.out.drewN q9
        have hc9 : ∀ t, t < n → wc.cell? ⟨blk, off + t, none⟩ = some (.int .i32 (G t)) := by rw [hq9]; exact hc
        have hf9 : ∀ t, t < n → wc.frozen? ⟨blk, off + t, none⟩ = false := by rw [hq9]; exact hf
        rw [← hq9] at hR9
        have HR9 := Lib.hid hR9
        clear hR9 hq9 hc hf HR
        obtain ⟨j2, hj2⟩ : ∃ j2, j2 = scanDown (fun x => ltInt e[a]! x) e i2 j := ⟨_, rfl⟩
        rw [← hj2]
        obtain ⟨s1, s2, s3, s4, s5⟩ := scans (p := fun x => (!ltInt e[a]! x)) (q := fun x => ltInt e[a]! x) (fun x => by simp) (show 0 < i by omega) hij HI2.out hj2
        have HJ2 := Lib.hid hj2
        clear hj2
        rename World => W3
        have hc := hc9
        have hf := hf9
        have HR := HR9
        clear hc9 hf9 HR9
        by_cases hle : j2 < i2
        · go_wp2_with fail
          go_ret
          rw [HT.out, ← HO.out, pe_break HI2.out HJ2.out hle]
          exact ⟨rfl, HR.out⟩
        · have hlt := s5 (by omega)
          have hi2n : i2 < n := by omega
          have hj2n : j2 < n := by omega
          go_wp2_with fail
          go_region
          have hR0 := (HR.out.swap (i := i2) (j := j2) (by omega) (by omega) (HG.out _) (HG.out _)).drew
          obtain ⟨w9, hw9⟩ : ∃ W, W = ((W3.setCell ⟨blk, off + i2, none⟩ (eD (G j2))).setCell ⟨blk, off + j2, none⟩ (eD (G i2))).drew := ⟨_, rfl⟩
          rw [← hw9] at hR0
          have HR5 := Lib.hid hR0
          clear hR0
          first | rw [← hw9] | (rw [show ((W3.drew.setCell ⟨blk, off + i2, none⟩ (eD (G j2))).setCell ⟨blk, off + j2, none⟩ (eD (G i2))) = w9 from hw9.symm])
          clear hw9 hc hf
          go_wp2_with fail
          go_roundw
          case rel => exact ⟨i2 + 1, j2 - 1, swp e i2 j2, by go_num, by congr 1; omega, by omega, by omega, by omega, by rw [size_swp]; exact hes, HR5.out, by rw [← pe_go HI2.out HJ2.out hle]; exact HO.out⟩
          case measure => simp [intOf]; omega
end Go.Proofs.YtkhjmbemjndcoaaGreatDoor
