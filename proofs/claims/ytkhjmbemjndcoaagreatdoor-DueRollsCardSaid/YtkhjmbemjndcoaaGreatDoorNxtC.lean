/-
  The first open day from one on, as the program tells it. Conditions: the days are there.
-/
import Derived.Test.YtkhjmbemjndcoaaGreatDoorNxtB
namespace Go.Proofs.YtkhjmbemjndcoaaGreatDoor
open Go.RowKit

theorem Ris.tail {x : Int} {t : List Int} (h : Ris (x :: t)) : Ris t := fun i hi => by
  have := h (i + 1) (by simpa using hi)
  simpa using this
theorem Ris.head : ∀ (t : List Int) (x : Int), Ris (x :: t) → ∀ y ∈ x :: t, x ≤ y
  | [], x, _, y, hy => by
    have : y = x := by simpa using hy
    omega
  | z :: t, x, h, y, hy => by
    have h0 : x ≤ z := by simpa using h 0 (by simp)
    rcases List.mem_cons.1 hy with rfl | hy
    · omega
    · have := Ris.head t z h.tail y hy
      omega
theorem rv_cutH {w : World} {B : Nat} {A : Option Addr} {x : Int} {t : List Int} {c : Nat} (h : Rv w B A ((x :: t).map encH)) (hc : (x :: t).length ≤ c) : Rv w B (if c = 1 then A else A.map (·.add 1)) (t.map encH) := fun hn => by
  obtain ⟨b, o, rfl, hb, hcell⟩ := h (by simp)
  have ht : 0 < t.length := by simpa using hn
  rw [if_neg (by simp at hc; omega)]
  refine ⟨b, o + 1, by simp [go_sem], hb, fun j u hu => ?_⟩
  rw [Nat.add_assoc, Nat.add_comm 1 j]
  exact hcell (j + 1) u (by simpa using hu)
def lenV : Value → Nat | .slice _ n _ => n | _ => 0
/-- What is left of the days, at a day. -/
def Left9 (l : List Int) (k : Int) (w1 : World) (y : Value) : Prop := ∃ A c, ∃ t : List Int, y = .slice A t.length c ∧ t.length ≤ c ∧ t.length ≤ 1000 ∧ Ris t ∧ (∀ v, k ≤ v → (v ∈ t ↔ v ∈ l)) ∧ Rv w1 w1.heap.size A (t.map encH) ∧ ∀ v ∈ t, -2147483648 ≤ v ∧ v ≤ 2147483647
def NxRel (l : List Int) (d : Int) (w1 : World) (x y z : Value) (w' : World) : Prop := ∃ k : Int, x = .int .i32 k ∧ d ≤ k ∧ k ≤ 3652059 ∧ nextD l k = nextD l d ∧ Left9 l k w1 y ∧ w' = w1
def NxPost (l : List Int) (d : Int) (w : World) (e : Ending) (w' : World) : Prop := (∀ y, nextD l d = some y → e = .returned (.tuple #[.int .i32 y, .nilIface])) ∧ (nextD l d = none → e = .returned (.tuple #[.int .i32 0, .iface 35 (.int .i64 12)])) ∧ Below w.heap.size w w'
theorem open_of {l : List Int} {k : Int} {p q : Bool} (hk : dayB k = true) (hp : (dayB k && decide (k % 7 < 5)) = p) (hq : l.contains k = q) : openL l k = (p && !q) := by
  unfold openL
  rw [hk, Bool.true_and] at hp
  rw [hp, hq]
set_option maxRecDepth 20000 in
set_option maxHeartbeats 4000000 in
theorem Next9 (A : Option Addr) (n c : Nat) (l : List Int) (d : Int) (w : World) (hR : Rv w w.heap.size A (l.map encH)) (hn : l.length = n) (hnc : n ≤ c) (hm : n ≤ 1000) (hl : ∀ v ∈ l, -2147483648 ≤ v ∧ v ≤ 2147483647) (hd : 0 ≤ d ∧ d ≤ 3652058) :
    Calls Tryz.prog 13 #[.slice A n c, .int .i32 d] w (NxPost l d w) := by
  have hC := Rising9 A n c l w hR hn hnc hm
  have hD := DRight_any d w
  rw [day_yes hd.1 hd.2] at hD
  have HL := Lib.hid hl
  have HD := Lib.hid hd
  clear hR hn hl hd
  go_enter Tryz.func13, Tryz.ntmps13
  go_wp2_with fail
  refine hD.mono ?_
  rintro e w' ⟨rfl, rfl⟩
  go_wp2_with fail
  refine hC.mono ?_
  rintro e w1 ⟨A2, c2, s, rfl, hc2, hs, hmem, hris, hR2, hb⟩
  have HB := Lib.hid hb
  have HLF : Hid (Left9 l d w1 (.slice A2 n c2)) := Lib.hid ⟨A2, c2, s, by rw [hs], by rw [hs]; exact hc2, by rw [hs]; exact hm, hris, fun v _ => hmem v, hR2, fun v hv => HL.out v ((hmem v).1 hv)⟩
  clear hC hD hb hR2 hris hmem hs hc2 s
  go_wp2_with fail
  go_loopw [1, 6, 7] (NxRel l d w1) (fun x _ _ _ => (3652060 - intOf x).toNat)
  case atStart => exact ⟨d, rfl, by omega, by have := HD.out; omega, rfl, HLF.out, rfl⟩
  case round =>
    clear HLF
    obtain ⟨k, rfl, hk1, hk2, hN, hLF, rfl⟩ := hrel
    have HN := Lib.hid hN
    have HLF := Lib.hid hLF
    have hk0 : 0 ≤ k := by have := HD.out; omega
    clear hN hLF
    by_cases hke : k ≤ 3652058
    · have hD := DRight_any k wr
      rw [day_yes hk0 hke] at hD
      go_wp2_with fail
      refine hD.mono ?_
      rintro e w' ⟨rfl, rfl⟩
      clear hD
      obtain ⟨w5, rfl⟩ : ∃ W, W = wr := ⟨_, rfl⟩
      obtain ⟨A3, c3, t, rfl, h1, h2, h3, h4, h5, h6⟩ := HLF.out
      clear HLF
      have HLF : Hid (Left9 l k w5 (.slice A3 t.length c3)) := Lib.hid ⟨A3, c3, t, rfl, h1, h2, h3, h4, h5, h6⟩
      clear h1 h2 h3 h4 h5 h6
      go_wp2_with fail
      go_loopw [6] (fun y w2 => Left9 l k w5 y ∧ w2 = w5) (fun y _ => lenV y)
      case atStart => exact ⟨HLF.out, rfl⟩
      case round =>
        clear HLF
        obtain ⟨⟨A4, c4, t4, rfl, h1, h2, h3, h4, h5, h6⟩, rfl⟩ := hrel
        have hW := worked9 k wr
        obtain ⟨p, hp⟩ : ∃ p, (dayB k && decide (k % 7 < 5)) = p := ⟨_, rfl⟩
        rw [hp] at hW
        have HP := Lib.hid hp
        have HW := Lib.hid hW
        clear hp hW
        rcases t4 with _ | ⟨v, t4⟩
        · have hq : l.contains k = false := by
            cases hc : l.contains k with
            | false => rfl
            | true => exact absurd ((h4 k (Int.le_refl _)).2 (by simpa using hc)) (by simp)
          have HLF : Hid (Left9 l (k + 1) wr (.slice A4 ([] : List Int).length c4)) := Lib.hid ⟨A4, c4, [], rfl, h1, h2, h3, fun v hv => h4 v (by omega), h5, h6⟩
          have HO := Lib.hid (open_of (day_yes hk0 hke) HP.out hq)
          rw [show (([] : List Int).length) = 0 from rfl] at HLF ⊢
          clear h1 h2 h3 h4 h5 h6 hq
          go_wp2_with fail
          refine HW.out.mono ?_
          rintro e w9 ⟨rfl, rfl⟩
          clear HW
          rw [Bool.not_false, Bool.and_true] at HO
          rcases p with _ | _
          · go_wp2_with fail
            go_roundw
            case rel => exact ⟨k + 1, rfl, by omega, by omega, by rw [← nextD_no hke HO.out]; exact HN.out, HLF.out, rfl⟩
            case measure => simp [intOf]; omega
          · go_wp2_with fail
            go_ret2
            have e := HN.out
            rw [nextD_yes hke HO.out] at e
            refine ⟨fun y h => ?_, fun h => ?_, HB.out⟩
            · have h2 := e.trans h
              injection h2 with h2
              subst h2
              rfl
            · have h2 := e.trans h
              cases h2
        · obtain ⟨b, o, hA, _, c0⟩ := rv_at h5 (k := 0) (by simp)
          subst hA
          rw [Nat.add_zero] at c0
          have c0' : wr.cell? ⟨b, o, none⟩ = some (.int .i32 v) := by simpa using c0
          have hv := h6 v (List.mem_cons_self ..)
          rw [show ((v :: t4).length) = t4.length + 1 from rfl] at *
          have hcut := rv_cutH h5 (by simpa using h1)
          by_cases hvk : v < k
          · have HLF : Hid (Left9 l k wr (.slice (if c4 = 1 then some ⟨b, o, none⟩ else (some ⟨b, o, none⟩ : Option Addr).map (·.add 1)) t4.length (c4 - 1))) := Lib.hid ⟨_, c4 - 1, t4, rfl, by omega, by omega, h3.tail, fun u hu => by
              rw [← h4 u hu]
              constructor
              · exact List.mem_cons_of_mem _
              · intro h
                rcases List.mem_cons.1 h with rfl | h
                · omega
                · exact h, hcut, fun u hu => h6 u (List.mem_cons_of_mem _ hu)⟩
            clear h3 h4 h5 h6 hcut c0
            go_wp2_with fail
            go_roundw
            case rel => first | exact ⟨HLF.out, rfl⟩ | exact ⟨HLF.out, trivial⟩
            case measure => simp [lenV]
          · have hq : l.contains k = decide (v = k) := by
              by_cases e : v = k
              · rw [decide_eq_true e]
                have : k ∈ l := (h4 k (Int.le_refl _)).1 (by rw [e]; exact List.mem_cons_self ..)
                simpa using this
              · rw [decide_eq_false e]
                cases hc : l.contains k with
                | false => rfl
                | true =>
                  have hm := (h4 k (Int.le_refl _)).2 (by simpa using hc)
                  have := Ris.head t4 v h3 k hm
                  omega
            have HLF : Hid (Left9 l (k + 1) wr (.slice (some ⟨b, o, none⟩) (t4.length + 1) c4)) := Lib.hid ⟨some ⟨b, o, none⟩, c4, v :: t4, rfl, h1, h2, h3, fun u hu => h4 u (by omega), h5, h6⟩
            clear h3 h4 h5 h6 hcut c0
            by_cases hvk2 : v = k
            · have HO := Lib.hid (open_of (day_yes hk0 hke) HP.out (hq.trans (decide_eq_true hvk2)))
              clear hq
              subst hvk2
              go_wp2_with fail
              refine HW.out.mono ?_
              rintro e w9 ⟨rfl, rfl⟩
              clear HW
              rw [Bool.not_true, Bool.and_false] at HO
              rcases p with _ | _
              · go_wp2_with fail
                go_roundw
                case rel => exact ⟨v + 1, rfl, by omega, by omega, by rw [← nextD_no hke HO.out]; exact HN.out, HLF.out, rfl⟩
                case measure => simp [intOf]; omega
              · go_wp2_with fail
                go_roundw
                case rel => exact ⟨v + 1, rfl, by omega, by omega, by rw [← nextD_no hke HO.out]; exact HN.out, HLF.out, rfl⟩
                case measure => simp [intOf]; omega
            · have HO := Lib.hid (open_of (day_yes hk0 hke) HP.out (hq.trans (decide_eq_false hvk2)))
              have hbk : (v == k) = false := by simpa using hvk2
              clear hq
              go_wp2_with fail
              refine HW.out.mono ?_
              rintro e w9 ⟨rfl, rfl⟩
              clear HW
              rw [Bool.not_false, Bool.and_true] at HO
              rcases p with _ | _
              · go_wp2_with fail
                go_roundw
                case rel => exact ⟨k + 1, rfl, by omega, by omega, by rw [← nextD_no hke HO.out]; exact HN.out, HLF.out, rfl⟩
                case measure => simp [intOf]; omega
              · go_wp2_with fail
                go_ret2
                have e := HN.out
                rw [nextD_yes hke HO.out] at e
                refine ⟨fun y h => ?_, fun h => ?_, HB.out⟩
                · have h2 := e.trans h
                  injection h2 with h2
                  subst h2
                  rfl
                · have h2 := e.trans h
                  cases h2
    · have hD := DRight_any k wr
      rw [day_no (by omega)] at hD
      go_wp2_with fail
      refine hD.mono ?_
      rintro e w' ⟨rfl, rfl⟩
      clear hD
      go_wp2_with fail
      go_ret2
      have e := HN.out
      rw [nextD_end (by omega)] at e
      refine ⟨fun y h => ?_, fun h => ?_, HB.out⟩
      · have h2 := e.trans h
        cases h2
      · rfl
end Go.Proofs.YtkhjmbemjndcoaaGreatDoor
