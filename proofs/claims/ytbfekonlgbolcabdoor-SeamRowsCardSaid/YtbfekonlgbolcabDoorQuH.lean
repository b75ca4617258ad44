/-
  A Lens's Text; the law's helpers lay and take. Conditions: the Quill, the Lens are known.
-/
import Derived.Test.YtbfekonlgbolcabDoorQuG
import Derived.Laws.BytesArg
namespace Go.Proofs.YtbfekonlgbolcabDoor
open Go.RowKit

theorem strOf_bytes (l : List UInt8) : strOfNums (l.map fun x => (x.toNat : Int)) = ⟨l.toArray⟩ := by
  unfold strOfNums
  rw [List.map_map]
  congr 2
  conv => rhs; rw [← List.map_id l]
  apply List.map_congr_left
  intro x _
  simp
theorem conv_rg {w : World} {g : Nat} {A : Option Addr} {l : List UInt8} {n c : Nat} (h : Rg w g A l) (hn : l.length = n) : (convert 22 9 (.slice A n c)).run Tryd.prog w = .ok (.string ⟨l.toArray⟩) w := by
  rcases Nat.eq_zero_or_pos l.length with h0 | h0
  · obtain rfl : l = [] := List.eq_nil_of_length_eq_zero h0
    subst hn
    cases A with
    | none =>
      have := run_convert_bytes_nil (P := Tryd.prog) w 22 5 Tryd.underlying22 Tryd.underlying5 ([] : List UInt8).length c 9 Tryd.underlying9
      exact this
    | some a =>
      have hl : (loadCells a 0).run Tryd.prog w = .ok (([] : List Int).map (Value.int .u8)).toArray w := by simp [loadCells, loadCellsFrom]
      have := run_bytesToString (P := Tryd.prog) w a 0 c [] hl
      rw [run_convert_bytes_string w 22 9 5 (some a) _ c Tryd.underlying22 Tryd.underlying5 Tryd.underlying9]
      exact this
  · obtain ⟨o, rfl, _, hc⟩ := h h0
    have := run_convert_bytes_arg (P := Tryd.prog) w 22 5 Tryd.underlying22 Tryd.underlying5 g o n c (l.map fun x => (x.toNat : Int)) (by rw [List.length_map]; exact hn)
      (fun i hi => by
        have hil : i < l.length := by omega
        rw [hc i _ (List.getElem?_eq_getElem hil)]
        simp [List.getD, hil]) 9 Tryd.underlying9
    rw [strOf_bytes] at this
    exact this

def tV (most : Nat) (st : Option (List UInt8)) : ByteArray := match st.bind (takeS most) with | some (t, _) => ⟨t.toArray⟩ | none => ⟨#[]⟩
def tS (most : Nat) (st : Option (List UInt8)) : Option (List UInt8) := match st.bind (takeS most) with | some (_, r) => some r | none => none

section
variable (b g : Nat)
def TtPost (most : Nat) (w : World) (st : Option (List UInt8)) (e : Ending) (w' : World) : Prop := e = .returned (.string (tV most st)) ∧ Ln w' b g (tS most st) ∧ Far w w' b none
set_option maxRecDepth 20000 in
set_option maxHeartbeats 1000000 in
theorem LText_any (most : Nat) (hm : most < 1000000) (st : Option (List UInt8)) (w : World) (h : Ln w b g st) :
    Calls Tryd.prog 24 #[.pointer (some ⟨b, 0, none⟩), .int .i64 (most : Int)] w (TtPost b g most w st) := by
  have hU := LUint_any b g most (by omega) st w h
  have ht : st.bind (takeS most) = (st.bind (takeU most)).bind fun x => if x.1 ≤ x.2.length then some (x.2.take x.1, x.2.drop x.1) else none := by
    cases st with
    | none => rfl
    | some l =>
      simp only [Option.bind_some, takeS]
      cases takeU most l with
      | none => rfl
      | some x => rfl
  have hm0 : ¬ (most : Int) < 0 := by omega
  have HU := Lib.hid hU
  clear hU h
  cases hb : st.bind (takeU most) with
  | none =>
    have u1 : uV most st = 0 := by unfold uV; rw [hb]
    have u2 : uS most st = none := by unfold uS; rw [hb]
    have e1 : tV most st = ⟨#[]⟩ := by unfold tV; rw [ht, hb]; rfl
    have e2 : tS most st = none := by unfold tS; rw [ht, hb]; rfl
    have U1 := Lib.hid u1
    have U2 := Lib.hid u2
    have E1 := Lib.hid e1
    have E2 := Lib.hid e2
    clear u1 u2 e1 e2 ht hb
    go_enter Tryd.func24, Tryd.ntmps24
    go_wp2_with fail
    all_goals first | (exfalso; omega) | skip
    refine HU.out.mono ?_
    rintro e w1 ⟨rfl, h1, h2⟩
    rw [U2.out] at h1
    have hT := Take_any b g 0 (by decide) none w1 h1
    have HT := Lib.hid hT
    have H1 := Lib.hid h1
    have H2 := Lib.hid h2
    have hcv := fun W : World => run_convert_bytes_nil (P := Tryd.prog) W 22 5 Tryd.underlying22 Tryd.underlying5 0 0 9 Tryd.underlying9
    rw [U1.out]
    clear h1 h2 hT
    go_wp2_with fail
    refine HT.out.mono ?_
    rintro e w2 ⟨rfl, rfl⟩
    go_wp2_with fail
    go_ret
    exact ⟨by rw [E1.out]; rfl, by rw [E2.out]; exact H1.out, H2.out⟩
  | some x =>
    obtain ⟨n, r⟩ := x
    have u1 : uV most st = n := by unfold uV; rw [hb]
    have u2 : uS most st = some r := by unfold uS; rw [hb]
    have hnm : n ≤ most := by
      cases st with
      | none => cases hb
      | some l =>
        simp only [Option.bind_some, takeU] at hb
        split at hb
        · split at hb
          · injection hb with hb; injection hb with hb _; omega
          · cases hb
        · cases hb
    by_cases hle : n ≤ r.length
    · have e1 : tV most st = ⟨(r.take n).toArray⟩ := by unfold tV; rw [ht, hb]; simp [hle]
      have e2 : tS most st = some (r.drop n) := by unfold tS; rw [ht, hb]; simp [hle]
      have U1 := Lib.hid u1
      have U2 := Lib.hid u2
      have E1 := Lib.hid e1
      have E2 := Lib.hid e2
      clear u1 u2 e1 e2 ht hb
      go_enter Tryd.func24, Tryd.ntmps24
      go_wp2_with fail
      all_goals first | (exfalso; omega) | skip
      refine HU.out.mono ?_
      rintro e w1 ⟨rfl, h1, h2⟩
      rw [U2.out] at h1
      have hT := Take_any b g n (by omega) (some r) w1 h1
      have HT := Lib.hid hT
      have H2 := Lib.hid h2
      rw [U1.out]
      clear h1 h2 hT
      go_wp2_with fail
      refine HT.out.mono ?_
      intro e w2 hp
      simp only [TkPost] at hp
      rw [if_pos hle] at hp
      obtain ⟨⟨A, rfl, hrg⟩, hl, hf⟩ := hp
      have hcv := conv_rg (c := n) hrg (by rw [List.length_take]; omega : (r.take n).length = n)
      have HL := Lib.hid hl
      have HF := Lib.hid (H2.out.trans hf (Stays.refl _ _))
      obtain ⟨S, hS⟩ : ∃ S : ByteArray, (⟨(r.take n).toArray⟩ : ByteArray) = S := ⟨_, rfl⟩
      rw [hS] at hcv E1
      clear hrg hl hf hS
      go_wp2_with fail
      go_ret
      exact ⟨by rw [E1.out]; rfl, by rw [E2.out]; exact HL.out, HF.out⟩
    · have e1 : tV most st = ⟨#[]⟩ := by unfold tV; rw [ht, hb]; simp [hle]
      have e2 : tS most st = none := by unfold tS; rw [ht, hb]; simp [hle]
      have U1 := Lib.hid u1
      have U2 := Lib.hid u2
      have E1 := Lib.hid e1
      have E2 := Lib.hid e2
      clear u1 u2 e1 e2 ht hb
      go_enter Tryd.func24, Tryd.ntmps24
      go_wp2_with fail
      all_goals first | (exfalso; omega) | skip
      refine HU.out.mono ?_
      rintro e w1 ⟨rfl, h1, h2⟩
      rw [U2.out] at h1
      have hT := Take_any b g n (by omega) (some r) w1 h1
      have HT := Lib.hid hT
      have H2 := Lib.hid h2
      rw [U1.out]
      have hcv := fun W : World => run_convert_bytes_nil (P := Tryd.prog) W 22 5 Tryd.underlying22 Tryd.underlying5 0 0 9 Tryd.underlying9
      clear h1 h2 hT
      go_wp2_with fail
      refine HT.out.mono ?_
      intro e w2 hp
      simp only [TkPost] at hp
      rw [if_neg hle] at hp
      obtain ⟨rfl, hl, hf⟩ := hp
      have HL := Lib.hid hl
      have HF := Lib.hid (H2.out.trans hf (Stays.refl _ _))
      clear hl hf
      go_wp2_with fail
      go_ret
      exact ⟨by rw [E1.out]; rfl, by rw [E2.out]; exact HL.out, HF.out⟩
end
end Go.Proofs.YtbfekonlgbolcabDoor
