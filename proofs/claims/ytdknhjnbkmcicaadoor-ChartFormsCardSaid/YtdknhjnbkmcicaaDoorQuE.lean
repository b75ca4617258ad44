/-
  A Lens: take, spoil, number. Conditions: the Lens is known.
-/
import Derived.Test.YtdknhjnbkmcicaaDoorQuD
namespace Go.Proofs.YtdknhjnbkmcicaaDoor
open Go.RowKit

section
variable (b g : Nat)
def SpPost (w : World) (e : Ending) (w' : World) : Prop := e = .returned (.tuple #[]) ∧ Ln w' b g none ∧ Far w w' b none
set_option maxRecDepth 20000 in
set_option maxHeartbeats 400000 in
theorem Spoil_any (st : Option (List UInt8)) (w : World) (h : Ln w b g st) :
    Calls Tryd.prog 63 #[.pointer (some ⟨b, 0, none⟩)] w (SpPost b g w) := by
  have hk : ∃ A n c x, Blk w b 95 #[.slice A n c, .bool x] := by
    cases st with
    | none => exact ⟨_, _, _, _, h⟩
    | some l =>
      obtain ⟨A, c, a1, a2, a3, a4, a5, a6, a7⟩ := h
      exact ⟨_, _, _, _, a5⟩
  obtain ⟨A, n, c, x, hk⟩ := hk
  have hk2 := hk.set_ 1 (.bool true)
  have hk3 := hk2.set_ 0 (.slice none 0 0)
  have HF := Lib.hid (((Far.refl w b none).set 1 (.bool true)).set 0 (.slice none 0 0))
  have c1 := hk.cell 1
  have f1 := hk.frozen 1
  have c0 := hk2.cell 0
  have f0 := hk2.frozen 0
  simp at c0 c1
  have HK := Lib.hid hk3
  clear h hk hk2 hk3
  go_enter Tryd.func63, Tryd.ntmps63
  go_wp2_with fail
  go_end0
  exact ⟨rfl, (by simpa using HK.out : Blk _ b 95 #[.slice none 0 0, .bool true]), HF.out⟩

/-- What take tells: the first n bytes, or nothing, and then the Lens isn't right. -/
def TkPost (n : Nat) (w : World) (st : Option (List UInt8)) (e : Ending) (w' : World) : Prop :=
  match st with
  | none => e = .returned (.slice none 0 0) ∧ w' = w
  | some l => if n ≤ l.length then (∃ A, e = .returned (.slice A n n) ∧ Rg w' g A (l.take n)) ∧ Ln w' b g (some (l.drop n)) ∧ Far w w' b none
      else e = .returned (.slice none 0 0) ∧ Ln w' b g none ∧ Far w w' b none
set_option maxRecDepth 20000 in
set_option maxHeartbeats 1000000 in
theorem Take_any (n : Nat) (hn : n < 18446744073709551616) (st : Option (List UInt8)) (w : World) (h : Ln w b g st):
    Calls Tryd.prog 72 #[.pointer (some ⟨b, 0, none⟩), .int .u64 (n : Int)] w (TkPost b g n w st) := by
  cases st with
  | none =>
    have hk : Blk w b 95 #[.slice none 0 0, .bool true] := h
    have c1 := hk.cell 1
    simp at c1
    clear h hk
    go_enter Tryd.func72, Tryd.ntmps72
    go_wp2_with fail
    go_ret
    exact ⟨rfl, rfl⟩
  | some l =>
    have hS := Spoil_any b g (some l) w h
    obtain ⟨A, c, a1, a2, a3, a4, hk, hrg, hgb⟩ := h
    unfold maxLen at a2
    have c0 := hk.cell 0
    have c1 := hk.cell 1
    have f0 := hk.frozen 0
    simp at c0 c1
    by_cases hle : n ≤ l.length
    · have hlt : ¬ l.length < n := by omega
      by_cases hcn : c = n
      · have hln : l.length = n := by omega
        have hd : l.drop n = [] := List.drop_of_length_le (by omega)
        have hk2 := hk.set_ 0 (.slice A (l.length - n) 0)
        have HK := Lib.hid (by simpa using hk2 : Blk (w.setCell ⟨b, 0, none⟩ (.slice A (l.length - n) 0)) b 95 #[.slice A (l.length - n) 0, .bool false])
        have HRG := Lib.hid ((hrg.past' ((Far.refl w b none).set 0 (.slice A (l.length - n) 0)) hgb (by simp)).take n)
        have HF := Lib.hid ((Far.refl w b none).set 0 (.slice A (l.length - n) 0))
        have HD := Lib.hid hd
        have HLN := Lib.hid hln
        clear hS hrg hk a3 hk2 hd hln
        go_enter Tryd.func72, Tryd.ntmps72
        go_wp2_with fail
        all_goals first | (exfalso; omega) | skip
        go_ret
        simp only [TkPost]
        rw [if_pos hle, HD.out]
        exact ⟨⟨A, rfl, HRG.out⟩, ⟨A, 0, by simp, by decide, fun _ => rfl, by simp, by have h := HK.out; rw [HLN.out, Nat.sub_self] at h; rw [HLN.out, Nat.sub_self]; exact h, Rg.nil_, fun _ => rfl⟩, HF.out⟩
      · have hcut := hrg.cut (k := n) a1
        rw [if_neg hcn] at hcut
        have hk2 := hk.set_ 0 (.slice (A.map (·.add n)) (l.length - n) (c - n))
        have HK := Lib.hid (by simpa using hk2 : Blk (w.setCell ⟨b, 0, none⟩ (.slice (A.map (·.add n)) (l.length - n) (c - n))) b 95 #[.slice (A.map (·.add n)) (l.length - n) (c - n), .bool false])
        have hf := (Far.refl w b none).set 0 (.slice (A.map (·.add n)) (l.length - n) (c - n))
        have HRG := Lib.hid ((hrg.past' hf hgb (by simp)).take n)
        have HCUT := Lib.hid (hcut.past' hf (fun e => by rw [hgb e]; simp) (by simp))
        have HF := Lib.hid hf
        have HAN := Lib.hid a3
        clear hS hrg hk a3 hk2 hcut hf
        go_enter Tryd.func72, Tryd.ntmps72
        go_wp2_with fail
        all_goals first | (exfalso; omega) | skip
        go_ret
        simp only [TkPost]
        rw [if_pos hle]
        exact ⟨⟨A, rfl, HRG.out⟩, ⟨A.map (·.add n), c - n, by simp; omega, by unfold maxLen; omega, fun e => by have := HAN.out (by cases A with | none => rfl | some a => cases e); omega, by simp; omega, by rw [List.length_drop]; exact HK.out, HCUT.out, fun e => by rw [hgb e]; simp⟩, HF.out⟩
    · have hlt : l.length < n := by omega
      have HS := Lib.hid hS
      clear hS hrg hk a3
      go_enter Tryd.func72, Tryd.ntmps72
      go_wp2_with fail
      refine HS.out.mono ?_
      rintro e w1 ⟨rfl, h1, h2⟩
      have H1 := Lib.hid h1
      have H2 := Lib.hid h2
      clear h1 h2
      go_wp2_with fail
      go_ret
      simp only [TkPost]
      rw [if_neg hle]
      exact ⟨rfl, H1.out, H2.out⟩
end
end Go.Proofs.YtdknhjnbkmcicaaDoor
