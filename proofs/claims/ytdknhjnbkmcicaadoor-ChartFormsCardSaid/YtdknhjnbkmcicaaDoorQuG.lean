/-
  What a Lens tells: Uint, Int, Flag, Rest, End. Conditions: the Lens is known.
-/
import Derived.Test.YtdknhjnbkmcicaaDoorQuF
namespace Go.Proofs.YtdknhjnbkmcicaaDoor
open Go.RowKit

def uV (most : Nat) (st : Option (List UInt8)) : Nat := match st.bind (takeU most) with | some (n, _) => n | none => 0
def uS (most : Nat) (st : Option (List UInt8)) : Option (List UInt8) := match st.bind (takeU most) with | some (_, r) => some r | none => none
def iV (st : Option (List UInt8)) : Int := match st.bind takeI with | some (n, _) => n | none => 0
def iS (st : Option (List UInt8)) : Option (List UInt8) := match st.bind takeI with | some (_, r) => some r | none => none

section
variable (b g : Nat)
def UtPost (most : Nat) (w : World) (st : Option (List UInt8)) (e : Ending) (w' : World) : Prop := e = .returned (.int .u64 (uV most st : Int)) ∧ Ln w' b g (uS most st) ∧ Far w w' b none
def ItPost (w : World) (st : Option (List UInt8)) (e : Ending) (w' : World) : Prop := e = .returned (.int .i64 (iV st)) ∧ Ln w' b g (iS st) ∧ Far w w' b none

set_option maxRecDepth 20000 in
set_option maxHeartbeats 1000000 in
theorem LUint_any (most : Nat) (hm : most < 18446744073709551616) (st : Option (List UInt8)) (w : World) (h : Ln w b g st) :
    Calls Tryd.prog 45 #[.pointer (some ⟨b, 0, none⟩), .int .u64 (most : Int)] w (UtPost b g most w st) := by
  have hN := LNumber_any b g st w h
  have ht : st.bind (takeU most) = (st.bind numT).bind fun x => if x.1 = false ∧ x.2.1 ≤ most then some (x.2.1, x.2.2) else none := by
    cases st with
    | none => rfl
    | some l =>
      simp only [Option.bind_some, takeU]
      cases numT l with
      | none => rfl
      | some x =>
        obtain ⟨m, v, r⟩ := x
        cases m <;> simp
  have hlt : ∀ m v r, st.bind numT = some (m, v, r) → v < 18446744073709551616 := fun m v r e => by
    cases st with
    | none => cases e
    | some l => exact (numT_lt e).1
  unfold NmPost at hN
  cases hb : st.bind numT with
  | none =>
    rw [hb] at hN ht
    have e1 : uV most st = 0 := by unfold uV; rw [ht]; rfl
    have e2 : uS most st = none := by unfold uS; rw [ht]; rfl
    have HN := Lib.hid hN
    have E1 := Lib.hid e1
    have E2 := Lib.hid e2
    clear hN e1 e2 h ht hb hlt
    go_enter Tryd.func45, Tryd.ntmps45
    go_wp2_with fail
    refine HN.out.mono ?_
    rintro e w1 ⟨rfl, h1, h2⟩
    have H1 := Lib.hid h1
    have H2 := Lib.hid h2
    clear h1 h2
    have hmm : ¬ (most : Int) < 0 := by omega
    go_wp2_with fail
    go_ret
    exact ⟨by rw [E1.out]; rfl, by rw [E2.out]; exact H1.out, H2.out⟩
  | some x =>
    obtain ⟨m, v, r⟩ := x
    have hv := hlt m v r hb
    rw [hb] at hN ht
    cases m with
    | true =>
      have e1 : uV most st = 0 := by unfold uV; rw [ht]; rfl
      have e2 : uS most st = none := by unfold uS; rw [ht]; rfl
      have HN := Lib.hid hN
      have E1 := Lib.hid e1
      have E2 := Lib.hid e2
      clear hN e1 e2 h ht hb hlt
      go_enter Tryd.func45, Tryd.ntmps45
      go_wp2_with fail
      refine HN.out.mono ?_
      rintro e w1 ⟨rfl, h1, h2⟩
      have hS := Spoil_any b g _ w1 h1
      have HS := Lib.hid hS
      have H2 := Lib.hid h2
      clear h1 h2 hS
      rw [if_pos trivial]
      go_wp2_with fail
      refine HS.out.mono ?_
      rintro e w2 ⟨rfl, h1, h3⟩
      have H1 := Lib.hid h1
      have H3 := Lib.hid (H2.out.trans h3 (Stays.refl _ _))
      clear h1 h3
      go_wp2_with fail
      go_ret
      exact ⟨by rw [E1.out]; rfl, by rw [E2.out]; exact H1.out, H3.out⟩
    | false =>
      by_cases hle : v ≤ most
      · have e1 : uV most st = v := by unfold uV; rw [ht]; simp [hle]
        have e2 : uS most st = some r := by unfold uS; rw [ht]; simp [hle]
        have HN := Lib.hid hN
        have E1 := Lib.hid e1
        have E2 := Lib.hid e2
        clear hN e1 e2 h ht hb hlt
        go_enter Tryd.func45, Tryd.ntmps45
        go_wp2_with fail
        refine HN.out.mono ?_
        rintro e w1 ⟨rfl, h1, h2⟩
        have H1 := Lib.hid h1
        have H2 := Lib.hid h2
        clear h1 h2
        have hle' : ¬ most < v := by omega
        rw [if_neg (by simp)]
        go_wp2_with fail
        go_ret
        exact ⟨by rw [E1.out]; rfl, by rw [E2.out]; exact H1.out, H2.out⟩
      · have e1 : uV most st = 0 := by unfold uV; rw [ht]; simp [hle]
        have e2 : uS most st = none := by unfold uS; rw [ht]; simp [hle]
        have HN := Lib.hid hN
        have E1 := Lib.hid e1
        have E2 := Lib.hid e2
        clear hN e1 e2 h ht hb hlt
        go_enter Tryd.func45, Tryd.ntmps45
        go_wp2_with fail
        refine HN.out.mono ?_
        rintro e w1 ⟨rfl, h1, h2⟩
        have hS := Spoil_any b g _ w1 h1
        have HS := Lib.hid hS
        have H2 := Lib.hid h2
        clear h1 h2 hS
        have hle' : most < v := by omega
        rw [if_neg (by simp)]
        go_wp2_with fail
        refine HS.out.mono ?_
        rintro e w2 ⟨rfl, h1, h3⟩
        have H1 := Lib.hid h1
        have H3 := Lib.hid (H2.out.trans h3 (Stays.refl _ _))
        clear h1 h3
        go_wp2_with fail
        go_ret
        exact ⟨by rw [E1.out]; rfl, by rw [E2.out]; exact H1.out, H3.out⟩

set_option maxRecDepth 20000 in
set_option maxHeartbeats 1000000 in
theorem LInt_any (st : Option (List UInt8)) (w : World) (h : Ln w b g st) :
    Calls Tryd.prog 46 #[.pointer (some ⟨b, 0, none⟩)] w (ItPost b g w st) := by
  have hN := LNumber_any b g st w h
  have ht : st.bind takeI = (st.bind numT).bind fun x => if x.2.1 < 9223372036854775808 then some (if x.1 then -1 - (x.2.1 : Int) else x.2.1, x.2.2) else none := by
    cases st with
    | none => rfl
    | some l =>
      simp only [Option.bind_some, takeI]
      cases numT l with
      | none => rfl
      | some x => rfl
  have hlt : ∀ m v r, st.bind numT = some (m, v, r) → v < 18446744073709551616 := fun m v r e => by
    cases st with
    | none => cases e
    | some l => exact (numT_lt e).1
  unfold NmPost at hN
  cases hb : st.bind numT with
  | none =>
    rw [hb] at hN ht
    have e1 : iV st = 0 := by unfold iV; rw [ht]; rfl
    have e2 : iS st = none := by unfold iS; rw [ht]; rfl
    have HN := Lib.hid hN
    have E1 := Lib.hid e1
    have E2 := Lib.hid e2
    clear hN e1 e2 h ht hb hlt
    go_enter Tryd.func46, Tryd.ntmps46
    go_wp2_with fail
    refine HN.out.mono ?_
    rintro e w1 ⟨rfl, h1, h2⟩
    have H1 := Lib.hid h1
    have H2 := Lib.hid h2
    clear h1 h2
    go_wp2_with fail
    go_ret
    exact ⟨by rw [E1.out]; rfl, by rw [E2.out]; exact H1.out, H2.out⟩
  | some x =>
    obtain ⟨m, v, r⟩ := x
    have hv := hlt m v r hb
    rw [hb] at hN ht
    by_cases hle : v < 9223372036854775808
    · cases m with
      | true =>
        have e1 : iV st = -1 - (v : Int) := by unfold iV; rw [ht]; simp [hle]
        have e2 : iS st = some r := by unfold iS; rw [ht]; simp [hle]
        have HN := Lib.hid hN
        have E1 := Lib.hid e1
        have E2 := Lib.hid e2
        clear hN e1 e2 h ht hb hlt
        go_enter Tryd.func46, Tryd.ntmps46
        go_wp2_with fail
        refine HN.out.mono ?_
        rintro e w1 ⟨rfl, h1, h2⟩
        have H1 := Lib.hid h1
        have H2 := Lib.hid h2
        clear h1 h2
        have hle' : ¬ (9223372036854775807 : Int) < (v : Int) := by omega
        rw [if_pos trivial]
        go_wp2_with fail
        go_ret
        exact ⟨by rw [E1.out]; rfl, by rw [E2.out]; exact H1.out, H2.out⟩
      | false =>
        have e1 : iV st = (v : Int) := by unfold iV; rw [ht]; simp [hle]
        have e2 : iS st = some r := by unfold iS; rw [ht]; simp [hle]
        have HN := Lib.hid hN
        have E1 := Lib.hid e1
        have E2 := Lib.hid e2
        clear hN e1 e2 h ht hb hlt
        go_enter Tryd.func46, Tryd.ntmps46
        go_wp2_with fail
        refine HN.out.mono ?_
        rintro e w1 ⟨rfl, h1, h2⟩
        have H1 := Lib.hid h1
        have H2 := Lib.hid h2
        clear h1 h2
        have hle' : ¬ (9223372036854775807 : Int) < (v : Int) := by omega
        rw [if_neg (by simp)]
        go_wp2_with fail
        go_ret
        exact ⟨by rw [E1.out]; rfl, by rw [E2.out]; exact H1.out, H2.out⟩
    · have e1 : iV st = 0 := by unfold iV; rw [ht]; simp [hle]
      have e2 : iS st = none := by unfold iS; rw [ht]; simp [hle]
      obtain ⟨M, hM⟩ : ∃ M : Int, (if m = true then (128 : Int) else 0) = M := ⟨_, rfl⟩
      simp only [hM] at hN
      have HN := Lib.hid hN
      have E1 := Lib.hid e1
      have E2 := Lib.hid e2
      clear hN e1 e2 h ht hb hlt hM
      go_enter Tryd.func46, Tryd.ntmps46
      go_wp2_with fail
      refine HN.out.mono ?_
      rintro e w1 ⟨rfl, h1, h2⟩
      have hS := Spoil_any b g _ w1 h1
      have HS := Lib.hid hS
      have H2 := Lib.hid h2
      clear h1 h2 hS
      have hle' : (9223372036854775807 : Int) < (v : Int) := by omega
      go_wp2_with fail
      refine HS.out.mono ?_
      rintro e w2 ⟨rfl, h1, h3⟩
      have H1 := Lib.hid h1
      have H3 := Lib.hid (H2.out.trans h3 (Stays.refl _ _))
      clear h1 h3
      go_wp2_with fail
      go_ret
      exact ⟨by rw [E1.out]; rfl, by rw [E2.out]; exact H1.out, H3.out⟩

def FtPost (w : World) (st : Option (List UInt8)) (e : Ending) (w' : World) : Prop := e = .returned (.bool (uV 1 st == 1)) ∧ Ln w' b g (uS 1 st) ∧ Far w w' b none
/-- How many bytes are left. -/
def rest (st : Option (List UInt8)) : Nat := match st with | some l => l.length | none => 0
set_option maxRecDepth 20000 in
set_option maxHeartbeats 1000000 in
theorem LEnd_any (st : Option (List UInt8)) (w : World) (h : Ln w b g st) :
    Calls Tryd.prog 32 #[.pointer (some ⟨b, 0, none⟩)] w fun e w' => e = .returned (if st = some [] then .nilIface else .iface 51 (.int .i64 2)) ∧ w = w' := by
  match st, h with
  | none, h =>
    have hk : Blk w b 95 #[.slice none 0 0, .bool true] := h
    have c0 := hk.cell 0
    have c1 := hk.cell 1
    simp at c0 c1
    clear h hk
    rw [if_neg (by simp)]
    go_enter Tryd.func32, Tryd.ntmps32
    go_wp2_with fail
    go_ret
    exact ⟨rfl, rfl⟩
  | some [], h =>
    obtain ⟨A, c, a1, a2, a3, a4, hk, hrg, _⟩ := h
    have c0 := hk.cell 0
    have c1 := hk.cell 1
    simp at c0 c1
    clear hk hrg a3
    rw [if_pos rfl]
    go_enter Tryd.func32, Tryd.ntmps32
    go_wp2_with fail
    go_ret
    exact ⟨rfl, rfl⟩
  | some (x :: l), h =>
    obtain ⟨A, c, a1, a2, a3, a4, hk, hrg, _⟩ := h
    have c0 := hk.cell 0
    have c1 := hk.cell 1
    simp at c0 c1
    rw [List.length_cons] at *
    have hp : (0 : Int) < ((l.length + 1 : Nat) : Int) := by omega
    clear hk hrg a3
    rw [if_neg (by simp)]
    go_enter Tryd.func32, Tryd.ntmps32
    go_wp2_with fail
    go_ret
    exact ⟨rfl, rfl⟩
end
end Go.Proofs.YtdknhjnbkmcicaaDoor
