/-
A Lens's number. Conditions: the Lens is known.
What a Lens tells: Uint, Int, Flag, Rest, End. Conditions: the Lens is known.
What a Lens tells of numbers that were laid; a Quill that has written since a world. Conditions: the Quill is known.
Terms as bytes: what is laid, what is read of any bytes; terms that are Right and alike in their bytes are the same. Plain mathematics.
terms.Bytes. No condition but the numbers' kinds.
-/
import Derived.Test.YtjlajnackecfgaaGreatDoorQuEW9
import Derived.Laws.BitsAllLaws
import Derived.Deep.QuietTactic
import Derived.BigQuiet
import Derived.Test.YtjlajnackecfgaaGreatDoorTrmBW9
import Derived.Deep.RegionHeld3
namespace Go.Proofs.YtjlajnackecfgaaGreatDoor
open Go.RowKit

theorem and128 (f : UInt8) : bits .and .u8 (f.toNat : Int) 128 = if 128 ≤ f.toNat then 128 else 0 := by
  have h : f.toNat < 256 := f.toNat_lt
  have key : ∀ k : Fin 256, k.val &&& 128 = if 128 ≤ k.val then 128 else 0 := by decide +kernel
  rw [u8_and _ _ (by omega) (by omega) (by omega) (by omega)]
  have := key ⟨f.toNat, h⟩
  simp only at this
  rw [Int.toNat_natCast, show (128 : Int).toNat = 128 from rfl, this]
  split <;> rfl
theorem not128 (f : UInt8) : bits .andNot .u8 (f.toNat : Int) 128 = ((f.toNat % 128 : Nat) : Int) := by
  have h : f.toNat < 256 := f.toNat_lt
  have key : ∀ k : Fin 256, k.val &&& 127 = k.val % 128 := by decide +kernel
  rw [u8_andNot _ _ (by omega) (by omega) (by omega) (by omega)]
  have := key ⟨f.toNat, h⟩
  simp only at this
  rw [Int.toNat_natCast, show (255 - (128 : Int).toNat) = 127 from rfl, this]

theorem or_byte (V : Nat) (u : UInt8) (hV : V < 72057594037927936) : bits .or .u64 ((V : Int) * 256) (IntKind.u64.wrap (u.toNat : Int)) = ((256 * V + u.toNat : Nat) : Int) := by
  have hu : u.toNat < 256 := u.toNat_lt
  have hw : IntKind.u64.wrap (u.toNat : Int) = (u.toNat : Int) := by
    rw [IntKind.wrap_u64]
    omega
  rw [hw, show (V : Int) * 256 = ((V * 256 : Nat) : Int) by omega, u64_or _ _ (by omega) (by omega) (by omega) (by omega), Int.toNat_natCast, Int.toNat_natCast, nat_join 8 _ _ (by omega) (by omega)]
  omega
section
variable (b g : Nat)
def NmPost (w : World) (st : Option (List UInt8)) (e : Ending) (w' : World) : Prop :=
  match st.bind numT with
  | some (m, v, r) => e = .returned (.tuple #[.int .u8 (if m then 128 else 0), .int .u64 (v : Int)]) ∧ Ln w' b g (some r) ∧ Far w w' b none
  | none => e = .returned (.tuple #[.int .u8 0, .int .u64 0]) ∧ Ln w' b g none ∧ Far w w' b none
set_option maxRecDepth 20000 in
set_option maxHeartbeats 2000000 in
theorem LNumber_any (st : Option (List UInt8)) (w : World) (h : Ln w b g st) :
    Calls Tryz.prog 63 #[.pointer (some ⟨b, 0, none⟩)] w (NmPost b g w st) := by
  have hT := Take_any b g 1 (by decide) st w h
  match st, h with
  | none, h =>
    have HT := Lib.hid hT
    have HL := Lib.hid h
    clear hT h
    go_enter Tryz.func63, Tryz.ntmps63
    go_wp2_with fail
    refine HT.out.mono ?_
    rintro e w1 ⟨rfl, rfl⟩
    go_wp2_with fail
    go_ret2
    exact ⟨rfl, HL.out, Far.refl _ _ _⟩
  | some [], h =>
    have HT := Lib.hid hT
    clear hT h
    go_enter Tryz.func63, Tryz.ntmps63
    go_wp2_with fail
    refine HT.out.mono ?_
    intro e w1 hp
    simp only [TkPost] at hp
    rw [if_neg (by simp)] at hp
    obtain ⟨rfl, h1, h2⟩ := hp
    have H1 := Lib.hid h1
    have H2 := Lib.hid h2
    clear h1 h2
    go_wp2_with fail
    go_ret2
    exact ⟨rfl, H1.out, H2.out⟩
  | some (f :: s), h =>
    have hf : f.toNat < 256 := f.toNat_lt
    have ea := and128 f
    have en := not128 f
    obtain ⟨K, hK⟩ : ∃ K, f.toNat % 128 = K := ⟨_, rfl⟩
    rw [hK] at en
    have hK2 : K < 128 := by omega
    obtain ⟨M, hM⟩ : ∃ M : Int, (if 128 ≤ f.toNat then (128 : Int) else 0) = M := ⟨_, rfl⟩
    rw [hM] at ea
    have HT := Lib.hid hT
    clear hT h
    have HNT : Hid (numT (f :: s) = if 8 < K ∨ s.length < K ∨ (0 < K ∧ (s.getD 0 0).toNat = 0) then none else some (decide (128 ≤ f.toNat), val (s.take K), s.drop K)) := Lib.hid (by simp only [numT]; rw [hK])
    have HMM := Lib.hid hM
    clear hM hK
    go_enter Tryz.func63, Tryz.ntmps63
    go_wp2_with fail
    refine HT.out.mono ?_
    intro e w1 hp
    simp only [TkPost] at hp
    rw [if_pos (by simp)] at hp
    obtain ⟨⟨A, rfl, hrg⟩, hl, hfar⟩ := hp
    have hrg' : Rg w1 g A [f] := hrg
    have hl' : Ln w1 b g (some s) := hl
    obtain ⟨o, rfl, hg, hc⟩ := hrg' (by simp)
    have c0 : w1.cell? ⟨g, o, none⟩ = some (.int .u8 (f.toNat : Int)) := by simpa using hc 0 f rfl
    have HL := Lib.hid hl'
    have HF := Lib.hid hfar
    clear hrg hl hrg' hl' hc hfar
    go_wp2_with fail
    go_quiet (fail)
    have hz2 : g < (w1.drewN nq).heap.size := hg
    have HL2 : Hid (Ln (w1.drewN nq) b g (some s)) := Lib.hid HL.out
    have HF2 : Hid (Far w (w1.drewN nq) b none) := Lib.hid HF.out
    obtain ⟨w2, hw2⟩ : ∃ W, w1.drewN nq = W := ⟨_, rfl⟩
    rw [hw2] at HL2 HF2
    try rw [hw2]
    clear HL HF c0 hz2 hg ea en
    by_cases h8 : 8 < K
    · have hS := Spoil_any b g (some s) w2 HL2.out
      have hN : numT (f :: s) = none := by rw [HNT.out, if_pos (.inl h8)]
      have HN := Lib.hid hN
      have HS := Lib.hid hS
      clear hS hN
      go_wp2_with fail
      refine HS.out.mono ?_
      rintro e w3 ⟨rfl, h1, h2⟩
      have H1 := Lib.hid h1
      have H2 := Lib.hid (HF2.out.trans h2 (Stays.refl _ _))
      clear h1 h2
      go_wp2_with fail
      go_ret2
      simp only [NmPost, Option.bind_some, HN.out]
      exact ⟨rfl, H1.out, H2.out⟩
    · have hT2 := Take_any b g K (by omega) (some s) w2 HL2.out
      by_cases hle : K ≤ s.length
      · have HT2 := Lib.hid hT2
        clear hT2 HT
        go_wp2_with fail
        refine HT2.out.mono ?_
        intro e w3 hp
        simp only [TkPost] at hp
        rw [if_pos hle] at hp
        obtain ⟨⟨A2, rfl, hrg2⟩, hl2, hfar2⟩ := hp
        have HRG := Lib.hid hrg2
        have HL3 := Lib.hid hl2
        have HF3 := Lib.hid (HF2.out.trans hfar2 (Stays.refl _ _))
        have htl : (s.take K).length = K := by rw [List.length_take]; omega
        have hgd : 0 < K → (s.take K).getD 0 0 = s.getD 0 0 := fun h => by
          cases s with
          | nil => simp at hle; omega
          | cons x t =>
            cases K with
            | zero => omega
            | succ k => rfl
        have HGD := Lib.hid hgd
        have HTL := Lib.hid htl
        obtain ⟨T, hT⟩ : ∃ T, s.take K = T := ⟨_, rfl⟩
        rw [hT] at HRG HNT HGD HTL
        clear hrg2 hl2 hfar2 hw2 htl hgd hT
        have hnz : ¬ (0 < K ∧ (s.getD 0 0).toNat = 0) → Calls Tryz.prog 63 #[.pointer (some ⟨b, 0, none⟩)] w (NmPost b g w (some (f :: s))) → True := fun _ _ => trivial
        clear hnz
        by_cases hz : 0 < K ∧ (s.getD 0 0).toNat = 0
        · have hN : numT (f :: s) = none := by rw [HNT.out, if_pos (.inr (.inr hz))]
          have HN := Lib.hid hN
          obtain ⟨hk, h0⟩ := hz
          have hTl : 0 < T.length := by rw [HTL.out]; exact hk
          obtain ⟨o2, rfl, hg2, hc2⟩ := HRG.out hTl
          have hc3 := hc2 0 _ (List.getElem?_eq_getElem hTl)
          have e0 : (T[0]'hTl).toNat = 0 := by
            have := HGD.out hk
            rw [show T.getD 0 0 = T[0]'hTl by simp [List.getD, hTl]] at this
            rw [this]
            exact h0
          rw [e0] at hc3
          have c3 : w3.cell? ⟨g, o2, none⟩ = some (.int .u8 0) := by simpa using hc3
          have hS := Spoil_any b g _ w3 HL3.out
          have HS := Lib.hid hS
          have hk0 : (0 : Int) < (K : Int) := by omega
          clear hN hc2 hc3 e0 h0 hS hg2 hTl
          go_wp2_with fail
          refine HS.out.mono ?_
          rintro e w4 ⟨rfl, h1, h2⟩
          have H1 := Lib.hid h1
          have H2 := Lib.hid (HF3.out.trans h2 (Stays.refl _ _))
          clear h1 h2
          go_wp2_with fail
          go_ret2
          simp only [NmPost, Option.bind_some, HN.out]
          exact ⟨rfl, H1.out, H2.out⟩
        · have hN : numT (f :: s) = some (decide (128 ≤ f.toNat), val T, s.drop K) := by rw [HNT.out, if_neg (by omega)]
          have HN := Lib.hid hN
          clear hN
          have key : ∀ hcell : (0 < K → ∃ (o2 : Nat) (u : UInt8), A2 = some ⟨g, o2, none⟩ ∧ w3.cell? ⟨g, o2, none⟩ = some (.int .u8 (u.toNat : Int)) ∧ u.toNat ≠ 0), True := fun _ => trivial
          clear key
          by_cases hk : 0 < K
          · have hTl : 0 < T.length := by rw [HTL.out]; exact hk
            obtain ⟨o2, rfl, hg2, hc2⟩ := HRG.out hTl
            have hc3 := hc2 0 _ (List.getElem?_eq_getElem hTl)
            have e0 : (T[0]'hTl).toNat ≠ 0 := by
              have := HGD.out hk
              rw [show T.getD 0 0 = T[0]'hTl by simp [List.getD, hTl]] at this
              rw [this]
              exact fun h => hz ⟨hk, h⟩
            obtain ⟨u, hu⟩ : ∃ u, T[0]'hTl = u := ⟨_, rfl⟩
            rw [hu] at hc3 e0
            have c3 : w3.cell? ⟨g, o2, none⟩ = some (.int .u8 (u.toNat : Int)) := by simpa using hc3
            have q1 : ((u.toNat : Int) == 0) = false := by rw [beq_eq_false_iff_ne]; omega
            have q2 : ¬ (u.toNat : Int) = 0 := by omega
            have hk0 : (0 : Int) < (K : Int) := by omega
            have HC := Lib.hid hc2
            clear hc2 hc3 e0 hu hz hg2 hTl
            go_wp2_with fail
            clear c3 q1 q2
            go_loop [8, 51] (fun t i => ∃ k : Nat, k ≤ K ∧ i = .int .i64 k ∧ t = .int .u64 (val (T.take k) : Nat)) (fun _ i => K - (intOf i).toNat)
            case atStart => exact ⟨0, Nat.zero_le _, rfl, rfl⟩
            case round =>
              obtain ⟨k, hkk, rfl, rfl⟩ := hrel
              by_cases hlt : k < K
              · have hTk : k < T.length := by rw [HTL.out]; exact hlt
                have hc3 := HC.out k _ (List.getElem?_eq_getElem hTk)
                obtain ⟨u2, hu2⟩ : ∃ u, T[k]'hTk = u := ⟨_, rfl⟩
                rw [hu2] at hc3
                have hts : T.take (k + 1) = T.take k ++ [u2] := by rw [List.take_succ_eq_append_getElem hTk, hu2]
                have hv : val (T.take (k + 1)) = 256 * val (T.take k) + u2.toNat := by rw [hts, val_snoc]
                have hvl := val_lt (T.take k)
                have hlen : (T.take k).length = k := by rw [List.length_take]; omega
                rw [hlen] at hvl
                have hp7 : (256 : Nat) ^ k ≤ 256 ^ 7 := Nat.pow_le_pow_right (by decide) (by omega)
                obtain ⟨V, hV⟩ : ∃ V, val (T.take k) = V := ⟨_, rfl⟩
                have hV7 : V < 72057594037927936 := by rw [← hV]; exact Nat.lt_of_lt_of_le hvl hp7
                rw [hV] at hv ⊢
                have HV := Lib.hid hv
                clear hv hts hvl hlen hp7 hV hu2
                go_wp2_with fail
                go_round
                case rel => exact ⟨k + 1, by omega, by go_num, by rw [or_byte V u2 hV7, HV.out]⟩
                case measure => simp [intOf]; omega
              · obtain rfl : k = K := by omega
                go_wp2_with fail
                go_ret2
                simp only [NmPost, Option.bind_some, HN.out]
                refine ⟨?_, HL3.out, HF3.out⟩
                rw [List.take_of_length_le (by rw [HTL.out]; exact Nat.le_refl _), ← HMM.out]
                simp only [decide_eq_true_eq]
                rfl
          · obtain rfl : K = 0 := by omega
            have hT0 : T = [] := List.eq_nil_of_length_eq_zero HTL.out
            subst hT0
            clear hz
            go_wp2_with fail
            go_loop [8, 51] (fun t i => ∃ k : Nat, k ≤ 0 ∧ i = .int .i64 k ∧ t = .int .u64 0) (fun _ i => 0 - (intOf i).toNat)
            case atStart => exact ⟨0, Nat.zero_le _, rfl, rfl⟩
            case round =>
              obtain ⟨k, hkk, rfl, rfl⟩ := hrel
              obtain rfl : k = 0 := by omega
              go_wp2_with fail
              go_ret2
              simp only [NmPost, Option.bind_some, HN.out]
              refine ⟨?_, HL3.out, HF3.out⟩
              rw [← HMM.out]
              simp only [decide_eq_true_eq]
              rfl
      · have hN : numT (f :: s) = none := by rw [HNT.out, if_pos (.inr (.inl (by omega)))]
        have HN := Lib.hid hN
        have HT2 := Lib.hid hT2
        clear hT2 hN HT
        have hk0 : (0 : Int) < (K : Int) := by omega
        go_wp2_with fail
        refine HT2.out.mono ?_
        intro e w3 hp
        simp only [TkPost] at hp
        rw [if_neg hle] at hp
        obtain ⟨rfl, h1, h2⟩ := hp
        have hS := Spoil_any b g none w3 h1
        have HS := Lib.hid hS
        have HF3 := Lib.hid (HF2.out.trans h2 (Stays.refl _ _))
        clear h1 h2 hS hw2
        go_wp2_with fail
        refine HS.out.mono ?_
        rintro e w4 ⟨rfl, h1, h2⟩
        have H1 := Lib.hid h1
        have H2 := Lib.hid (HF3.out.trans h2 (Stays.refl _ _))
        clear h1 h2
        go_wp2_with fail
        go_ret2
        simp only [NmPost, Option.bind_some, HN.out]
        exact ⟨rfl, H1.out, H2.out⟩
end
end Go.Proofs.YtjlajnackecfgaaGreatDoor
namespace Go.Proofs.YtjlajnackecfgaaGreatDoor
open Go.RowKit

def uV (most : Nat) (st : Option (List UInt8)) : Nat := match st.bind (takeU most) with | some (n, _) => n | none => 0
def uS (most : Nat) (st : Option (List UInt8)) : Option (List UInt8) := match st.bind (takeU most) with | some (_, r) => some r | none => none
def iV (st : Option (List UInt8)) : Int := match st.bind takeI with | some (n, _) => n | none => 0
def iS (st : Option (List UInt8)) : Option (List UInt8) := match st.bind takeI with | some (_, r) => some r | none => none

section
variable (b g : Nat)
def UtPost (most : Nat) (w : World) (st : Option (List UInt8)) (e : Ending) (w' : World) : Prop := e = .returned (.int .u64 (uV most st : Int)) ∧ Ln w' b g (uS most st) ∧ Far w w' b none
def ItPost (w : World) (st : Option (List UInt8)) (e : Ending) (w' : World) : Prop := e = .returned (.int .i64 (iV st)) ∧ Ln w' b g (iS st) ∧ Far w w' b none

set_option maxRecDepth 20000 in
set_option maxHeartbeats 1000000 in
theorem LUint_any (most : Nat) (hm : most < 18446744073709551616) (st : Option (List UInt8)) (w : World) (h : Ln w b g st) :
    Calls Tryz.prog 32 #[.pointer (some ⟨b, 0, none⟩), .int .u64 (most : Int)] w (UtPost b g most w st) := by
  have hN := LNumber_any b g st w h
  have ht : st.bind (takeU most) = (st.bind numT).bind fun x => if x.1 = false ∧ x.2.1 ≤ most then some (x.2.1, x.2.2) else none := by
    cases st with
    | none => rfl
    | some l =>
      simp only [Option.bind_some, takeU]
      cases numT l with
      | none => rfl
      | some x =>
        obtain ⟨m, v, r⟩ := x
        cases m <;> simp
  have hlt : ∀ m v r, st.bind numT = some (m, v, r) → v < 18446744073709551616 := fun m v r e => by
    cases st with
    | none => cases e
    | some l => exact (numT_lt e).1
  unfold NmPost at hN
  cases hb : st.bind numT with
  | none =>
    rw [hb] at hN ht
    have e1 : uV most st = 0 := by unfold uV; rw [ht]; rfl
    have e2 : uS most st = none := by unfold uS; rw [ht]; rfl
    have HN := Lib.hid hN
    have E1 := Lib.hid e1
    have E2 := Lib.hid e2
    clear hN e1 e2 h ht hb hlt
    go_enter Tryz.func32, Tryz.ntmps32
    go_wp2_with fail
    refine HN.out.mono ?_
    rintro e w1 ⟨rfl, h1, h2⟩
    have H1 := Lib.hid h1
    have H2 := Lib.hid h2
    clear h1 h2
    have hmm : ¬ (most : Int) < 0 := by omega
    go_wp2_with fail
    go_ret
    exact ⟨by rw [E1.out]; rfl, by rw [E2.out]; exact H1.out, H2.out⟩
  | some x =>
    obtain ⟨m, v, r⟩ := x
    have hv := hlt m v r hb
    rw [hb] at hN ht
    cases m with
    | true =>
      have e1 : uV most st = 0 := by unfold uV; rw [ht]; rfl
      have e2 : uS most st = none := by unfold uS; rw [ht]; rfl
      have HN := Lib.hid hN
      have E1 := Lib.hid e1
      have E2 := Lib.hid e2
      clear hN e1 e2 h ht hb hlt
      go_enter Tryz.func32, Tryz.ntmps32
      go_wp2_with fail
      refine HN.out.mono ?_
      rintro e w1 ⟨rfl, h1, h2⟩
      have hS := Spoil_any b g _ w1 h1
      have HS := Lib.hid hS
      have H2 := Lib.hid h2
      clear h1 h2 hS
      rw [if_pos trivial]
      go_wp2_with fail
      refine HS.out.mono ?_
      rintro e w2 ⟨rfl, h1, h3⟩
      have H1 := Lib.hid h1
      have H3 := Lib.hid (H2.out.trans h3 (Stays.refl _ _))
      clear h1 h3
      go_wp2_with fail
      go_ret
      exact ⟨by rw [E1.out]; rfl, by rw [E2.out]; exact H1.out, H3.out⟩
    | false =>
      by_cases hle : v ≤ most
      · have e1 : uV most st = v := by unfold uV; rw [ht]; simp [hle]
        have e2 : uS most st = some r := by unfold uS; rw [ht]; simp [hle]
        have HN := Lib.hid hN
        have E1 := Lib.hid e1
        have E2 := Lib.hid e2
        clear hN e1 e2 h ht hb hlt
        go_enter Tryz.func32, Tryz.ntmps32
        go_wp2_with fail
        refine HN.out.mono ?_
        rintro e w1 ⟨rfl, h1, h2⟩
        have H1 := Lib.hid h1
        have H2 := Lib.hid h2
        clear h1 h2
        have hle' : ¬ most < v := by omega
        rw [if_neg (by simp)]
        go_wp2_with fail
        go_ret
        exact ⟨by rw [E1.out]; rfl, by rw [E2.out]; exact H1.out, H2.out⟩
      · have e1 : uV most st = 0 := by unfold uV; rw [ht]; simp [hle]
        have e2 : uS most st = none := by unfold uS; rw [ht]; simp [hle]
        have HN := Lib.hid hN
        have E1 := Lib.hid e1
        have E2 := Lib.hid e2
        clear hN e1 e2 h ht hb hlt
        go_enter Tryz.func32, Tryz.ntmps32
        go_wp2_with fail
        refine HN.out.mono ?_
        rintro e w1 ⟨rfl, h1, h2⟩
        have hS := Spoil_any b g _ w1 h1
        have HS := Lib.hid hS
        have H2 := Lib.hid h2
        clear h1 h2 hS
        have hle' : most < v := by omega
        rw [if_neg (by simp)]
        go_wp2_with fail
        refine HS.out.mono ?_
        rintro e w2 ⟨rfl, h1, h3⟩
        have H1 := Lib.hid h1
        have H3 := Lib.hid (H2.out.trans h3 (Stays.refl _ _))
        clear h1 h3
        go_wp2_with fail
        go_ret
        exact ⟨by rw [E1.out]; rfl, by rw [E2.out]; exact H1.out, H3.out⟩

def FtPost (w : World) (st : Option (List UInt8)) (e : Ending) (w' : World) : Prop := e = .returned (.bool (uV 1 st == 1)) ∧ Ln w' b g (uS 1 st) ∧ Far w w' b none
/-- How many bytes are left. -/
def rest (st : Option (List UInt8)) : Nat := match st with | some l => l.length | none => 0
set_option maxRecDepth 20000 in
set_option maxHeartbeats 1000000 in
theorem LEnd_any (st : Option (List UInt8)) (w : World) (h : Ln w b g st) :
    Calls Tryz.prog 36 #[.pointer (some ⟨b, 0, none⟩)] w fun e w' => e = .returned (if st = some [] then .nilIface else .iface 54 (.int .i64 2)) ∧ w = w' := by
  match st, h with
  | none, h =>
    have hk : Blk w b 105 #[.slice none 0 0, .bool true] := h
    have c0 := hk.cell 0
    have c1 := hk.cell 1
    simp at c0 c1
    clear h hk
    rw [if_neg (by simp)]
    go_enter Tryz.func36, Tryz.ntmps36
    go_wp2_with fail
    go_ret
    exact ⟨rfl, rfl⟩
  | some [], h =>
    obtain ⟨A, c, a1, a2, a3, a4, hk, hrg, _⟩ := h
    have c0 := hk.cell 0
    have c1 := hk.cell 1
    simp at c0 c1
    clear hk hrg a3
    rw [if_pos rfl]
    go_enter Tryz.func36, Tryz.ntmps36
    go_wp2_with fail
    go_ret
    exact ⟨rfl, rfl⟩
  | some (x :: l), h =>
    obtain ⟨A, c, a1, a2, a3, a4, hk, hrg, _⟩ := h
    have c0 := hk.cell 0
    have c1 := hk.cell 1
    simp at c0 c1
    rw [List.length_cons] at *
    have hp : (0 : Int) < ((l.length + 1 : Nat) : Int) := by omega
    clear hk hrg a3
    rw [if_neg (by simp)]
    go_enter Tryz.func36, Tryz.ntmps36
    go_wp2_with fail
    go_ret
    exact ⟨rfl, rfl⟩
end
end Go.Proofs.YtjlajnackecfgaaGreatDoor
namespace Go.Proofs.YtjlajnackecfgaaGreatDoor
open Go.RowKit

theorem uS_some {most : Nat} {st : Option (List UInt8)} {r : List UInt8} (h : uS most st = some r) : st = some (layN 0 (uV most st) ++ r) ∧ uV most st ≤ most := by
  cases st with
  | none => cases h
  | some l =>
    unfold uS uV at *
    rw [Option.bind_some] at *
    cases ht : takeU most l with
    | none => rw [ht] at h; cases h
    | some p =>
      obtain ⟨n, r'⟩ := p
      rw [ht] at h
      injection h with h
      subst h
      unfold takeU at ht
      cases hn : numT l with
      | none => rw [hn] at ht; cases ht
      | some q =>
        obtain ⟨m, n2, r2⟩ := q
        rw [hn] at ht
        cases m with
        | true => cases ht
        | false =>
          simp only at ht
          split at ht
          · rename_i hle
            injection ht with ht
            injection ht with h1 h2
            subst h1 h2
            have e := numT_one hn
            simp only [Bool.false_eq_true, if_false] at e
            exact ⟨by simp only; rw [← e], hle⟩
          · cases ht
theorem uS_lay {most n : Nat} {r : List UInt8} (hn : n ≤ most) (hm : most < 18446744073709551616) : uS most (some (layN 0 n ++ r)) = some r ∧ uV most (some (layN 0 n ++ r)) = n := by
  have e := numT_lay 0 n r (.inl rfl) (by omega)
  have t : takeU most (layN 0 n ++ r) = some (n, r) := by
    unfold takeU
    rw [e]
    simp [hn]
  unfold uS uV
  rw [Option.bind_some, t]
  exact ⟨rfl, rfl⟩
/-- A leg's number that is read is one. -/
theorem uV_le (most : Nat) (st : Option (List UInt8)) : uV most st ≤ most := by
  cases h : uS most st with
  | some r => exact (uS_some h).2
  | none =>
    unfold uS at h
    unfold uV
    cases hb : st.bind (takeU most) with
    | none => simp
    | some p => rw [hb] at h; cases h
/-- A Quill that has written l since world w0, in which it was empty. -/
def St (w0 : World) (B q : Nat) (l : List UInt8) (W : World) : Prop := ∃ r, Qu W B q r l ∧ Stays w0 none r ∧ Far w0 W q none
theorem St.drew {w0 W : World} {B q : Nat} {l : List UInt8} (h : St w0 B q l W) : St w0 B q l W.drew := by
  obtain ⟨r, h1, h2, h3⟩ := h
  exact ⟨r, h1.drew, h2, h3.drew⟩
theorem St.alloc {w0 W : World} {B q : Nat} {l : List UInt8} (h : St w0 B q l W) (o : Obj) : St w0 B q l (W.alloc o) := by
  obtain ⟨r, h1, h2, h3⟩ := h
  exact ⟨r, h1.below ((Below.refl _ W).alloc (Nat.le_refl _) o), h2, h3.alloc o⟩
theorem St.blk {w0 W : World} {B q g : Nat} {l : List UInt8} {t : TypeId} {cs : Array Value} (h : St w0 B q l W) (hb : Blk w0 g t cs) (hg : g ≠ q) : Blk W g t cs := by
  obtain ⟨r, h1, h2, h3⟩ := h
  exact hb.past h3 hg (by simp)
theorem St.size {w0 W : World} {B q : Nat} {l : List UInt8} (h : St w0 B q l W) : w0.heap.size ≤ W.heap.size := by
  obtain ⟨r, h1, h2, h3⟩ := h
  exact h3.2.2.2.1
theorem St.below {w0 W a : World} {B q B0 : Nat} {l : List UInt8} (h : St w0 B q l W) (ha : Below B0 a w0) (hB : B0 ≤ w0.heap.size) (hq : B0 ≤ q) : Below B0 a W := by
  obtain ⟨r, h1, h2, h3⟩ := h
  exact h3.to_below ha hB hq (by simp)
def StP (w0 : World) (B q : Nat) (l : List UInt8) (e : Ending) (w' : World) : Prop := e = .returned (.pointer (some ⟨q, 0, none⟩)) ∧ St w0 B q l w'
theorem St.step {w0 W w' : World} {B q : Nat} {r : Option Nat} {m : List UInt8} {e : Ending} (h2 : Stays w0 none r) (h3 : Far w0 W q none) (h : QPost W B q r m e w') : StP w0 B q m e w' := by
  obtain ⟨rfl, ⟨r', h4, h5⟩, h6⟩ := h
  exact ⟨rfl, r', h4, h2.trans h5 h3.2.2.2.1, h3.trans h6 h2⟩
theorem cUintS {w0 W : World} {B q : Nat} {l : List UInt8} (h : St w0 B q l W) (n : Nat) (hn : n < 18446744073709551616) (hl : l.length ≤ 1000000) :
    Calls Tryz.prog 22 #[.pointer (some ⟨q, 0, none⟩), .int .u64 (n : Int)] W (StP w0 B q (l ++ layN 0 n)) := by
  obtain ⟨r, h1, h2, h3⟩ := h
  exact (QUint_any B q r l n hn hl W h1).mono fun e w' hp => St.step h2 h3 hp
theorem layN_le (m n : Nat) (h : n < 18446744073709551616) : (layN m n).length ≤ 9 := by
  unfold layN
  rw [List.length_cons, digs_len]
  have := nb_le n h
  omega
end Go.Proofs.YtjlajnackecfgaaGreatDoor
namespace Go.Proofs.YtjlajnackecfgaaGreatDoor
open Go.RowKit

def layTm (t : Trm) : List UInt8 := ((((((([] ++ layN 0 t.K) ++ layN 0 t.P.toNat) ++ layN 0 t.R) ++ layN 0 t.B) ++ layN 0 t.M.toNat) ++ layN 0 t.S.toNat) ++ layN 0 t.F.toNat) ++ layN 0 t.G.toNat
def tm1 (st : Option (List UInt8)) : Option (List UInt8) := uS 255 st
def tm2 (st : Option (List UInt8)) : Option (List UInt8) := uS 1000000000000 (tm1 st)
def tm3 (st : Option (List UInt8)) : Option (List UInt8) := uS 1000000 (tm2 st)
def tm4 (st : Option (List UInt8)) : Option (List UInt8) := uS 255 (tm3 st)
def tm5 (st : Option (List UInt8)) : Option (List UInt8) := uS 480 (tm4 st)
def tm6 (st : Option (List UInt8)) : Option (List UInt8) := uS 3600000 (tm5 st)
def tm7 (st : Option (List UInt8)) : Option (List UInt8) := uS 1000000000 (tm6 st)
def tm8 (st : Option (List UInt8)) : Option (List UInt8) := uS 60 (tm7 st)
def tmR (st : Option (List UInt8)) : Trm := ⟨uV 255 st, uV 1000000000000 (tm1 st), uV 1000000 (tm2 st), uV 255 (tm3 st), uV 480 (tm4 st), uV 3600000 (tm5 st), uV 1000000000 (tm6 st), uV 60 (tm7 st)⟩
theorem tm_one {q : List UInt8} (h : tm8 (some q) = some []) : layTm (tmR (some q)) = q := by
  obtain ⟨e8, -⟩ := uS_some h
  obtain ⟨e7, -⟩ := uS_some (show uS 1000000000 (tm6 (some q)) = _ from e8)
  obtain ⟨e6, -⟩ := uS_some (show uS 3600000 (tm5 (some q)) = _ from e7)
  obtain ⟨e5, -⟩ := uS_some (show uS 480 (tm4 (some q)) = _ from e6)
  obtain ⟨e4, -⟩ := uS_some (show uS 255 (tm3 (some q)) = _ from e5)
  obtain ⟨e3, -⟩ := uS_some (show uS 1000000 (tm2 (some q)) = _ from e4)
  obtain ⟨e2, -⟩ := uS_some (show uS 1000000000000 (tm1 (some q)) = _ from e3)
  obtain ⟨e1, -⟩ := uS_some (show uS 255 (some q) = _ from e2)
  injection e1 with e1
  conv => rhs; rw [e1]
  simp only [layTm, tmR, List.nil_append, List.append_assoc, List.append_nil, Int.toNat_natCast]
theorem tm_lay (t : Trm) (h : t.Right) : tmR (some (layTm t)) = t ∧ tm8 (some (layTm t)) = some [] := by
  obtain ⟨K, P, R, B, M, S, F, G⟩ := t
  obtain ⟨hK, ⟨hR, hB⟩, hP, hM, hS, hF, hG⟩ := h
  dsimp only at hK hR hB hP hM hS hF hG
  obtain ⟨P, rfl⟩ : ∃ n : Nat, P = n := ⟨P.toNat, by omega⟩
  obtain ⟨M, rfl⟩ : ∃ n : Nat, M = n := ⟨M.toNat, by omega⟩
  obtain ⟨S, rfl⟩ : ∃ n : Nat, S = n := ⟨S.toNat, by omega⟩
  obtain ⟨F, rfl⟩ : ∃ n : Nat, F = n := ⟨F.toNat, by omega⟩
  obtain ⟨G, rfl⟩ : ∃ n : Nat, G = n := ⟨G.toNat, by omega⟩
  have e : layTm ⟨K, P, R, B, M, S, F, G⟩ = layN 0 K ++ (layN 0 P ++ (layN 0 R ++ (layN 0 B ++ (layN 0 M ++ (layN 0 S ++ (layN 0 F ++ (layN 0 G ++ []))))))) := by
    simp only [layTm, List.nil_append, List.append_assoc, List.append_nil, Int.toNat_natCast]
  rw [e]
  obtain ⟨a1, b1⟩ := uS_lay (most := 255) (n := K) (r := layN 0 P ++ (layN 0 R ++ (layN 0 B ++ (layN 0 M ++ (layN 0 S ++ (layN 0 F ++ (layN 0 G ++ []))))))) (by omega) (by decide)
  obtain ⟨a2, b2⟩ := uS_lay (most := 1000000000000) (n := P) (r := layN 0 R ++ (layN 0 B ++ (layN 0 M ++ (layN 0 S ++ (layN 0 F ++ (layN 0 G ++ [])))))) (by omega) (by decide)
  obtain ⟨a3, b3⟩ := uS_lay (most := 1000000) (n := R) (r := layN 0 B ++ (layN 0 M ++ (layN 0 S ++ (layN 0 F ++ (layN 0 G ++ []))))) (by omega) (by decide)
  obtain ⟨a4, b4⟩ := uS_lay (most := 255) (n := B) (r := layN 0 M ++ (layN 0 S ++ (layN 0 F ++ (layN 0 G ++ [])))) (by omega) (by decide)
  obtain ⟨a5, b5⟩ := uS_lay (most := 480) (n := M) (r := layN 0 S ++ (layN 0 F ++ (layN 0 G ++ []))) (by omega) (by decide)
  obtain ⟨a6, b6⟩ := uS_lay (most := 3600000) (n := S) (r := layN 0 F ++ (layN 0 G ++ [])) (by omega) (by decide)
  obtain ⟨a7, b7⟩ := uS_lay (most := 1000000000) (n := F) (r := layN 0 G ++ []) (by omega) (by decide)
  obtain ⟨a8, b8⟩ := uS_lay (most := 60) (n := G) (r := []) (by omega) (by decide)
  unfold tmR tm8 tm7 tm6 tm5 tm4 tm3 tm2 tm1
  rw [a1, b1, a2, b2, a3, b3, a4, b4, a5, b5, a6, b6, a7, b7, a8, b8]
  exact ⟨rfl, rfl⟩
theorem layTm_inj {t u : Trm} (ht : t.Right) (hu : u.Right) (h : layTm t = layTm u) : t = u := by
  rw [← (tm_lay t ht).1, ← (tm_lay u hu).1, h]
theorem layTm_len {t : Trm} (h : t.Right) : 8 ≤ (layTm t).length ∧ (layTm t).length ≤ 72 := by
  obtain ⟨K, P, R, B, M, S, F, G⟩ := t
  obtain ⟨hK, ⟨hR, hB⟩, hP, hM, hS, hF, hG⟩ := h
  dsimp only at hK hR hB hP hM hS hF hG
  have g : ∀ n, 1 ≤ (layN 0 n).length := fun n => by unfold layN; simp
  have l1 := layN_le 0 K (by omega)
  have l2 := layN_le 0 P.toNat (by omega)
  have l3 := layN_le 0 R (by omega)
  have l4 := layN_le 0 B (by omega)
  have l5 := layN_le 0 M.toNat (by omega)
  have l6 := layN_le 0 S.toNat (by omega)
  have l7 := layN_le 0 F.toNat (by omega)
  have l8 := layN_le 0 G.toNat (by omega)
  have g1 := g K
  have g2 := g P.toNat
  have g3 := g R
  have g4 := g B
  have g5 := g M.toNat
  have g6 := g S.toNat
  have g7 := g F.toNat
  have g8 := g G.toNat
  unfold layTm
  simp only [List.length_append, List.length_nil]
  omega
end Go.Proofs.YtjlajnackecfgaaGreatDoor
namespace Go.Proofs.YtjlajnackecfgaaGreatDoor
open Go.ChangeShapes Go.WideShapes Go.ChangeAt Go.RowKit

set_option maxRecDepth 100000 in
set_option maxHeartbeats 4000000 in
theorem TBytes_no {t : Trm} (h : ¬ t.Right) (w : World) : Calls Tryz.prog 24 #[t.v] w (Ret (.slice none 0 0) w) := by
  have hT := fun W => TRight_false h W
  obtain ⟨K, P, R, B, M, S, F, G⟩ := t
  clear h
  unfold Trm.v at hT ⊢
  dsimp only at hT ⊢
  have HQ := Lib.hid (Blk.new w 28 #[.int .u8 (K : Int), .int .i64 P, .int .u32 (R : Int), .int .u8 (B : Int), .int .i64 M, .int .i32 S, .int .i64 F, .int .i64 G])
  have HB0 := Lib.hid (b_alloc w (.cells #[.int .u8 (K : Int), .int .i64 P, .int .u32 (R : Int), .int .u8 (B : Int), .int .i64 M, .int .i32 S, .int .i64 F, .int .i64 G] 28))
  go_enter Tryz.func24, Tryz.ntmps24
  obtain ⟨c0, c1, c2, c3, c4, c5, c6, c7⟩ := blk8 HQ.out
  go_wp2_with fail
  refine (hT _).mono ?_
  rintro e w1 ⟨rfl, hb1⟩
  have HB1 := Lib.hid (HB0.out.trans (hb1.mono HB0.out.size))
  clear hb1 c0 c1 c2 c3 c4 c5 c6 c7 HQ HB0 hT
  go_wp2_with fail
  go_ret
  exact ⟨by first | rfl | simp, HB1.out⟩
set_option maxRecDepth 100000 in
set_option maxHeartbeats 4000000 in
theorem TBytes_nat {K P R B M S F G : Nat} (h : Trm.Right ⟨K, P, R, B, M, S, F, G⟩) (w : World) : Calls Tryz.prog 24 #[.agg #[.int .u8 (K : Int), .int .i64 (P : Int), .int .u32 (R : Int), .int .u8 (B : Int), .int .i64 (M : Int), .int .i32 (S : Int), .int .i64 (F : Int), .int .i64 (G : Int)]] w (DPost w (((((((([] ++ layN 0 K) ++ layN 0 P) ++ layN 0 R) ++ layN 0 B) ++ layN 0 M) ++ layN 0 S) ++ layN 0 F) ++ layN 0 G)) := by
  have hT := fun W => TRight_true h W
  unfold Trm.v at hT
  dsimp only at hT
  obtain ⟨hK, ⟨hR, hB⟩, hP, hM, hS, hF, hG⟩ := h
  dsimp only at hK hR hB hP hM hS hF hG
  have HQ := Lib.hid (Blk.new w 28 #[.int .u8 (K : Int), .int .i64 (P : Int), .int .u32 (R : Int), .int .u8 (B : Int), .int .i64 (M : Int), .int .i32 (S : Int), .int .i64 (F : Int), .int .i64 (G : Int)])
  have HB0 := Lib.hid (b_alloc w (.cells #[.int .u8 (K : Int), .int .i64 (P : Int), .int .u32 (R : Int), .int .u8 (B : Int), .int .i64 (M : Int), .int .i32 (S : Int), .int .i64 (F : Int), .int .i64 (G : Int)] 28))
  go_enter Tryz.func24, Tryz.ntmps24
  obtain ⟨c0, c1, c2, c3, c4, c5, c6, c7⟩ := blk8 HQ.out
  go_wp2_with fail
  refine (hT _).mono ?_
  rintro e w1 ⟨rfl, hb1⟩
  have HB1 := Lib.hid (HB0.out.trans (hb1.mono HB0.out.size))
  have HQ1 := Lib.hid (HQ.out.below hb1 HQ.out.lt)
  clear hb1 c0 c1 c2 c3 c4 c5 c6 c7 HQ HB0 hT
  go_upto_region 4 with (fail)
  have hnew := Qu.new (w := w1) (B := w1.heap.size) (Nat.le_refl _)
  have hent := HQ1.out.alloc (.cells #[.slice none 0 0] 66)
  have hbw := HB1.out.alloc HB1.out.size (.cells #[.slice none 0 0] 66)
  have hsz2 : w1.heap.size < (w1.alloc (.cells #[.slice none 0 0] 66)).heap.size := by simp
  have hbq := HQ1.out.lt
  have hwq := HB1.out.size
  obtain ⟨w2, hw2⟩ : ∃ W, w1.alloc (.cells #[.slice none 0 0] 66) = W := ⟨_, rfl⟩
  rw [hw2] at hnew hent hbw hsz2
  rw [hw2]
  obtain ⟨q, hq⟩ : ∃ q, w1.heap.size = q := ⟨_, rfl⟩
  rw [hq] at hnew hsz2 hbq hwq
  rw [hq]
  obtain ⟨b, hb⟩ : ∃ b, w.heap.size = b := ⟨_, rfl⟩
  rw [hb] at hent hbq
  rw [hb]
  have HWB := Lib.hid hb
  have HENT := Lib.hid hent
  have HBW := Lib.hid hbw
  have HSZ := Lib.hid (And.intro hsz2 (And.intro hbq hwq))
  have S0 : St w2 q q [] w2 := ⟨none, hnew, Stays.refl _ _, Far.refl _ _ _⟩
  have KC : ∀ (m : List UInt8) (W' : World), St w2 q q m W' → Blk W' b 28 #[.int .u8 (K : Int), .int .i64 (P : Int), .int .u32 (R : Int), .int .u8 (B : Int), .int .i64 (M : Int), .int .i32 (S : Int), .int .i64 (F : Int), .int .i64 (G : Int)] := fun m W' h => h.blk HENT.out (by have := HSZ.out.2.1; omega)
  have i0 : IntKind.u64.wrap (K : Int) = (K : Int) := by rw [IntKind.wrap_u64]; omega
  have A0 : K < 18446744073709551616 := by omega
  have m0 := layN_le 0 K A0
  have i1 : IntKind.u64.wrap (P : Int) = (P : Int) := by rw [IntKind.wrap_u64]; omega
  have A1 : P < 18446744073709551616 := by omega
  have m1 := layN_le 0 P A1
  have i2 : IntKind.u64.wrap (R : Int) = (R : Int) := by rw [IntKind.wrap_u64]; omega
  have A2 : R < 18446744073709551616 := by omega
  have m2 := layN_le 0 R A2
  have i3 : IntKind.u64.wrap (B : Int) = (B : Int) := by rw [IntKind.wrap_u64]; omega
  have A3 : B < 18446744073709551616 := by omega
  have m3 := layN_le 0 B A3
  have i4 : IntKind.u64.wrap (M : Int) = (M : Int) := by rw [IntKind.wrap_u64]; omega
  have A4 : M < 18446744073709551616 := by omega
  have m4 := layN_le 0 M A4
  have i5 : IntKind.u64.wrap (S : Int) = (S : Int) := by rw [IntKind.wrap_u64]; omega
  have A5 : S < 18446744073709551616 := by omega
  have m5 := layN_le 0 S A5
  have i6 : IntKind.u64.wrap (F : Int) = (F : Int) := by rw [IntKind.wrap_u64]; omega
  have A6 : F < 18446744073709551616 := by omega
  have m6 := layN_le 0 F A6
  have i7 : IntKind.u64.wrap (G : Int) = (G : Int) := by rw [IntKind.wrap_u64]; omega
  have A7 : G < 18446744073709551616 := by omega
  have m7 := layN_le 0 G A7
  have ZL0 : ([] : List UInt8).length ≤ 0 := Nat.le_refl _
  clear hnew hent hbw hsz2 hbq hwq hw2 hq hb hK hR hB hP hM hS hF hG HQ1 HB1
  have V0 := S0.drew
  have KD0 : ∀ (m : List UInt8) (W' : World), St w2 q q m W' → W'.cell? ⟨b, 0, none⟩ = some (.int .u8 (K : Int)) ∧ W'.cell? ⟨b, 1, none⟩ = some (.int .i64 (P : Int)) := fun m W' h => ⟨(blk8 (KC m W' h)).1, (blk8 (KC m W' h)).2.1⟩
  have LA0 : ([] : List UInt8).length ≤ 1000000 := by omega
  have LB0 : ([] ++ layN 0 K).length ≤ 1000000 := by rw [List.length_append]; omega
  go_region_held3 (fun W' => W'.cell? ⟨b, 0, none⟩ = some (.int .u8 (K : Int)) ∧ W'.cell? ⟨b, 1, none⟩ = some (.int .i64 (P : Int)))
    (first | exact KD0 _ _ Z0b | exact KD0 _ _ Z0a | exact KD0 _ _ V0)
    (first
      | (go_at_call 22; refine (cUintS Z0a P A1 LB0).mono ?_; rintro e w11 ⟨rfl, Z0b⟩)
      | (go_at_call 22; refine (cUintS V0 K A0 LA0).mono ?_; rintro e w10 ⟨rfl, Z0a⟩))
  have ZL1 : (([] ++ layN 0 K) ++ layN 0 P).length ≤ 18 := by rw [List.length_append, List.length_append]; omega
  obtain ⟨X1, hX1⟩ : ∃ X, ([] ++ layN 0 K) ++ layN 0 P = X := ⟨_, rfl⟩
  rw [hX1] at Z0b ZL1
  have HX1 := Lib.hid hX1
  have S1 := Z0b
  clear hX1 Z0a Z0b V0 KD0 LA0 LB0 i0 i1 A0 A1 m0 m1 ZL0 S0
  go_upto_region 5 with (fail)
  have V1 := S1.drew
  have KD1 : ∀ (m : List UInt8) (W' : World), St w2 q q m W' → W'.cell? ⟨b, 2, none⟩ = some (.int .u32 (R : Int)) ∧ W'.cell? ⟨b, 3, none⟩ = some (.int .u8 (B : Int)) := fun m W' h => ⟨(blk8 (KC m W' h)).2.2.1, (blk8 (KC m W' h)).2.2.2.1⟩
  have LA1 : (X1 : List UInt8).length ≤ 1000000 := by omega
  have LB1 : (X1 ++ layN 0 R).length ≤ 1000000 := by rw [List.length_append]; omega
  go_region_held3 (fun W' => W'.cell? ⟨b, 2, none⟩ = some (.int .u32 (R : Int)) ∧ W'.cell? ⟨b, 3, none⟩ = some (.int .u8 (B : Int)))
    (first | exact KD1 _ _ Z1b | exact KD1 _ _ Z1a | exact KD1 _ _ V1)
    (first
      | (go_at_call 22; refine (cUintS Z1a B A3 LB1).mono ?_; rintro e w13 ⟨rfl, Z1b⟩)
      | (go_at_call 22; refine (cUintS V1 R A2 LA1).mono ?_; rintro e w12 ⟨rfl, Z1a⟩))
  have ZL2 : ((X1 ++ layN 0 R) ++ layN 0 B).length ≤ 36 := by rw [List.length_append, List.length_append]; omega
  obtain ⟨X2, hX2⟩ : ∃ X, (X1 ++ layN 0 R) ++ layN 0 B = X := ⟨_, rfl⟩
  rw [hX2] at Z1b ZL2
  have HX2 := Lib.hid hX2
  have S2 := Z1b
  clear hX2 Z1a Z1b V1 KD1 LA1 LB1 i2 i3 A2 A3 m2 m3 ZL1 S1
  go_upto_region 6 with (fail)
  have V2 := S2.drew
  have KD2 : ∀ (m : List UInt8) (W' : World), St w2 q q m W' → W'.cell? ⟨b, 4, none⟩ = some (.int .i64 (M : Int)) ∧ W'.cell? ⟨b, 5, none⟩ = some (.int .i32 (S : Int)) := fun m W' h => ⟨(blk8 (KC m W' h)).2.2.2.2.1, (blk8 (KC m W' h)).2.2.2.2.2.1⟩
  have LA2 : (X2 : List UInt8).length ≤ 1000000 := by omega
  have LB2 : (X2 ++ layN 0 M).length ≤ 1000000 := by rw [List.length_append]; omega
  go_region_held3 (fun W' => W'.cell? ⟨b, 4, none⟩ = some (.int .i64 (M : Int)) ∧ W'.cell? ⟨b, 5, none⟩ = some (.int .i32 (S : Int)))
    (first | exact KD2 _ _ Z2b | exact KD2 _ _ Z2a | exact KD2 _ _ V2)
    (first
      | (go_at_call 22; refine (cUintS Z2a S A5 LB2).mono ?_; rintro e w15 ⟨rfl, Z2b⟩)
      | (go_at_call 22; refine (cUintS V2 M A4 LA2).mono ?_; rintro e w14 ⟨rfl, Z2a⟩))
  have ZL3 : ((X2 ++ layN 0 M) ++ layN 0 S).length ≤ 54 := by rw [List.length_append, List.length_append]; omega
  obtain ⟨X3, hX3⟩ : ∃ X, (X2 ++ layN 0 M) ++ layN 0 S = X := ⟨_, rfl⟩
  rw [hX3] at Z2b ZL3
  have HX3 := Lib.hid hX3
  have S3 := Z2b
  clear hX3 Z2a Z2b V2 KD2 LA2 LB2 i4 i5 A4 A5 m4 m5 ZL2 S2
  go_upto_region 7 with (fail)
  have V3 := S3.drew
  have KD3 : ∀ (m : List UInt8) (W' : World), St w2 q q m W' → W'.cell? ⟨b, 6, none⟩ = some (.int .i64 (F : Int)) ∧ W'.cell? ⟨b, 7, none⟩ = some (.int .i64 (G : Int)) := fun m W' h => ⟨(blk8 (KC m W' h)).2.2.2.2.2.2.1, (blk8 (KC m W' h)).2.2.2.2.2.2.2⟩
  have LA3 : (X3 : List UInt8).length ≤ 1000000 := by omega
  have LB3 : (X3 ++ layN 0 F).length ≤ 1000000 := by rw [List.length_append]; omega
  go_region_held3 (fun W' => W'.cell? ⟨b, 6, none⟩ = some (.int .i64 (F : Int)) ∧ W'.cell? ⟨b, 7, none⟩ = some (.int .i64 (G : Int)))
    (first | exact KD3 _ _ Z3b | exact KD3 _ _ Z3a | exact KD3 _ _ V3)
    (first
      | (go_at_call 22; refine (cUintS Z3a G A7 LB3).mono ?_; rintro e w17 ⟨rfl, Z3b⟩)
      | (go_at_call 22; refine (cUintS V3 F A6 LA3).mono ?_; rintro e w16 ⟨rfl, Z3a⟩))
  have ZL4 : ((X3 ++ layN 0 F) ++ layN 0 G).length ≤ 72 := by rw [List.length_append, List.length_append]; omega
  obtain ⟨X4, hX4⟩ : ∃ X, (X3 ++ layN 0 F) ++ layN 0 G = X := ⟨_, rfl⟩
  rw [hX4] at Z3b ZL4
  have HX4 := Lib.hid hX4
  have S4 := Z3b
  clear hX4 Z3a Z3b V3 KD3 LA3 LB3 i6 i7 A6 A7 m6 m7 ZL3 S3
  have hb9 := S4.below HBW.out (by have := HSZ.out; omega) (by have := HSZ.out; omega)
  have hsz9 := S4.size
  obtain ⟨r, h1, h2, h3⟩ := S4
  have HQD := Lib.hid (QDone_any q q r _ (by omega) _ h1)
  have HB9 := Lib.hid hb9
  have HZ9 := Lib.hid hsz9
  clear h1 h2 h3 hb9 hsz9 KC ZL4
  go_wp2_with fail
  refine HQD.out.mono ?_
  rintro e w20 ⟨⟨A9, g9, rfl, hA9, hg9, hrg9⟩, hbd⟩
  have HPOST : Hid (DPost w (((((((([] ++ layN 0 K) ++ layN 0 P) ++ layN 0 R) ++ layN 0 B) ++ layN 0 M) ++ layN 0 S) ++ layN 0 F) ++ layN 0 G) (.returned (.slice A9 X4.length X4.length)) w20) := Lib.hid (by
    rw [HX1.out, HX2.out, HX3.out, HX4.out]
    have z1 := HB9.out.size
    exact ⟨⟨A9, g9, rfl, hA9, by omega, hrg9⟩, HB9.out.trans (hbd.mono z1)⟩)
  clear hA9 hg9 hrg9 hbd HQD
  go_wp2_with fail
  go_ret
  simpa using HPOST.out
theorem TBytes_yes {t : Trm} (h : t.Right) (w : World) : Calls Tryz.prog 24 #[t.v] w (DPost w (layTm t)) := by
  obtain ⟨K, P, R, B, M, S, F, G⟩ := t
  have h9 := h
  obtain ⟨hK, ⟨hR, hB⟩, hP, hM, hS, hF, hG⟩ := h9
  dsimp only at hK hR hB hP hM hS hF hG
  obtain ⟨P, rfl⟩ : ∃ n : Nat, P = n := ⟨P.toNat, by omega⟩
  obtain ⟨M, rfl⟩ : ∃ n : Nat, M = n := ⟨M.toNat, by omega⟩
  obtain ⟨S, rfl⟩ : ∃ n : Nat, S = n := ⟨S.toNat, by omega⟩
  obtain ⟨F, rfl⟩ : ∃ n : Nat, F = n := ⟨F.toNat, by omega⟩
  obtain ⟨G, rfl⟩ : ∃ n : Nat, G = n := ⟨G.toNat, by omega⟩
  have := TBytes_nat h w
  unfold layTm Trm.v
  simpa only [Int.toNat_natCast] using this
end Go.Proofs.YtjlajnackecfgaaGreatDoor
