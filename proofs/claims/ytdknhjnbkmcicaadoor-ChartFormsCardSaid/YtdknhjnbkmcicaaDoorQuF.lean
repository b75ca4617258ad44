/-
  A Lens's number. Conditions: the Lens is known.
-/
import Derived.Test.YtdknhjnbkmcicaaDoorQuE
import Derived.Laws.BitsAllLaws
import Derived.Deep.QuietTactic
import Derived.BigQuiet
namespace Go.Proofs.YtdknhjnbkmcicaaDoor
open Go.RowKit

theorem and128 (f : UInt8) : bits .and .u8 (f.toNat : Int) 128 = if 128 ≤ f.toNat then 128 else 0 := by
  have h : f.toNat < 256 := f.toNat_lt
  have key : ∀ k : Fin 256, k.val &&& 128 = if 128 ≤ k.val then 128 else 0 := by decide +kernel
  rw [u8_and _ _ (by omega) (by omega) (by omega) (by omega)]
  have := key ⟨f.toNat, h⟩
  simp only at this
  rw [Int.toNat_natCast, show (128 : Int).toNat = 128 from rfl, this]
  split <;> rfl
theorem not128 (f : UInt8) : bits .andNot .u8 (f.toNat : Int) 128 = ((f.toNat % 128 : Nat) : Int) := by
  have h : f.toNat < 256 := f.toNat_lt
  have key : ∀ k : Fin 256, k.val &&& 127 = k.val % 128 := by decide +kernel
  rw [u8_andNot _ _ (by omega) (by omega) (by omega) (by omega)]
  have := key ⟨f.toNat, h⟩
  simp only at this
  rw [Int.toNat_natCast, show (255 - (128 : Int).toNat) = 127 from rfl, this]

theorem or_byte (V : Nat) (u : UInt8) (hV : V < 72057594037927936) : bits .or .u64 ((V : Int) * 256) (IntKind.u64.wrap (u.toNat : Int)) = ((256 * V + u.toNat : Nat) : Int) := by
  have hu : u.toNat < 256 := u.toNat_lt
  have hw : IntKind.u64.wrap (u.toNat : Int) = (u.toNat : Int) := by
    rw [IntKind.wrap_u64]
    omega
  rw [hw, show (V : Int) * 256 = ((V * 256 : Nat) : Int) by omega, u64_or _ _ (by omega) (by omega) (by omega) (by omega), Int.toNat_natCast, Int.toNat_natCast, nat_join 8 _ _ (by omega) (by omega)]
  omega
section
variable (b g : Nat)
def NmPost (w : World) (st : Option (List UInt8)) (e : Ending) (w' : World) : Prop :=
  match st.bind numT with
  | some (m, v, r) => e = .returned (.tuple #[.int .u8 (if m then 128 else 0), .int .u64 (v : Int)]) ∧ Ln w' b g (some r) ∧ Far w w' b none
  | none => e = .returned (.tuple #[.int .u8 0, .int .u64 0]) ∧ Ln w' b g none ∧ Far w w' b none
set_option maxRecDepth 20000 in
set_option maxHeartbeats 2000000 in
theorem LNumber_any (st : Option (List UInt8)) (w : World) (h : Ln w b g st) :
    Calls Tryd.prog 62 #[.pointer (some ⟨b, 0, none⟩)] w (NmPost b g w st) := by
  have hT := Take_any b g 1 (by decide) st w h
  match st, h with
  | none, h =>
    have HT := Lib.hid hT
    have HL := Lib.hid h
    clear hT h
    go_enter Tryd.func62, Tryd.ntmps62
    go_wp2_with fail
    refine HT.out.mono ?_
    rintro e w1 ⟨rfl, rfl⟩
    go_wp2_with fail
    go_ret2
    exact ⟨rfl, HL.out, Far.refl _ _ _⟩
  | some [], h =>
    have HT := Lib.hid hT
    clear hT h
    go_enter Tryd.func62, Tryd.ntmps62
    go_wp2_with fail
    refine HT.out.mono ?_
    intro e w1 hp
    simp only [TkPost] at hp
    rw [if_neg (by simp)] at hp
    obtain ⟨rfl, h1, h2⟩ := hp
    have H1 := Lib.hid h1
    have H2 := Lib.hid h2
    clear h1 h2
    go_wp2_with fail
    go_ret2
    exact ⟨rfl, H1.out, H2.out⟩
  | some (f :: s), h =>
    have hf : f.toNat < 256 := f.toNat_lt
    have ea := and128 f
    have en := not128 f
    obtain ⟨K, hK⟩ : ∃ K, f.toNat % 128 = K := ⟨_, rfl⟩
    rw [hK] at en
    have hK2 : K < 128 := by omega
    obtain ⟨M, hM⟩ : ∃ M : Int, (if 128 ≤ f.toNat then (128 : Int) else 0) = M := ⟨_, rfl⟩
    rw [hM] at ea
    have HT := Lib.hid hT
    clear hT h
    have HNT : Hid (numT (f :: s) = if 8 < K ∨ s.length < K ∨ (0 < K ∧ (s.getD 0 0).toNat = 0) then none else some (decide (128 ≤ f.toNat), val (s.take K), s.drop K)) := Lib.hid (by simp only [numT]; rw [hK])
    have HMM := Lib.hid hM
    clear hM hK
    go_enter Tryd.func62, Tryd.ntmps62
    go_wp2_with fail
    refine HT.out.mono ?_
    intro e w1 hp
    simp only [TkPost] at hp
    rw [if_pos (by simp)] at hp
    obtain ⟨⟨A, rfl, hrg⟩, hl, hfar⟩ := hp
    have hrg' : Rg w1 g A [f] := hrg
    have hl' : Ln w1 b g (some s) := hl
    obtain ⟨o, rfl, hg, hc⟩ := hrg' (by simp)
    have c0 : w1.cell? ⟨g, o, none⟩ = some (.int .u8 (f.toNat : Int)) := by simpa using hc 0 f rfl
    have HL := Lib.hid hl'
    have HF := Lib.hid hfar
    clear hrg hl hrg' hl' hc hfar
    go_wp2_with fail
    go_quiet (fail)
    have hz2 : g < (w1.drewN nq).heap.size := hg
    have HL2 : Hid (Ln (w1.drewN nq) b g (some s)) := Lib.hid HL.out
    have HF2 : Hid (Far w (w1.drewN nq) b none) := Lib.hid HF.out
    obtain ⟨w2, hw2⟩ : ∃ W, w1.drewN nq = W := ⟨_, rfl⟩
    rw [hw2] at HL2 HF2
    try rw [hw2]
    clear HL HF c0 hz2 hg ea en
    by_cases h8 : 8 < K
    · have hS := Spoil_any b g (some s) w2 HL2.out
      have hN : numT (f :: s) = none := by rw [HNT.out, if_pos (.inl h8)]
      have HN := Lib.hid hN
      have HS := Lib.hid hS
      clear hS hN
      go_wp2_with fail
      refine HS.out.mono ?_
      rintro e w3 ⟨rfl, h1, h2⟩
      have H1 := Lib.hid h1
      have H2 := Lib.hid (HF2.out.trans h2 (Stays.refl _ _))
      clear h1 h2
      go_wp2_with fail
      go_ret2
      simp only [NmPost, Option.bind_some, HN.out]
      exact ⟨rfl, H1.out, H2.out⟩
    · have hT2 := Take_any b g K (by omega) (some s) w2 HL2.out
      by_cases hle : K ≤ s.length
      · have HT2 := Lib.hid hT2
        clear hT2 HT
        go_wp2_with fail
        refine HT2.out.mono ?_
        intro e w3 hp
        simp only [TkPost] at hp
        rw [if_pos hle] at hp
        obtain ⟨⟨A2, rfl, hrg2⟩, hl2, hfar2⟩ := hp
        have HRG := Lib.hid hrg2
        have HL3 := Lib.hid hl2
        have HF3 := Lib.hid (HF2.out.trans hfar2 (Stays.refl _ _))
        have htl : (s.take K).length = K := by rw [List.length_take]; omega
        have hgd : 0 < K → (s.take K).getD 0 0 = s.getD 0 0 := fun h => by
          cases s with
          | nil => simp at hle; omega
          | cons x t =>
            cases K with
            | zero => omega
            | succ k => rfl
        have HGD := Lib.hid hgd
        have HTL := Lib.hid htl
        obtain ⟨T, hT⟩ : ∃ T, s.take K = T := ⟨_, rfl⟩
        rw [hT] at HRG HNT HGD HTL
        clear hrg2 hl2 hfar2 hw2 htl hgd hT
        have hnz : ¬ (0 < K ∧ (s.getD 0 0).toNat = 0) → Calls Tryd.prog 62 #[.pointer (some ⟨b, 0, none⟩)] w (NmPost b g w (some (f :: s))) → True := fun _ _ => trivial
        clear hnz
        by_cases hz : 0 < K ∧ (s.getD 0 0).toNat = 0
        · have hN : numT (f :: s) = none := by rw [HNT.out, if_pos (.inr (.inr hz))]
          have HN := Lib.hid hN
          obtain ⟨hk, h0⟩ := hz
          have hTl : 0 < T.length := by rw [HTL.out]; exact hk
          obtain ⟨o2, rfl, hg2, hc2⟩ := HRG.out hTl
          have hc3 := hc2 0 _ (List.getElem?_eq_getElem hTl)
          have e0 : (T[0]'hTl).toNat = 0 := by
            have := HGD.out hk
            rw [show T.getD 0 0 = T[0]'hTl by simp [List.getD, hTl]] at this
            rw [this]
            exact h0
          rw [e0] at hc3
          have c3 : w3.cell? ⟨g, o2, none⟩ = some (.int .u8 0) := by simpa using hc3
          have hS := Spoil_any b g _ w3 HL3.out
          have HS := Lib.hid hS
          have hk0 : (0 : Int) < (K : Int) := by omega
          clear hN hc2 hc3 e0 h0 hS hg2 hTl
          go_wp2_with fail
          refine HS.out.mono ?_
          rintro e w4 ⟨rfl, h1, h2⟩
          have H1 := Lib.hid h1
          have H2 := Lib.hid (HF3.out.trans h2 (Stays.refl _ _))
          clear h1 h2
          go_wp2_with fail
          go_ret2
          simp only [NmPost, Option.bind_some, HN.out]
          exact ⟨rfl, H1.out, H2.out⟩
        · have hN : numT (f :: s) = some (decide (128 ≤ f.toNat), val T, s.drop K) := by rw [HNT.out, if_neg (by omega)]
          have HN := Lib.hid hN
          clear hN
          have key : ∀ hcell : (0 < K → ∃ (o2 : Nat) (u : UInt8), A2 = some ⟨g, o2, none⟩ ∧ w3.cell? ⟨g, o2, none⟩ = some (.int .u8 (u.toNat : Int)) ∧ u.toNat ≠ 0), True := fun _ => trivial
          clear key
          by_cases hk : 0 < K
          · have hTl : 0 < T.length := by rw [HTL.out]; exact hk
            obtain ⟨o2, rfl, hg2, hc2⟩ := HRG.out hTl
            have hc3 := hc2 0 _ (List.getElem?_eq_getElem hTl)
            have e0 : (T[0]'hTl).toNat ≠ 0 := by
              have := HGD.out hk
              rw [show T.getD 0 0 = T[0]'hTl by simp [List.getD, hTl]] at this
              rw [this]
              exact fun h => hz ⟨hk, h⟩
            obtain ⟨u, hu⟩ : ∃ u, T[0]'hTl = u := ⟨_, rfl⟩
            rw [hu] at hc3 e0
            have c3 : w3.cell? ⟨g, o2, none⟩ = some (.int .u8 (u.toNat : Int)) := by simpa using hc3
            have q1 : ((u.toNat : Int) == 0) = false := by rw [beq_eq_false_iff_ne]; omega
            have q2 : ¬ (u.toNat : Int) = 0 := by omega
            have hk0 : (0 : Int) < (K : Int) := by omega
            have HC := Lib.hid hc2
            clear hc2 hc3 e0 hu hz hg2 hTl
            go_wp2_with fail
            clear c3 q1 q2
            go_loop [8, 51] (fun t i => ∃ k : Nat, k ≤ K ∧ i = .int .i64 k ∧ t = .int .u64 (val (T.take k) : Nat)) (fun _ i => K - (intOf i).toNat)
            case atStart => exact ⟨0, Nat.zero_le _, rfl, rfl⟩
            case round =>
              obtain ⟨k, hkk, rfl, rfl⟩ := hrel
              by_cases hlt : k < K
              · have hTk : k < T.length := by rw [HTL.out]; exact hlt
                have hc3 := HC.out k _ (List.getElem?_eq_getElem hTk)
                obtain ⟨u2, hu2⟩ : ∃ u, T[k]'hTk = u := ⟨_, rfl⟩
                rw [hu2] at hc3
                have hts : T.take (k + 1) = T.take k ++ [u2] := by rw [List.take_succ_eq_append_getElem hTk, hu2]
                have hv : val (T.take (k + 1)) = 256 * val (T.take k) + u2.toNat := by rw [hts, val_snoc]
                have hvl := val_lt (T.take k)
                have hlen : (T.take k).length = k := by rw [List.length_take]; omega
                rw [hlen] at hvl
                have hp7 : (256 : Nat) ^ k ≤ 256 ^ 7 := Nat.pow_le_pow_right (by decide) (by omega)
                obtain ⟨V, hV⟩ : ∃ V, val (T.take k) = V := ⟨_, rfl⟩
                have hV7 : V < 72057594037927936 := by rw [← hV]; exact Nat.lt_of_lt_of_le hvl hp7
                rw [hV] at hv ⊢
                have HV := Lib.hid hv
                clear hv hts hvl hlen hp7 hV hu2
                go_wp2_with fail
                go_round
                case rel => exact ⟨k + 1, by omega, by go_num, by rw [or_byte V u2 hV7, HV.out]⟩
                case measure => simp [intOf]; omega
              · obtain rfl : k = K := by omega
                go_wp2_with fail
                go_ret2
                simp only [NmPost, Option.bind_some, HN.out]
                refine ⟨?_, HL3.out, HF3.out⟩
                rw [List.take_of_length_le (by rw [HTL.out]; exact Nat.le_refl _), ← HMM.out]
                simp only [decide_eq_true_eq]
                rfl
          · obtain rfl : K = 0 := by omega
            have hT0 : T = [] := List.eq_nil_of_length_eq_zero HTL.out
            subst hT0
            clear hz
            go_wp2_with fail
            go_loop [8, 51] (fun t i => ∃ k : Nat, k ≤ 0 ∧ i = .int .i64 k ∧ t = .int .u64 0) (fun _ i => 0 - (intOf i).toNat)
            case atStart => exact ⟨0, Nat.zero_le _, rfl, rfl⟩
            case round =>
              obtain ⟨k, hkk, rfl, rfl⟩ := hrel
              obtain rfl : k = 0 := by omega
              go_wp2_with fail
              go_ret2
              simp only [NmPost, Option.bind_some, HN.out]
              refine ⟨?_, HL3.out, HF3.out⟩
              rw [← HMM.out]
              simp only [decide_eq_true_eq]
              rfl
      · have hN : numT (f :: s) = none := by rw [HNT.out, if_pos (.inr (.inl (by omega)))]
        have HN := Lib.hid hN
        have HT2 := Lib.hid hT2
        clear hT2 hN HT
        have hk0 : (0 : Int) < (K : Int) := by omega
        go_wp2_with fail
        refine HT2.out.mono ?_
        intro e w3 hp
        simp only [TkPost] at hp
        rw [if_neg hle] at hp
        obtain ⟨rfl, h1, h2⟩ := hp
        have hS := Spoil_any b g none w3 h1
        have HS := Lib.hid hS
        have HF3 := Lib.hid (HF2.out.trans h2 (Stays.refl _ _))
        clear h1 h2 hS hw2
        go_wp2_with fail
        refine HS.out.mono ?_
        rintro e w4 ⟨rfl, h1, h2⟩
        have H1 := Lib.hid h1
        have H2 := Lib.hid (HF3.out.trans h2 (Stays.refl _ _))
        clear h1 h2
        go_wp2_with fail
        go_ret2
        simp only [NmPost, Option.bind_some, HN.out]
        exact ⟨rfl, H1.out, H2.out⟩
end
end Go.Proofs.YtdknhjnbkmcicaaDoor
