/-
  The reference's number of layer 8. Conditions: the bytes are there.
-/
import Derived.Test.YtbfekonlgbolcabDoorRefL8
import Derived.Test.YtbfekonlgbolcabDoorQuL
namespace Go.Proofs.YtbfekonlgbolcabDoor
open Go.RowKit

theorem results_tmp4 {fn : Func} {t u v x : Tmp} (h : fn.results = #[.tmp t, .tmp u, .tmp v, .tmp x]) (tmps : Array Value) (P : Program) (w : World) :
    (results fn tmps).run P w = .ok (.tuple #[tmps.getD t undef, tmps.getD u undef, tmps.getD v undef, tmps.getD x undef]) w := by
  simp [results, h]
theorem Rd.past_k {w : World} {B b o : Nat} {l : List UInt8} (h : Rd w B (some ⟨b, o, none⟩) l) (k : Nat) : Rd w B (some ⟨b, o + k, none⟩) (l.drop k) := fun hn => by
  have hn' : 0 < l.length - k := by simpa using hn
  obtain ⟨g, o', e, hg, hcell⟩ := h (by omega)
  cases e
  refine ⟨b, o + k, rfl, hg, fun j u hu => ?_⟩
  rw [Nat.add_assoc]
  exact hcell _ u (by rw [← hu, List.getElem?_drop])
def RNPost (w : World) (B : Nat) (l : List UInt8) (e : Ending) (w' : World) : Prop :=
  (∃ q, w' = w.drewN q) ∧ match numT l with
    | none => e = .returned (.tuple #[.int .u64 0, .bool false, .slice none 0 0, .bool false])
    | some (m, k, r) => k < 18446744073709551616 ∧ ∃ A2 c2, e = .returned (.tuple #[.int .u64 (k : Int), .bool m, .slice A2 r.length c2, .bool true]) ∧ r.length ≤ c2 ∧ c2 ≤ maxLen ∧ Rd w B A2 r

set_option maxRecDepth 20000 in
set_option maxHeartbeats 4000000 in
theorem RNumber_any (A : Option Addr) (n c B : Nat) (l : List UInt8) (w : World) (hR : Rd w B A l) (hn : l.length = n) (hc : n ≤ c) (hm : c ≤ maxLen) :
    Calls Tryd.prog 33 #[.slice A n c] w (RNPost w B l) := by
  unfold maxLen at hm
  match l, hR, hn with
  | [], _, hn =>
    obtain rfl : n = 0 := by simpa using hn.symm
    go_enter Tryd.func33, Tryd.ntmps33
    go_wp2_with fail
    try simp only [Exit.inBlock, Exit.then]
    refine bodyPost_ret (results_tmp4 rfl _ _ _) rfl ?_
    exact ⟨⟨0, rfl⟩, rfl⟩
  | f :: s, hR, hn =>
    obtain rfl : n = s.length + 1 := by simpa using hn.symm
    have hR0 := hR
    obtain ⟨b, o, rfl, hb, c0⟩ := hR.at_ (k := 0) (by simp)
    rw [Nat.add_zero] at c0
    simp only [List.getElem_cons_zero] at c0
    have hf : f.toNat < 256 := f.toNat_lt
    obtain ⟨K, hK⟩ : ∃ K, f.toNat % 128 = K := ⟨_, rfl⟩
    have hK2 : (f.toNat : Int) % 128 = (K : Int) := by omega
    have HNT : Hid (numT (f :: s) = if 8 < K ∨ s.length < K ∨ (0 < K ∧ (s.getD 0 0).toNat = 0) then none else some (decide (128 ≤ f.toNat), val (s.take K), s.drop K)) := Lib.hid (by simp only [numT]; rw [hK])
    have HR := Lib.hid hR0
    clear hR hR0 hn
    by_cases h8 : 8 < K
    · have HN : Hid (numT (f :: s) = none) := Lib.hid (by rw [HNT.out, if_pos (.inl h8)])
      go_enter Tryd.func33, Tryd.ntmps33
      go_wp2_with fail
      try simp only [Exit.inBlock, Exit.then]
      refine bodyPost_ret (results_tmp4 rfl _ _ _) rfl ?_
      exact ⟨⟨0, rfl⟩, by rw [HN.out]; rfl⟩
    · by_cases hle : K ≤ s.length
      · by_cases hz : 0 < K ∧ (s.getD 0 0).toNat = 0
        · have HN : Hid (numT (f :: s) = none) := Lib.hid (by rw [HNT.out, if_pos (.inr (.inr hz))])
          have c1 : w.cell? ⟨b, o + 1, none⟩ = some (.int .u8 0) := by
            obtain ⟨b2, o2, e2, _, c2⟩ := HR.out.at_ (k := 1) (by simp; omega)
            cases e2
            rw [c2]
            have : (f :: s)[1]'(by simp; omega) = s.getD 0 0 := by simp [List.getD, show 0 < s.length by omega]
            rw [this, hz.2]; rfl
          have hk0 : (0 : Int) < (K : Int) := by omega
          clear hz
          go_enter Tryd.func33, Tryd.ntmps33
          go_wp2_with fail
          try simp only [Exit.inBlock, Exit.then]
          refine bodyPost_ret (results_tmp4 rfl _ _ _) rfl ?_
          exact ⟨⟨0, rfl⟩, by rw [HN.out]; rfl⟩
        · have HN : Hid (numT (f :: s) = some (decide (128 ≤ f.toNat), val (s.take K), s.drop K)) := Lib.hid (by rw [HNT.out, if_neg (by omega)])
          have HD := Lib.hid (HR.out.cut (k := 1 + K) (cap := c) (by simpa using hc))
          by_cases hk : 0 < K
          · have hk0 : (0 : Int) < (K : Int) := by omega
            obtain ⟨u, hu⟩ : ∃ u : UInt8, s.getD 0 0 = u := ⟨_, rfl⟩
            have c1 : w.cell? ⟨b, o + 1, none⟩ = some (.int .u8 (u.toNat : Int)) := by
              obtain ⟨b2, o2, e2, _, c2⟩ := HR.out.at_ (k := 1) (by simp; omega)
              cases e2
              rw [c2]
              have : (f :: s)[1]'(by simp; omega) = s.getD 0 0 := by simp [List.getD, show 0 < s.length by omega]
              rw [this, hu]
            have q0 : u.toNat ≠ 0 := by rw [← hu]; exact fun h => hz ⟨hk, h⟩
            have q1 : ((u.toNat : Int) == 0) = false := by rw [beq_eq_false_iff_ne]; omega
            have q2 : ¬ (u.toNat : Int) = 0 := by omega
            clear hz hu
            go_enter Tryd.func33, Tryd.ntmps33
            go_wp2_with fail
            clear c1 q1 q2
            go_loop [7, 42] (fun t i => ∃ k : Nat, k ≤ K ∧ i = .int .i64 k ∧ t = .int .u64 (val (s.take k) : Nat)) (fun _ i => K - (intOf i).toNat)
            case atStart => exact ⟨0, Nat.zero_le _, rfl, rfl⟩
            case round =>
              obtain ⟨k, hkk, rfl, rfl⟩ := hrel
              by_cases hlt : k < K
              · have hTk : k < s.length := by omega
                obtain ⟨u2, hu2⟩ : ∃ u, s[k]'hTk = u := ⟨_, rfl⟩
                have hc3 : w.cell? ⟨b, o + 1 + k, none⟩ = some (.int .u8 (u2.toNat : Int)) := by
                  obtain ⟨b2, o2, e2, _, c2⟩ := HR.out.at_ (k := k + 1) (by simp; omega)
                  cases e2
                  rw [List.getElem_cons_succ, hu2, show o + (k + 1) = o + 1 + k by omega] at c2
                  exact c2
                have hts : s.take (k + 1) = s.take k ++ [u2] := by rw [List.take_succ_eq_append_getElem hTk, hu2]
                have hv : val (s.take (k + 1)) = 256 * val (s.take k) + u2.toNat := by rw [hts, val_snoc]
                have hvl := val_lt (s.take k)
                have hlen : (s.take k).length = k := by rw [List.length_take]; omega
                rw [hlen] at hvl
                have hp7 : (256 : Nat) ^ k ≤ 256 ^ 7 := Nat.pow_le_pow_right (by decide) (by omega)
                obtain ⟨V, hV⟩ : ∃ V, val (s.take k) = V := ⟨_, rfl⟩
                have hV7 : V < 72057594037927936 := by rw [← hV]; exact Nat.lt_of_lt_of_le hvl hp7
                rw [hV] at hv ⊢
                have HV := Lib.hid hv
                have hu256 : u2.toNat < 256 := u2.toNat_lt
                clear hv hts hvl hlen hp7 hV hu2
                go_wp2_with fail
                go_round
                case rel => exact ⟨k + 1, by omega, by go_num, by rw [HV.out]; go_num⟩
                case measure => simp [intOf]; omega
              · obtain rfl : k = K := by omega
                have hmark : decide ((127 : Int) < (f.toNat : Int)) = decide (128 ≤ f.toNat) := by rw [decide_eq_decide]; omega
                have hv8 := val_lt8 (s.take k) (by rw [List.length_take]; omega)
                go_wp2_with fail
                have hsl : s.length + 1 - (1 + k) = s.length - k := by omega
                have hrd : Rd w B (some ⟨b, o + (1 + k), none⟩) (s.drop k) := by
                  have := HR.out.past_k (1 + k)
                  rw [show (f :: s).drop (1 + k) = s.drop k by simp [Nat.add_comm 1]] at this
                  exact this
                go_quiet (fail)
                go_wp2_with fail
                all_goals
                  try simp only [Exit.inBlock, Exit.then]
                  refine bodyPost_ret (results_tmp4 rfl _ _ _) rfl ?_
                  refine ⟨⟨_, rfl⟩, ?_⟩
                  rw [HN.out]
                  first
                  | exact ⟨hv8, some ⟨b, o + (1 + k), none⟩, c - (1 + k), by rw [List.length_drop]; rfl, by rw [List.length_drop]; omega, by unfold maxLen; omega, hrd⟩
                  | exact ⟨hv8, some ⟨b, o, none⟩, 0, by rw [List.length_drop]; rfl, by rw [List.length_drop]; omega, by unfold maxLen; omega, by rw [List.drop_eq_nil_of_le (by omega)]; exact Rd.nil_⟩
          · obtain rfl : K = 0 := by omega
            clear hz
            by_cases hc1 : c = 1
            all_goals
              go_enter Tryd.func33, Tryd.ntmps33
              go_wp2_with fail
              go_loop [7, 42] (fun t i => ∃ k : Nat, k ≤ 0 ∧ i = .int .i64 k ∧ t = .int .u64 0) (fun _ i => 0 - (intOf i).toNat)
              case atStart => exact ⟨0, Nat.zero_le _, rfl, rfl⟩
              case round =>
                obtain ⟨k, hkk, rfl, rfl⟩ := hrel
                obtain rfl : k = 0 := by omega
                have hmark : decide ((127 : Int) < (f.toNat : Int)) = decide (128 ≤ f.toNat) := by rw [decide_eq_decide]; omega
                have hv8 : val (s.take 0) < 18446744073709551616 := by rw [List.take_zero]; decide
                go_wp2_with fail
                have hsl : s.length + 1 - (1 + 0) = s.length - 0 := by omega
                have hrd : Rd w B (some ⟨b, o + (1 + 0), none⟩) (s.drop 0) := by
                  have := HR.out.past_k (1 + 0)
                  rw [show (f :: s).drop (1 + 0) = s.drop 0 by simp [Nat.add_comm 1]] at this
                  exact this
                go_quiet (fail)
                go_wp2_with fail
                all_goals
                  try simp only [Exit.inBlock, Exit.then]
                  refine bodyPost_ret (results_tmp4 rfl _ _ _) rfl ?_
                  refine ⟨⟨_, rfl⟩, ?_⟩
                  rw [HN.out]
                  first
                  | exact ⟨hv8, some ⟨b, o + (1 + 0), none⟩, c - (1 + 0), by rw [List.length_drop]; rfl, by rw [List.length_drop]; omega, by unfold maxLen; omega, hrd⟩
                  | exact ⟨hv8, some ⟨b, o, none⟩, 0, by rw [List.length_drop]; rfl, by rw [List.length_drop]; omega, by unfold maxLen; omega, by rw [List.drop_eq_nil_of_le (by omega)]; exact Rd.nil_⟩
      · have HN : Hid (numT (f :: s) = none) := Lib.hid (by rw [HNT.out, if_pos (.inr (.inl (by omega)))])
        have hgt : (s.length : Int) < (K : Int) := by omega
        go_enter Tryd.func33, Tryd.ntmps33
        go_wp2_with fail
        try simp only [Exit.inBlock, Exit.then]
        refine bodyPost_ret (results_tmp4 rfl _ _ _) rfl ?_
        exact ⟨⟨0, rfl⟩, by rw [HN.out]; rfl⟩
end Go.Proofs.YtbfekonlgbolcabDoor
