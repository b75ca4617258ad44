/-
  A Quill's numbers. Conditions: the Quill is known, what it has written is not too much.
-/
import Derived.Test.YtdknhjnbkmcicaaDoorQuA
import Derived.Test.YtdknhjnbkmcicaaDoorLen
import Derived.StillTailTactics
import Derived.IntWalk
import Derived.Deep.RegionHeld3
import Derived.Deep.RegionLaw
namespace Go.Proofs.YtdknhjnbkmcicaaDoor
open Go.RowKit

def QPost (w : World) (B q : Nat) (r : Option Nat) (l : List UInt8) (e : Ending) (w' : World) : Prop :=
  e = .returned (.pointer (some ⟨q, 0, none⟩)) ∧ (∃ r', Qu w' B q r' l ∧ Stays w r r') ∧ Far w w' q r

theorem one_byte {w : World} {x : Int} {u : UInt8} (h : x = (u.toNat : Int)) : ∀ (j : Nat) v, [u][j]? = some v → (w.alloc (.cells #[.int .u8 x] 5)).cell? ⟨w.heap.size, 0 + j, none⟩ = some (.int .u8 (v.toNat : Int)) := by
  intro j v hv
  rcases j with _ | j
  · simp only [List.getElem?_cons_zero, Option.some.injEq] at hv
    subst hv
    subst h
    simp [go_sem]
  · simp at hv
theorem wrap8 (x : Int) : IntKind.u8.wrap x = x % 256 := by
  simp [IntKind.wrap, IntKind.signed, IntKind.bits]
theorem Qu.set {w : World} {B q : Nat} {v v' : Value} {l : List UInt8} (hB : B ≤ q) (hb : Blk w q 65 #[v]) (ho : OwnB w B v' l.length l) : Qu (w.setCell ⟨q, 0, none⟩ v') B q v'.ownBlock l := by
  refine ⟨hB, v', by simpa using hb.set_ 0 v', ?_, rfl⟩
  have hne := own_apart ho hb (by decide)
  unfold OwnB at ho ⊢
  refine ⟨ho.1, ?_⟩
  rcases ho.2 with hn | ⟨g, cap, cur, rfl, hbg, hgg, rest⟩
  · exact .inl hn
  · refine .inr ⟨g, cap, cur, rfl, hbg, ?_, rest⟩
    rw [Below.heap_setCell w ⟨q, 0, none⟩ _ g (fun e => hne (by rw [e]; rfl))]
    exact hgg

set_option maxRecDepth 20000 in
set_option maxHeartbeats 2000000 in
theorem QNumber_any (B q : Nat) (r : Option Nat) (l : List UInt8) (m n : Nat) (hm : m = 0 ∨ m = 128) (hn : n < 18446744073709551616) (hl : l.length ≤ 1000000) (w : World) (h : Qu w B q r l) :
    Calls Tryd.prog 42 #[.pointer (some ⟨q, 0, none⟩), .int .u8 (m : Int), .int .u64 (n : Int)] w (QPost w B q r (l ++ layN m n)) := by
  have h8 := nb_le n hn
  have hbl := bit_le n hn
  have hlen : ∀ W, Calls Tryd.prog 61 #[.int .u64 (n : Int)] W fun e w' => e = .returned (.int .i64 (Lib.bitLen n)) ∧ W = w' := fun W => by
    have := bits_Len64 (n : Int) W (by omega) (by omega)
    rw [Int.toNat_natCast] at this
    exact this.mono fun _ _ ⟨a, b⟩ => ⟨a, b.symm⟩
  obtain ⟨N, hN⟩ : ∃ N, nb n = N := ⟨_, rfl⟩
  have hN2 : ((Lib.bitLen n : Int) + 7) / 8 = (N : Int) := by unfold nb at hN; omega
  obtain ⟨F, hF⟩ : ∃ F : UInt8, F = UInt8.ofNat (m + N) := ⟨_, rfl⟩
  have hF2 : (F.toNat : Int) = (m : Int) + (N : Int) := by rw [hF, ofNat_nat _ (by omega)]; omega
  have hlay : layN m n = F :: beK N n := by unfold layN digs; rw [hN, hF]
  rw [hlay]
  rw [hN] at h8
  obtain ⟨hB, v, hk, ho, hr⟩ := h
  have hap := own_apart ho hk (by decide)
  have hal := ho.alloc (.cells #[.int .u8 ((m : Int) + (N : Int))] 5)
  have hka := hk.alloc (.cells #[.int .u8 ((m : Int) + (N : Int))] 5)
  have hq := hk.lt
  have HK := Lib.hid hk
  have HO := Lib.hid ho
  have HR := Lib.hid hr
  have HLEN := Lib.hid hlen
  have HFF := Lib.hid hF2
  have c0 := hk.cell 0
  have f0 := hk.frozen 0
  simp at c0
  clear hlay hF hk ho hr hF2 hN hlen
  go_enter Tryd.func42, Tryd.ntmps42
  go_wp2_with fail
  refine (HLEN.out _).mono ?_
  rintro e w1 ⟨rfl, rfl⟩
  have HAL := Lib.hid hal
  have HKA := Lib.hid hka
  have HB1 := Lib.hid (one_byte (w := w) HFF.out.symm)
  have HAP := Lib.hid hap
  clear hal hka hap
  go_wp2_with (with_reducible refine wpl_append_at (o := ⟨some 25, _, _, _, _, _⟩) rfl (.tmp 19) (.tmp 24) rfl B _ l.length l ?h1 HAL.out w.heap.size 0 1 1 [F] ?h2 HB1.out rfl ?h3 ?h4 ?_)
  try (case h1 => rfl)
  try (case h2 => rfl)
  case h3 => omega
  case h4 => simp; omega
  intro v1 w1 hown hg hat
  have hk1 := HKA.out.grown hg (fun e => HAP.out e.symm)
  have d0 := hk1.cell 0
  have e0 := hk1.frozen 0
  simp at d0
  obtain ⟨_, A1, c1, rfl, _, _, _⟩ := own_form hown
  have hQ := Qu.set hB hk1 (by rw [List.length_append]; exact hown : OwnB w1 B (.slice A1 (l.length + 1) c1) (l ++ [F]).length (l ++ [F]))
  have hF : Far w (w1.setCell ⟨q, 0, none⟩ (.slice A1 (l.length + 1) c1)) q r := by
    rw [HR.out] at hg
    exact (((Far.refl w q r).alloc (.cells #[.int .u8 ((m : Int) + (N : Int))] 5)).grown hg).set 0 _
  have hS : Stays w r (Value.slice A1 (l.length + 1) c1).ownBlock := by
    rcases hat with h | h
    · exact .inl (h.trans HR.out)
    · exact .inr ⟨_, h, by simp⟩
  have HQ := Lib.hid (show ∃ r', Qu (w1.setCell ⟨q, 0, none⟩ (.slice A1 (l.length + 1) c1)) B q r' (l ++ [F]) ∧ Stays w r r' from ⟨_, hQ, hS⟩)
  have HF := Lib.hid hF
  clear hown hg hat hk1 hQ hF hS HKA HAL HB1 HAP HR HO HK c0 f0
  go_wp2_with fail
  clear d0 e0
  go_loopw [8] (fun i wr => ∃ (k : Nat) (r' : Option Nat) (ws : List UInt8), k ≤ N ∧ i = .int .i64 ((k : Int) - 1) ∧ Hid (ws.length + k = l.length + 1 + N ∧ ws ++ beK k n = l ++ F :: beK N n) ∧ Hid (Qu wr B q r' ws) ∧ Hid (Stays w r r') ∧ Hid (Far w wr q r)) (fun i _ => (intOf i + 1).toNat)
  case atStart =>
    obtain ⟨r', h1, h2⟩ := HQ.out
    exact ⟨N, r', l ++ [F], Nat.le_refl _, rfl, Lib.hid ⟨by simp, by simp⟩, Lib.hid h1, Lib.hid h2, HF⟩
  case round =>
    obtain ⟨k, r', ws, hk, rfl, HWS, HQ1, HS1, HF1⟩ := hrel
    clear HQ HF
    rcases k with _ | j
    · go_wp2_with fail
      go_ret
      refine ⟨rfl, ⟨r', ?_, HS1.out⟩, HF1.out⟩
      have e := HWS.out.2
      rw [beK, List.append_nil] at e
      rw [← e]
      exact HQ1.out
    · obtain ⟨hB2, v, hk2, ho2, hr2⟩ := HQ1.out
      have hwl : ws.length ≤ 1000010 := by have := HWS.out.1; omega
      obtain ⟨u, hu⟩ : ∃ u : UInt8, u = UInt8.ofNat (n / 256 ^ j % 256) := ⟨_, rfl⟩
      have hu2 : (u.toNat : Int) = (n : Int) / 2 ^ (8 * j) % 256 := by
        rw [hu, ofNat_nat _ (by omega), show (256 : Nat) ^ j = 2 ^ (8 * j) by rw [Nat.pow_mul]]
        simp
      have c0 := hk2.cell 0
      have f0 := hk2.frozen 0
      simp at c0
      rw [show ((j + 1 : Nat) : Int) - 1 = (j : Int) by omega]
      go_wp2_with fail
      have hwu : IntKind.u8.wrap ((n : Int) / 2 ^ (8 * j)) = (u.toNat : Int) := by rw [hu2]; exact wrap8 _
      have hal := ho2.alloc (.cells #[.int .u8 (IntKind.u8.wrap ((n : Int) / 2 ^ (8 * j)))] 5)
      have hka := hk2.alloc (.cells #[.int .u8 (IntKind.u8.wrap ((n : Int) / 2 ^ (8 * j)))] 5)
      have HAP := Lib.hid (own_apart ho2 hk2 (by decide))
      have HAL := Lib.hid hal
      have HKA := Lib.hid hka
      have HB1 := Lib.hid (one_byte (w := wr) hwu)
      have HU := Lib.hid hu
      have HR2 := Lib.hid hr2
      have HHQ : Hid (q < wr.heap.size) := Lib.hid hk2.lt
      have HHB : Hid (B ≤ wr.heap.size) := Lib.hid (by have := hk2.lt; omega)
      have hw8 : IntKind.i64.wrap (8 * (j : Int)) = 8 * (j : Int) := IntWalk.i64_in _ (by omega)
      have hw9 : (0 : Int) ≤ 8 * (j : Int) := by omega
      have hw10 : (8 * (j : Int)).toNat = 8 * j := by omega
      have hw11 : (8 * (j : Int)) < 64 := by omega
      have hne := World.new_ne wr _ c0
      have c9 := hka.cell 0
      simp only [List.getElem?_toArray, List.getElem?_cons_zero] at c9
      clear hk2 ho2 hal hka hu hu2 hr2 hwu
      go_region_law ((refine step_append_b rfl (.tmp 38) (.tmp 44) rfl B v ws.length ws (by rfl) (HAL.out.drew) wr.heap.size 0 1 1 [u] (by rfl) HB1.out rfl (by omega) (by have := HHB.out; simp; omega) ?_; intro v2 w2 hown hg hat; have hk1 := HKA.out.drew.grown hg (fun e => HAP.out e.symm); have d1 := hk1.cell 0; have e1 := hk1.frozen 0; simp at d1; obtain ⟨_, A2, c2, rfl, _, _, _⟩ := own_form hown; have HO9 := Lib.hid hown; have HG9 := Lib.hid hg; have HT9 := Lib.hid hat; have HK9 := Lib.hid hk1; clear hown hg hat hk1))
      all_goals
        have hQ := Qu.set hB2 HK9.out (by rw [List.length_append]; exact HO9.out : OwnB w2 B (.slice A2 (ws.length + 1) c2) (ws ++ [u]).length (ws ++ [u]))
        have hF : Far wr (w2.setCell ⟨q, 0, none⟩ (.slice A2 (ws.length + 1) c2)) q r' := by
          have hg := HG9.out
          rw [HR2.out] at hg
          exact ((((Far.refl wr q r').alloc (.cells #[.int .u8 (IntKind.u8.wrap ((n : Int) / 2 ^ (8 * j)))] 5)).drew).grown hg).set 0 _
        have hS : Stays wr r' (Value.slice A2 (ws.length + 1) c2).ownBlock := by
          rcases HT9.out with h | h
          · exact .inl (h.trans HR2.out)
          · exact .inr ⟨_, h, by simp⟩
        have HQ := Lib.hid hQ
        have HFF2 := Lib.hid (HF1.out.trans hF HS1.out)
        have HSS := Lib.hid (HS1.out.trans hS HF1.out.2.2.2.1)
        clear hQ hF hS d1 e1
        go_wp2_with fail
        go_roundw
        case rel =>
          refine ⟨j, _, ws ++ [u], by omega, rfl, Lib.hid ⟨?_, ?_⟩, HQ, HSS, HFF2⟩
          · have := HWS.out.1
            rw [List.length_append, List.length_singleton]
            omega
          · have := HWS.out.2
            rw [beK] at this
            rw [List.append_assoc, HU.out]
            exact this
        case measure => simp [intOf]
end Go.Proofs.YtdknhjnbkmcicaaDoor
