/-
  The references' Uint, Int, Flag, Text, Lay of layer 8. Conditions: a number of 64 bits, a text of at most 1000 bytes.
-/
import Derived.Test.YtdknhjnbkmcicaaDoorQuG
import Derived.Test.YtdknhjnbkmcicaaDoorJoin
import Derived.Lib.AtoiErrMem
namespace Go.Proofs.YtdknhjnbkmcicaaDoor
open Go.RowKit

theorem Join_two_own (A1 A2 : Option Addr) (n1 n2 c1 c2 B1 B2 : Nat) (l1 l2 : List UInt8) (w : World) (h1 : Rd w B1 A1 l1) (hB1 : B1 ≤ w.heap.size) (h2 : Rd w B2 A2 l2) (hB2 : B2 ≤ w.heap.size) (hn1 : l1.length = n1) (hn2 : l2.length = n2) (hm : n1 + n2 ≤ 140737488355328) :
    Calls Tryd.prog 15 #[.slice (some ⟨w.heap.size, 0, none⟩) 2 2] (w.alloc (.cells #[.slice A1 n1 c1, .slice A2 n2 c2] 27)) (OwnPost w.heap.size w (l1 ++ l2)) := by
  subst hn1 hn2
  have h := Join_own w.heap.size 0 2 (w.heap.size + 1) [⟨A1, c1, l1⟩, ⟨A2, c2, l2⟩] 2 (w.alloc (.cells #[.slice A1 l1.length c1, .slice A2 l2.length c2] 27)) (fun j g hg => by
      rcases j with _ | _ | j
      · simp only [List.getElem?_cons_zero, Option.some.injEq] at hg
        subst hg
        exact ⟨by simp [go_sem], seg_rd h1 hB1 _⟩
      · simp only [List.getElem?_cons_succ, List.getElem?_cons_zero, Option.some.injEq] at hg
        subst hg
        exact ⟨by simp [go_sem], seg_rd h2 hB2 _⟩
      · simp at hg) (by omega) (by simp) rfl (by decide) (by simp [glue]; omega)
  refine h.mono fun e w' hp => ?_
  obtain ⟨v, he, ho, hb⟩ := hp
  have e1 : glue [⟨A1, c1, l1⟩, ⟨A2, c2, l2⟩] = l1 ++ l2 := by simp [glue]
  rw [e1] at ho
  refine ⟨v, he, ⟨ho.1, ?_⟩, ((Below.refl _ w).alloc (Nat.le_refl _) _).trans (hb.mono (by simp))⟩
  rcases ho.2 with h | ⟨g, cap, cur, ha, hg, hr⟩
  · exact .inl h
  · refine .inr ⟨g, cap, cur, ha, ?_, hr⟩
    have : (w.alloc (.cells #[.slice A1 l1.length c1, .slice A2 l2.length c2] 27)).heap.size = w.heap.size + 1 := by simp
    omega
/-- Join of two, where what was made before lies between. -/
theorem Join_after (A1 A2 : Option Addr) (n1 n2 c1 c2 : Nat) (l1 l2 : List UInt8) (w0 w : World) (hb : Below w0.heap.size w0 w) (h1 : Rd w w.heap.size A1 l1) (h2 : Rd w w.heap.size A2 l2) (hn1 : l1.length = n1) (hn2 : l2.length = n2) (hm : n1 + n2 ≤ 140737488355328) :
    Calls Tryd.prog 15 #[.slice (some ⟨w.heap.size, 0, none⟩) 2 2] (w.alloc (.cells #[.slice A1 n1 c1, .slice A2 n2 c2] 27)) (OwnPost w0.heap.size w0 (l1 ++ l2)) := by
  refine (Join_two_own A1 A2 n1 n2 c1 c2 w.heap.size w.heap.size l1 l2 w h1 (Nat.le_refl _) h2 (Nat.le_refl _) hn1 hn2 hm).mono fun e w' hp => ?_
  obtain ⟨v, he, ho, hb'⟩ := hp
  refine ⟨v, he, ⟨ho.1, ?_⟩, hb.trans (hb'.mono hb.size)⟩
  rcases ho.2 with h | ⟨g, cap, cur, ha, hg, hr⟩
  · exact .inl h
  · exact .inr ⟨g, cap, cur, ha, Nat.le_trans hb.size hg, hr⟩
theorem one_rd (w : World) (x : Int) (u : UInt8) (h : x = (u.toNat : Int)) : Rd (w.alloc (.cells #[.int .u8 x] 5)) (w.alloc (.cells #[.int .u8 x] 5)).heap.size (some ⟨w.heap.size, 0, none⟩) [u] := fun _ =>
  ⟨w.heap.size, 0, rfl, by simp, one_byte h⟩

theorem bytes_rd (w : World) (e : TypeId) (s : ByteArray) : Rd (Lib.bytesWorld w e s) (Lib.bytesWorld w e s).heap.size (some ⟨w.heap.size, 0, none⟩) s.data.toList := fun _ =>
  ⟨w.heap.size, 0, rfl, by rw [Lib.bytesWorld_size]; omega, fun j u hu => by
    obtain ⟨hj, hv⟩ := List.getElem?_eq_some_iff.1 hu
    rw [Nat.zero_add, Lib.bytesWorld_cell w e s j (by simpa using hj), List.getD, hu, Option.getD_some]⟩

set_option maxRecDepth 20000 in
set_option maxHeartbeats 2000000 in
theorem RDigits_any (n : Nat) (hn : n < 18446744073709551616) (w : World) : Calls Tryd.prog 47 #[.int .u64 (n : Int)] w (OwnPost w.heap.size w (digs n)) := by
  induction n using Nat.strongRecOn generalizing w with
  | ind n ih =>
    by_cases h0 : n = 0
    · subst h0
      go_enter Tryd.func47, Tryd.ntmps47
      go_wp2_with fail
      go_ret
      exact ⟨_, rfl, by rw [digs_zero]; exact OwnB.nil_ _ _, Below.refl _ _⟩
    · have h := ih (n / 256) (by omega) (by omega) w
      have hs := digs_step n (by omega) hn
      have hl := digs_len (n / 256)
      have h8 := nb_le (n / 256) (by omega)
      have H := Lib.hid h
      have HS := Lib.hid hs
      have HL := Lib.hid hl
      have hq : ((n / 256 : Nat) : Int) = (n : Int) / 256 := by omega
      have hz : ¬ (n : Int) = 0 := by omega
      have hr : (((n % 256 : Nat)) : Int) = (n : Int) % 256 := by omega
      clear h hs hl ih
      go_enter Tryd.func47, Tryd.ntmps47
      go_wp2_with fail
      rw [← hq]
      refine H.out.mono ?_
      rintro e w1 ⟨v, rfl, ho, hb⟩
      obtain ⟨hl1, A, c, rfl, hc1, hc2, hrd⟩ := own_form ho
      have hu : (n : Int) % 256 = ((UInt8.ofNat (n % 256)).toNat : Int) := by rw [ofNat_nat _ (by omega)]; omega
      have hJ := Join_after A (some ⟨w1.heap.size, 0, none⟩) (digs (n / 256)).length 1 c 1 (digs (n / 256)) [UInt8.ofNat (n % 256)] w (w1.alloc (.cells #[.int .u8 ((n : Int) % 256)] 5)) (hb.alloc hb.size _) ((hrd.alloc (Nat.le_refl _) _).more (by simp)) (one_rd w1 _ _ hu) rfl rfl (by rw [HL.out]; omega)
      rw [show (w1.alloc (.cells #[.int .u8 ((n : Int) % 256)] 5)).heap.size = w1.heap.size + 1 by simp, ← HS.out] at hJ
      have HJ := Lib.hid hJ
      clear ho hb hrd H hJ hu
      go_wp2_with fail
      refine HJ.out.mono ?_
      rintro e w2 ⟨v, rfl, ho2, hb2⟩
      have HO2 := Lib.hid ho2
      have HB2 := Lib.hid hb2
      clear ho2 hb2
      go_wp2_with fail
      go_ret
      exact ⟨v, rfl, HO2.out, HB2.out⟩

set_option maxRecDepth 20000 in
set_option maxHeartbeats 2000000 in
theorem RUint_any (n : Nat) (hn : n < 18446744073709551616) (w : World) : Calls Tryd.prog 33 #[.int .u64 (n : Int)] w (OwnPost w.heap.size w (layN 0 n)) := by
  have hl := digs_len n
  have h8 := nb_le n hn
  have h := RDigits_any n hn w
  obtain ⟨D, hD⟩ : ∃ D, digs n = D := ⟨_, rfl⟩
  have hlay : layN 0 n = [UInt8.ofNat D.length] ++ D := by unfold layN; rw [← digs_len, hD, Nat.zero_add]; rfl
  rw [hD] at h hl
  rw [hlay]
  have hd8 : D.length ≤ 8 := by omega
  have H := Lib.hid h
  clear hlay h hl h8 hD
  go_enter Tryd.func33, Tryd.ntmps33
  go_wp2_with fail
  refine H.out.mono ?_
  rintro e w1 ⟨v, rfl, ho, hb⟩
  obtain ⟨hl1, A, c, rfl, hc1, hc2, hrd⟩ := own_form ho
  have hu : (D.length : Int) = ((UInt8.ofNat D.length).toNat : Int) := by rw [ofNat_nat _ (by omega)]
  have hJ := Join_after (some ⟨w1.heap.size, 0, none⟩) A 1 D.length 1 c [UInt8.ofNat D.length] D w (w1.alloc (.cells #[.int .u8 (D.length : Int)] 5)) (hb.alloc hb.size _) (one_rd w1 _ _ hu) ((hrd.alloc (Nat.le_refl _) _).more (by simp)) rfl rfl (by omega)
  rw [show (w1.alloc (.cells #[.int .u8 (D.length : Int)] 5)).heap.size = w1.heap.size + 1 by simp] at hJ
  have HJ := Lib.hid hJ
  clear ho hb hrd H hJ hu
  go_wp2_with fail
  refine HJ.out.mono ?_
  rintro e w2 ⟨v, rfl, ho2, hb2⟩
  have HO2 := Lib.hid ho2
  have HB2 := Lib.hid hb2
  clear ho2 hb2
  go_wp2_with fail
  go_ret
  exact ⟨v, rfl, HO2.out, HB2.out⟩

end Go.Proofs.YtdknhjnbkmcicaaDoor
