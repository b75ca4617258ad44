/-
A Quill's numbers. Conditions: the Quill is known, what it has written is not too much.
What a Quill writes: Uint, Int, Flag, Text; Done. Conditions: the Quill is known, what it has written is not too much.
Copies: slices.Clone of bytes, a Quill's Done, Look. Conditions: the bytes are there, and not too many.
A Lens: take, spoil, number. Conditions: the Lens is known.
A Lens's number. Conditions: the Lens is known.
What a Lens tells: Uint, Int, Flag, Rest, End. Conditions: the Lens is known.
-/
import Derived.Test.YtjlajnackecfgaaGreatDoorQuAZ9
import Derived.Test.YtjlajnackecfgaaGreatDoorLenZ9
import Derived.StillTailTactics
import Derived.IntWalk
import Derived.Deep.RegionHeld3
import Derived.Deep.RegionLaw
import Derived.Laws.BitsAllLaws
import Derived.Deep.QuietTactic
import Derived.BigQuiet
namespace Go.Proofs.YtjlajnackecfgaaGreatDoor
open Go.RowKit

def QPost (w : World) (B q : Nat) (r : Option Nat) (l : List UInt8) (e : Ending) (w' : World) : Prop :=
  e = .returned (.pointer (some ⟨q, 0, none⟩)) ∧ (∃ r', Qu w' B q r' l ∧ Stays w r r') ∧ Far w w' q r

theorem one_byte {w : World} {x : Int} {u : UInt8} (h : x = (u.toNat : Int)) : ∀ (j : Nat) v, [u][j]? = some v → (w.alloc (.cells #[.int .u8 x] 5)).cell? ⟨w.heap.size, 0 + j, none⟩ = some (.int .u8 (v.toNat : Int)) := by
  intro j v hv
  rcases j with _ | j
  · simp only [List.getElem?_cons_zero, Option.some.injEq] at hv
    subst hv
    subst h
    simp [go_sem]
  · simp at hv
theorem wrap8 (x : Int) : IntKind.u8.wrap x = x % 256 := by
  simp [IntKind.wrap, IntKind.signed, IntKind.bits]
theorem Qu.set {w : World} {B q : Nat} {v v' : Value} {l : List UInt8} (hB : B ≤ q) (hb : Blk w q 66 #[v]) (ho : OwnB w B v' l.length l) : Qu (w.setCell ⟨q, 0, none⟩ v') B q v'.ownBlock l := by
  refine ⟨hB, v', by simpa using hb.set_ 0 v', ?_, rfl⟩
  have hne := own_apart ho hb (by decide)
  unfold OwnB at ho ⊢
  refine ⟨ho.1, ?_⟩
  rcases ho.2 with hn | ⟨g, cap, cur, rfl, hbg, hgg, rest⟩
  · exact .inl hn
  · refine .inr ⟨g, cap, cur, rfl, hbg, ?_, rest⟩
    rw [Below.heap_setCell w ⟨q, 0, none⟩ _ g (fun e => hne (by rw [e]; rfl))]
    exact hgg

set_option maxRecDepth 20000 in
set_option maxHeartbeats 2000000 in
theorem QNumber_any (B q : Nat) (r : Option Nat) (l : List UInt8) (m n : Nat) (hm : m = 0 ∨ m = 128) (hn : n < 18446744073709551616) (hl : l.length ≤ 1000000) (w : World) (h : Qu w B q r l) :
    Calls Tryz.prog 53 #[.pointer (some ⟨q, 0, none⟩), .int .u8 (m : Int), .int .u64 (n : Int)] w (QPost w B q r (l ++ layN m n)) := by
  have h8 := nb_le n hn
  have hbl := bit_leQ n hn
  have hlen : ∀ W, Calls Tryz.prog 84 #[.int .u64 (n : Int)] W fun e w' => e = .returned (.int .i64 (Lib.bitLen n)) ∧ W = w' := fun W => by
    have := bits_Len64 (n : Int) W (by omega) (by omega)
    rw [Int.toNat_natCast] at this
    exact this.mono fun _ _ ⟨a, b⟩ => ⟨a, b.symm⟩
  obtain ⟨N, hN⟩ : ∃ N, nb n = N := ⟨_, rfl⟩
  have hN2 : ((Lib.bitLen n : Int) + 7) / 8 = (N : Int) := by unfold nb at hN; omega
  obtain ⟨F, hF⟩ : ∃ F : UInt8, F = UInt8.ofNat (m + N) := ⟨_, rfl⟩
  have hF2 : (F.toNat : Int) = (m : Int) + (N : Int) := by rw [hF, ofNat_nat _ (by omega)]; omega
  have hlay : layN m n = F :: beK N n := by unfold layN digs; rw [hN, hF]
  rw [hlay]
  rw [hN] at h8
  obtain ⟨hB, v, hk, ho, hr⟩ := h
  have hap := own_apart ho hk (by decide)
  have hal := ho.alloc (.cells #[.int .u8 ((m : Int) + (N : Int))] 5)
  have hka := hk.alloc (.cells #[.int .u8 ((m : Int) + (N : Int))] 5)
  have hq := hk.lt
  have HK := Lib.hid hk
  have HO := Lib.hid ho
  have HR := Lib.hid hr
  have HLEN := Lib.hid hlen
  have HFF := Lib.hid hF2
  have c0 := hk.cell 0
  have f0 := hk.frozen 0
  simp at c0
  clear hlay hF hk ho hr hF2 hN hlen
  go_enter Tryz.func53, Tryz.ntmps53
  go_wp2_with fail
  refine (HLEN.out _).mono ?_
  rintro e w1 ⟨rfl, rfl⟩
  have HAL := Lib.hid hal
  have HKA := Lib.hid hka
  have HB1 := Lib.hid (one_byte (w := w) HFF.out.symm)
  have HAP := Lib.hid hap
  clear hal hka hap
  go_wp2_with (with_reducible refine wpl_append_at (o := ⟨some 25, _, _, _, _, _⟩) rfl (.tmp 19) (.tmp 24) rfl B _ l.length l ?h1 HAL.out w.heap.size 0 1 1 [F] ?h2 HB1.out rfl ?h3 ?h4 ?_)
  try (case h1 => rfl)
  try (case h2 => rfl)
  case h3 => omega
  case h4 => simp; omega
  intro v1 w1 hown hg hat
  have hk1 := HKA.out.grown hg (fun e => HAP.out e.symm)
  have d0 := hk1.cell 0
  have e0 := hk1.frozen 0
  simp at d0
  obtain ⟨_, A1, c1, rfl, _, _, _⟩ := own_form hown
  have hQ := Qu.set hB hk1 (by rw [List.length_append]; exact hown : OwnB w1 B (.slice A1 (l.length + 1) c1) (l ++ [F]).length (l ++ [F]))
  have hF : Far w (w1.setCell ⟨q, 0, none⟩ (.slice A1 (l.length + 1) c1)) q r := by
    rw [HR.out] at hg
    exact (((Far.refl w q r).alloc (.cells #[.int .u8 ((m : Int) + (N : Int))] 5)).grown hg).set 0 _
  have hS : Stays w r (Value.slice A1 (l.length + 1) c1).ownBlock := by
    rcases hat with h | h
    · exact .inl (h.trans HR.out)
    · exact .inr ⟨_, h, by simp⟩
  have HQ := Lib.hid (show ∃ r', Qu (w1.setCell ⟨q, 0, none⟩ (.slice A1 (l.length + 1) c1)) B q r' (l ++ [F]) ∧ Stays w r r' from ⟨_, hQ, hS⟩)
  have HF := Lib.hid hF
  clear hown hg hat hk1 hQ hF hS HKA HAL HB1 HAP HR HO HK c0 f0
  go_wp2_with fail
  clear d0 e0
  go_loopw [8] (fun i wr => ∃ (k : Nat) (r' : Option Nat) (ws : List UInt8), k ≤ N ∧ i = .int .i64 ((k : Int) - 1) ∧ Hid (ws.length + k = l.length + 1 + N ∧ ws ++ beK k n = l ++ F :: beK N n) ∧ Hid (Qu wr B q r' ws) ∧ Hid (Stays w r r') ∧ Hid (Far w wr q r)) (fun i _ => (intOf i + 1).toNat)
  case atStart =>
    obtain ⟨r', h1, h2⟩ := HQ.out
    exact ⟨N, r', l ++ [F], Nat.le_refl _, rfl, Lib.hid ⟨by simp, by simp⟩, Lib.hid h1, Lib.hid h2, HF⟩
  case round =>
    obtain ⟨k, r', ws, hk, rfl, HWS, HQ1, HS1, HF1⟩ := hrel
    clear HQ HF
    rcases k with _ | j
    · go_wp2_with fail
      go_ret
      refine ⟨rfl, ⟨r', ?_, HS1.out⟩, HF1.out⟩
      have e := HWS.out.2
      rw [beK, List.append_nil] at e
      rw [← e]
      exact HQ1.out
    · obtain ⟨hB2, v, hk2, ho2, hr2⟩ := HQ1.out
      have hwl : ws.length ≤ 1000010 := by have := HWS.out.1; omega
      obtain ⟨u, hu⟩ : ∃ u : UInt8, u = UInt8.ofNat (n / 256 ^ j % 256) := ⟨_, rfl⟩
      have hu2 : (u.toNat : Int) = (n : Int) / 2 ^ (8 * j) % 256 := by
        rw [hu, ofNat_nat _ (by omega), show (256 : Nat) ^ j = 2 ^ (8 * j) by rw [Nat.pow_mul]]
        simp
      have c0 := hk2.cell 0
      have f0 := hk2.frozen 0
      simp at c0
      rw [show ((j + 1 : Nat) : Int) - 1 = (j : Int) by omega]
      go_wp2_with fail
      have hwu : IntKind.u8.wrap ((n : Int) / 2 ^ (8 * j)) = (u.toNat : Int) := by rw [hu2]; exact wrap8 _
      have hal := ho2.alloc (.cells #[.int .u8 (IntKind.u8.wrap ((n : Int) / 2 ^ (8 * j)))] 5)
      have hka := hk2.alloc (.cells #[.int .u8 (IntKind.u8.wrap ((n : Int) / 2 ^ (8 * j)))] 5)
      have HAP := Lib.hid (own_apart ho2 hk2 (by decide))
      have HAL := Lib.hid hal
      have HKA := Lib.hid hka
      have HB1 := Lib.hid (one_byte (w := wr) hwu)
      have HU := Lib.hid hu
      have HR2 := Lib.hid hr2
      have HHQ : Hid (q < wr.heap.size) := Lib.hid hk2.lt
      have HHB : Hid (B ≤ wr.heap.size) := Lib.hid (by have := hk2.lt; omega)
      have hw8 : IntKind.i64.wrap (8 * (j : Int)) = 8 * (j : Int) := IntWalk.i64_in _ (by omega)
      have hw9 : (0 : Int) ≤ 8 * (j : Int) := by omega
      have hw10 : (8 * (j : Int)).toNat = 8 * j := by omega
      have hw11 : (8 * (j : Int)) < 64 := by omega
      have hne := World.new_ne wr _ c0
      have c9 := hka.cell 0
      simp only [List.getElem?_toArray, List.getElem?_cons_zero] at c9
      clear hk2 ho2 hal hka hu hu2 hr2 hwu
      go_region_law ((refine step_append_b rfl (.tmp 38) (.tmp 44) rfl B v ws.length ws (by rfl) (HAL.out.drew) wr.heap.size 0 1 1 [u] (by rfl) HB1.out rfl (by omega) (by have := HHB.out; simp; omega) ?_; intro v2 w2 hown hg hat; have hk1 := HKA.out.drew.grown hg (fun e => HAP.out e.symm); have d1 := hk1.cell 0; have e1 := hk1.frozen 0; simp at d1; obtain ⟨_, A2, c2, rfl, _, _, _⟩ := own_form hown; have HO9 := Lib.hid hown; have HG9 := Lib.hid hg; have HT9 := Lib.hid hat; have HK9 := Lib.hid hk1; clear hown hg hat hk1))
      all_goals
        have hQ := Qu.set hB2 HK9.out (by rw [List.length_append]; exact HO9.out : OwnB w2 B (.slice A2 (ws.length + 1) c2) (ws ++ [u]).length (ws ++ [u]))
        have hF : Far wr (w2.setCell ⟨q, 0, none⟩ (.slice A2 (ws.length + 1) c2)) q r' := by
          have hg := HG9.out
          rw [HR2.out] at hg
          exact ((((Far.refl wr q r').alloc (.cells #[.int .u8 (IntKind.u8.wrap ((n : Int) / 2 ^ (8 * j)))] 5)).drew).grown hg).set 0 _
        have hS : Stays wr r' (Value.slice A2 (ws.length + 1) c2).ownBlock := by
          rcases HT9.out with h | h
          · exact .inl (h.trans HR2.out)
          · exact .inr ⟨_, h, by simp⟩
        have HQ := Lib.hid hQ
        have HFF2 := Lib.hid (HF1.out.trans hF HS1.out)
        have HSS := Lib.hid (HS1.out.trans hS HF1.out.2.2.2.1)
        clear hQ hF hS d1 e1
        go_wp2_with fail
        go_roundw
        case rel =>
          refine ⟨j, _, ws ++ [u], by omega, rfl, Lib.hid ⟨?_, ?_⟩, HQ, HSS, HFF2⟩
          · have := HWS.out.1
            rw [List.length_append, List.length_singleton]
            omega
          · have := HWS.out.2
            rw [beK] at this
            rw [List.append_assoc, HU.out]
            exact this
        case measure => simp [intOf]
end Go.Proofs.YtjlajnackecfgaaGreatDoor
namespace Go.Proofs.YtjlajnackecfgaaGreatDoor
open Go.RowKit

theorem str_at {w : World} (base : Nat) (ty : TypeId) (v : Value) (n : Nat) (l : List UInt8) (hown : OwnB w base v n l) (s : ByteArray) (hsz : n + s.size ≤ 70368744177664) (hbase : base ≤ w.heap.size) :
    ∃ v' w', (Builtin.append_ #[33, 9] ty #[v, .string s]).run Tryz.prog w = .ok v' w' ∧ OwnB w' base v' (n + s.size) (l ++ s.data.toList) ∧ w.grownBy w' v.ownBlock ∧ (v'.ownBlock = v.ownBlock ∨ v'.ownBlock = some w.heap.size) := by
  obtain ⟨i0, hi, hz0, hz1, hz2⟩ := info_parts infoB
  obtain ⟨v', w', hr, h2, h3, h4⟩ := Lib.run_append_own_string (P := Tryz.prog) w base 33 9 ty 5 i0 Tryz.underlying33 Tryz.underlying9 hi hz0 hz1 hz2 v n (l.map enc8) hown s (by unfold maxLen; omega) (by omega) hbase
  refine ⟨v', w', hr, by unfold OwnB; rw [List.map_append]; exact h2, h3, ?_⟩
  unfold OwnB at hown
  rcases hown.2 with ⟨rfl, _⟩ | ⟨g, cap, cur, rfl, _, hg, hnc, hcm, hcs, _⟩
  · by_cases hs : s.size = 0
    · rw [h4.2 ⟨rfl, hs⟩]
      exact .inl rfl
    · have hr2 := run_append_nil_string (P := Tryz.prog) w 33 9 ty 5 i0 (.int .u8 0) Tryz.underlying33 Tryz.underlying9 hi hz0 s (by omega) (by omega) (by rw [hz2]; omega)
      rw [hr] at hr2
      injection hr2 with e1 e2
      rw [e1]
      exact .inr rfl
  · by_cases hroom : n + s.size ≤ cap
    · have hcs' : cur.size = cap := by simpa using hcs
      have hr2 := Lib.run_append_room_string (P := Tryz.prog) w 33 9 ty 5 i0 Tryz.underlying33 Tryz.underlying9 hi hz1 g n cap cur hg s hroom (by omega)
      rw [hr] at hr2
      injection hr2 with e1 e2
      rw [e1]
      exact .inl rfl
    · have holds : ∀ j u, (l.map enc8)[j]? = some u → w.cell? ((⟨g, 0, none⟩ : Addr).add j) = some u := World.ownsRow.cells hown (g := g) rfl
      have hl : (l.map enc8).length = n := by simpa using hown.1
      have hr2 := Lib.run_append_grow_string (P := Tryz.prog) w 33 9 ty 5 i0 (.int .u8 0) Tryz.underlying33 Tryz.underlying9 hi hz0 ⟨g, 0, none⟩ n cap (l.map enc8) (by rw [hz1]; simpa using hl) holds s (by omega) (by omega)
        (by rw [hz2]; exact growslice_fits (by omega) (by omega))
      rw [hr] at hr2
      injection hr2 with e1 e2
      rw [e1]
      exact .inr rfl
theorem wpl_str_at {w : World} {ops : Array Oper} {rest : List Oper} {o : Oper} {a : Act} {Q : Exit → Act → World → Prop} (hgd : o.guard = Option.none) (s x : Operand)
    (ho : o.op = .call { callee := .builtin .append, args := #[s, x], argTypes := #[33, 9] })
    (base : Nat) (v : Value) (n : Nat) (l : List UInt8) (hs : a.eval s = v) (hown : OwnB w base v n l) (t : ByteArray) (hx : a.eval x = .string t) (hsz : n + t.size ≤ 70368744177664) (hbase : base ≤ w.heap.size)
    (h : ∀ v' w', OwnB w' base v' (n + t.size) (l ++ t.data.toList) → w.grownBy w' v.ownBlock → (v'.ownBlock = v.ownBlock ∨ v'.ownBlock = some w.heap.size) → wpList Tryz.prog ops Q rest (a.put o.dst v') w') : wpList Tryz.prog ops Q (o :: rest) a w := by
  refine wpList_plain hgd fun _ hK => ?_
  obtain ⟨v', w', hr, h2, h3, h5⟩ := str_at base o.type v n l hown t hsz hbase
  unfold Oper.wp execOp
  simp only [ho, resolve, invoke, builtin, Sem.run_bind, Sem.run_pure, Result.andThen_ok, List.map_toArray, List.map_cons, List.map_nil, hs, hx, hr]
  exact hK _ _ (h v' w' h2 h3 h5)

section
variable (B q : Nat) (r : Option Nat) (l : List UInt8)
set_option maxRecDepth 20000 in
set_option maxHeartbeats 1000000 in
theorem QUint_any (n : Nat) (hn : n < 18446744073709551616) (hl : l.length ≤ 1000000) (w : World) (h : Qu w B q r l) :
    Calls Tryz.prog 22 #[.pointer (some ⟨q, 0, none⟩), .int .u64 (n : Int)] w (QPost w B q r (l ++ layN 0 n)) := by
  have hN := QNumber_any B q r l 0 n (.inl rfl) hn hl w h
  have HN := Lib.hid hN
  clear hN h
  go_enter Tryz.func22, Tryz.ntmps22
  go_wp2_with fail
  refine HN.out.mono ?_
  rintro e w' ⟨rfl, h1, h2⟩
  have H1 := Lib.hid h1
  have H2 := Lib.hid h2
  clear h1 h2
  go_wp2_with fail
  go_ret
  exact ⟨rfl, H1.out, H2.out⟩
set_option maxRecDepth 20000 in
set_option maxHeartbeats 1000000 in
theorem QText_any (s : ByteArray) (hs : s.size ≤ 1000) (hl : l.length ≤ 1000000) (w : World) (h : Qu w B q r l) :
    Calls Tryz.prog 23 #[.pointer (some ⟨q, 0, none⟩), .string s] w (QPost w B q r (l ++ layT s.data.toList)) := by
  have hN := QUint_any B q r l s.size (by omega) hl w h
  have e : layT s.data.toList = layN 0 s.size ++ s.data.toList := by unfold layT; rw [show s.data.toList.length = s.size by simp]
  rw [e]
  have HN := Lib.hid hN
  have hlay : (layN 0 s.size).length ≤ 9 := by unfold layN; rw [List.length_cons, digs_len]; have := nb_le s.size (by omega); omega
  generalize layN 0 s.size = L at *
  clear hN h e
  go_enter Tryz.func23, Tryz.ntmps23
  go_wp2_with fail
  refine HN.out.mono ?_
  rintro e w1 ⟨rfl, ⟨r', h1, hS⟩, hF⟩
  obtain ⟨hB, v, hk, ho, hr⟩ := h1
  have hll : (l ++ L).length ≤ 1000009 := by rw [List.length_append]; omega
  have c0 := hk.cell 0
  have f0 := hk.frozen 0
  simp at c0
  have hq := hk.lt
  have HAP := Lib.hid (own_apart ho hk (by decide))
  have HK := Lib.hid hk
  have HO := Lib.hid ho
  have HR := Lib.hid hr
  have HS := Lib.hid hS
  have HF := Lib.hid hF
  obtain ⟨M, hM⟩ : ∃ M, l ++ L = M := ⟨_, rfl⟩
  have HM : Hid (l ++ (L ++ s.data.toList) = M ++ s.data.toList) := Lib.hid (by rw [← hM, List.append_assoc])
  rw [hM] at HO hll
  clear hk ho hr hS hF hM HN
  go_wp2_with (with_reducible refine wpl_str_at (o := ⟨some 18, _, _, _, _, _⟩) rfl (.tmp 16) (.tmp 17) rfl B _ M.length M ?h1 HO.out s ?h2 ?h3 ?h4 ?_)
  try (case h1 => rfl)
  try (case h2 => rfl)
  case h3 => omega
  case h4 => omega
  intro v1 w2 hown hg hat
  have hk1 := HK.out.grown hg (fun e => HAP.out e.symm)
  have d0 := hk1.cell 0
  have e0 := hk1.frozen 0
  simp at d0
  obtain ⟨_, A1, c1, rfl, _, _, _⟩ := own_form hown
  have hQ := Qu.set hB hk1 (by rw [List.length_append]; exact hown : OwnB w2 B (.slice A1 (M.length + s.size) c1) (M ++ s.data.toList).length (M ++ s.data.toList))
  have hF2 : Far w1 (w2.setCell ⟨q, 0, none⟩ (.slice A1 (M.length + s.size) c1)) q r' := by
    rw [HR.out] at hg
    exact ((Far.refl w1 q r').grown hg).set 0 _
  have hS2 : Stays w1 r' (Value.slice A1 (M.length + s.size) c1).ownBlock := by
    rcases hat with h | h
    · exact .inl (h.trans HR.out)
    · exact .inr ⟨_, h, by omega⟩
  have HQ := Lib.hid hQ
  have HF2 := Lib.hid (HF.out.trans hF2 HS.out)
  have HS2 := Lib.hid (HS.out.trans hS2 HF.out.2.2.2.1)
  clear hown hg hat hk1 hQ hF2 hS2
  go_wp2_with fail
  go_ret
  exact ⟨rfl, ⟨_, by rw [HM.out]; exact HQ.out, HS2.out⟩, HF2.out⟩
end

end Go.Proofs.YtjlajnackecfgaaGreatDoor
namespace Go.Proofs.YtjlajnackecfgaaGreatDoor
open Go.RowKit

/-- A slice's bytes lie in block g. -/
def Rg (w : World) (g : Nat) (A : Option Addr) (l : List UInt8) : Prop :=
  0 < l.length → ∃ o, A = some ⟨g, o, none⟩ ∧ g < w.heap.size ∧ ∀ (j : Nat) u, l[j]? = some u → w.cell? ⟨g, o + j, none⟩ = some (.int .u8 (u.toNat : Int))
theorem Rg.nil_ {w : World} {g : Nat} {A : Option Addr} : Rg w g A [] := fun h => absurd h (by simp)
theorem Rg.rd {w : World} {g : Nat} {A : Option Addr} {l : List UInt8} (h : Rg w g A l) : Rd w w.heap.size A l := fun hn => by
  obtain ⟨o, e, hg, hc⟩ := h hn
  exact ⟨g, o, e, hg, hc⟩
theorem cell_block {w w' : World} {p : Addr} (h : w'.heap[p.block]? = w.heap[p.block]?) : w'.cell? p = w.cell? p := World.cell?_of_block h
theorem Rg.past {w w' : World} {g q : Nat} {r : Option Nat} {A : Option Addr} {l : List UInt8} (h : Rg w g A l) (hf : Far w w' q r) (h1 : g ≠ q) (h2 : r ≠ some g) : Rg w' g A l := fun hn => by
  obtain ⟨o, e, hg, hc⟩ := h hn
  exact ⟨o, e, Nat.lt_of_lt_of_le hg hf.2.2.2.1, fun j u hu => (World.cell?_of_block (hf.2.2.2.2 g hg h1 h2)).trans (hc j u hu)⟩
theorem Rg.past' {w w' : World} {g q : Nat} {r : Option Nat} {A : Option Addr} {l : List UInt8} (h : Rg w g A l) (hf : Far w w' q r) (h1 : g = q → l = []) (h2 : r ≠ some g) : Rg w' g A l := by
  by_cases e : g = q
  · rw [h1 e]
    exact Rg.nil_
  · exact h.past hf e h2
theorem Rg.below {w w' : World} {g : Nat} {A : Option Addr} {l : List UInt8} (h : Rg w g A l) (hb : Below w.heap.size w w') : Rg w' g A l := fun hn => by
  obtain ⟨o, e, hg, hc⟩ := h hn
  exact ⟨o, e, Nat.lt_of_lt_of_le hg hb.size, fun j u hu => (World.cell?_of_block (hb.block g hg)).trans (hc j u hu)⟩
theorem Rg.take {w : World} {g : Nat} {A : Option Addr} {l : List UInt8} (h : Rg w g A l) (k : Nat) : Rg w g A (l.take k) := fun hn => by
  have hn' : 0 < min k l.length := by simpa using hn
  obtain ⟨o, e, hg, hc⟩ := h (by omega)
  refine ⟨o, e, hg, fun j u hu => hc j u ?_⟩
  rw [List.getElem?_take] at hu
  split at hu
  · exact hu
  · cases hu
theorem Rg.cut {w : World} {g : Nat} {A : Option Addr} {l : List UInt8} (h : Rg w g A l) {k cap : Nat} (hc : l.length ≤ cap) : Rg w g (if cap = k then A else A.map (·.add k)) (l.drop k) := fun hn => by
  have hn' : 0 < l.length - k := by simpa using hn
  obtain ⟨o, rfl, hg, hcell⟩ := h (by omega)
  rw [if_neg (by omega)]
  refine ⟨o + k, by simp [go_sem], hg, fun j u hu => ?_⟩
  rw [Nat.add_assoc]
  exact hcell _ u (by rw [← hu, List.getElem?_drop])
theorem own_rg {w : World} {base : Nat} {v : Value} {n : Nat} {l : List UInt8} (h : OwnB w base v n l) (d : Nat) (hd : base ≤ d) :
    l.length = n ∧ ∃ A c g, v = .slice A n c ∧ n ≤ c ∧ c ≤ maxLen ∧ base ≤ g ∧ Rg w g A l ∧ (A = none → c = 0) ∧ (v.ownBlock = some g ∨ (l = [] ∧ g = d)) := by
  have hl : l.length = n := by have := h.1; simpa using this
  refine ⟨hl, ?_⟩
  have h' := h
  unfold OwnB at h'
  rcases h'.2 with ⟨rfl, rfl⟩ | ⟨g, cap, cur, rfl, hb, hg, hnc, hcm, _⟩
  · have e : l = [] := List.eq_nil_of_length_eq_zero hl
    exact ⟨_, _, d, rfl, Nat.le_refl _, by decide, hd, by rw [e]; exact Rg.nil_, fun _ => rfl, .inr ⟨e, rfl⟩⟩
  · refine ⟨_, _, g, rfl, hnc, hcm, hb, fun _ => ⟨0, rfl, (Array.getElem?_eq_some_iff.1 hg).1, fun j u hu => ?_⟩, (fun e => nomatch e), .inl rfl⟩
    have := World.ownsRow.cells h' (g := g) rfl j (enc8 u) (by simp [hu])
    simpa [go_sem, enc8] using this

/-- A copy: a slice of the call's own. -/
def ClPost (w : World) (l : List UInt8) (e : Ending) (w' : World) : Prop := ∃ v, e = .returned v ∧ OwnB w' w.heap.size v l.length l ∧ Below w.heap.size w w'

set_option maxHeartbeats 400000 in
theorem Clone8_any (A : Option Addr) (n c Bd : Nat) (l : List UInt8) (w : World) (hR : Rd w Bd A l) (hn : l.length = n) (hm : n ≤ 140737488355328) (hB : Bd ≤ w.heap.size) (hA : A = none → n = 0 ∧ c = 0) :
    Calls Tryz.prog 54 #[.slice A n c] w (ClPost w l) := by
  rcases A with _ | ad
  · obtain ⟨rfl, rfl⟩ := hA rfl
    obtain rfl : l = [] := List.eq_nil_of_length_eq_zero hn
    clear hR hn hA
    have heq := fun W : World => Lib.run_eql_slice_nil W 33 5 none 0 0 0 0 Tryz.underlying33
    go_enter Tryz.func54, Tryz.ntmps54
    go_wp2_with fail
    go_ret
    exact ⟨_, rfl, OwnB.nil_ _ _, Below.refl _ _⟩
  · have HN := Lib.hid hn
    clear hn hA
    have heq := fun W : World => Lib.run_eql_slice_nil W 33 5 (some ad) n c 0 0 Tryz.underlying33
    go_enter Tryz.func54, Tryz.ntmps54
    have HO : Hid (OwnB (w.alloc (.cells #[] 5)) w.heap.size (.slice (some ⟨w.heap.size, 0, none⟩) 0 0) 0 []) := Lib.hid (World.ownsRow_lit w #[] 0 (Nat.le_refl _) (by decide) (by simp))
    have HR := Lib.hid (hR.alloc hB (.cells #[] 5))
    go_wp2_with (with_reducible refine wpList_append_bytes (o := ⟨some 7, _, _, _, _, _⟩) rfl (.tmp 5) (.tmp 6) rfl w.heap.size (.slice (some ⟨w.heap.size, 0, none⟩) 0 0) 0 [] ?h1 HO.out Bd (some ad) n c l ?h2 HR.out HN.out ?h3 ?h4 ?_)
    case h1 => rfl
    case h2 => rfl
    case h3 => omega
    case h4 => simp
    intro v' w1 hown hg
    have hbw : Below w.heap.size w w1 := hg.below HO.out ((Below.refl _ w).alloc (Nat.le_refl _) _) (Nat.le_refl _) (by simp)
    have HOW := Lib.hid hown
    clear hown hg heq HO HR hR
    go_wp2
    go_ret
    exact ⟨_, rfl, by rw [HN.out]; exact HOW.out, hbw⟩

def DPost (w : World) (l : List UInt8) (e : Ending) (w' : World) : Prop := (∃ A g, e = .returned (.slice A l.length l.length) ∧ (A = none → l.length = 0) ∧ w.heap.size ≤ g ∧ Rg w' g A l) ∧ Below w.heap.size w w'

set_option maxRecDepth 20000 in
set_option maxHeartbeats 400000 in
theorem QDone_any (B q : Nat) (r : Option Nat) (l : List UInt8) (hl : l.length ≤ 1000000) (w : World) (h : Qu w B q r l) :
    Calls Tryz.prog 25 #[.pointer (some ⟨q, 0, none⟩)] w (DPost w l) := by
  obtain ⟨hB, v, hk, ho, hr⟩ := h
  obtain ⟨_, A, c, g, rfl, hc1, hc2, _, hrg, hAn, _⟩ := own_rg ho B (Nat.le_refl _)
  have c0 := hk.cell 0
  simp at c0
  have hC := Clone8_any A l.length c w.heap.size l w hrg.rd rfl (by omega) (Nat.le_refl _) (fun e => ⟨by have := hAn e; omega, hAn e⟩)
  clear hk ho hr hrg hAn
  go_enter Tryz.func25, Tryz.ntmps25
  go_wp2_with fail
  refine hC.mono ?_
  rintro e w1 ⟨v1, rfl, hown, hb1⟩
  obtain ⟨_, A1, c1, g1, rfl, hd1, hd2, hg1, hrg1, hAn1, hgo⟩ := own_rg hown w1.heap.size hb1.size
  have HRG := Lib.hid hrg1
  have HB := Lib.hid hb1
  have HGO := Lib.hid hgo
  have HOW := Lib.hid hown
  have HAN := Lib.hid hAn1
  clear hrg1 hb1 hgo hown hC c0 hAn1
  unfold maxLen at hd2
  go_wp2_with fail
  go_ret
  exact ⟨⟨A1, g1, rfl, fun e => by have := HAN.out e; omega, hg1, HRG.out⟩, HB.out⟩

/-- A Lens in block b: what is left lies in block g; none: it isn't right. -/
def Ln (w : World) (b g : Nat) : Option (List UInt8) → Prop
  | none => Blk w b 105 #[.slice none 0 0, .bool true]
  | some l => ∃ A c, l.length ≤ c ∧ c ≤ maxLen ∧ (A = none → c = 0) ∧ l.length ≤ 1000000 ∧ Blk w b 105 #[.slice A l.length c, .bool false] ∧ Rg w g A l ∧ (g = b → l = [])
theorem Ln.past {w w' : World} {b g q : Nat} {r : Option Nat} {st : Option (List UInt8)} (h : Ln w b g st) (hf : Far w w' q r) (h1 : b ≠ q) (h2 : r ≠ some b) (h3 : g ≠ q) (h4 : r ≠ some g) : Ln w' b g st := by
  cases st with
  | none => exact Blk.past h hf h1 h2
  | some l =>
    obtain ⟨A, c, a1, a2, a3, a4, a5, a6, a7⟩ := h
    exact ⟨A, c, a1, a2, a3, a4, a5.past hf h1 h2, a6.past hf h3 h4, a7⟩
theorem Ln.below {w w' : World} {b g : Nat} {st : Option (List UInt8)} (h : Ln w b g st) (hb : Below w.heap.size w w') : Ln w' b g st := by
  cases st with
  | none => exact Blk.below h hb (Blk.lt h)
  | some l =>
    obtain ⟨A, c, a1, a2, a3, a4, a5, a6, a7⟩ := h
    exact ⟨A, c, a1, a2, a3, a4, a5.below hb a5.lt, a6.below hb, a7⟩
theorem Ln.lt {w : World} {b g : Nat} {st : Option (List UInt8)} (h : Ln w b g st) : b < w.heap.size := by
  cases st with
  | none => exact Blk.lt h
  | some l =>
    obtain ⟨A, c, a1, a2, a3, a4, a5, a6, a7⟩ := h
    exact a5.lt
theorem Ln.drew {w : World} {b g : Nat} {st : Option (List UInt8)} (h : Ln w b g st) : Ln w.drew b g st := by
  cases st with
  | none => exact h
  | some l => exact h

def LookPost (w : World) (l : List UInt8) (e : Ending) (w' : World) : Prop := ∃ b g, e = .returned (.pointer (some ⟨b, 0, none⟩)) ∧ w.heap.size ≤ b ∧ w.heap.size ≤ g ∧ g < w'.heap.size ∧ Ln w' b g (some l) ∧ Below w.heap.size w w'

set_option maxRecDepth 20000 in
set_option maxHeartbeats 400000 in
theorem Look_any (A : Option Addr) (n c Bd : Nat) (l : List UInt8) (w : World) (hR : Rd w Bd A l) (hn : l.length = n) (hm : n ≤ 1000000) (hB : Bd ≤ w.heap.size) (hA : A = none → n = 0 ∧ c = 0) :
    Calls Tryz.prog 31 #[.slice A n c] w (LookPost w l) := by
  have hC := Clone8_any A n c Bd l w hR hn (by omega) hB hA
  have HC := Lib.hid hC
  have HN := Lib.hid hn
  clear hC hR hn hA
  go_enter Tryz.func31, Tryz.ntmps31
  go_wp2_with fail
  refine HC.out.mono ?_
  rintro e w1 ⟨v1, rfl, hown, hb1⟩
  obtain ⟨_, A1, c1, g1, rfl, hd1, hd2, hg1, hrg1, hAn1, hgo⟩ := own_rg hown w1.heap.size hb1.size
  have HRG := Lib.hid hrg1
  have HB := Lib.hid hb1
  have HGO := Lib.hid hgo
  have HOW := Lib.hid hown
  have HAN := Lib.hid hAn1
  clear hrg1 hb1 hgo hown hAn1
  go_wp2_with fail
  go_ret
  refine ⟨w1.heap.size, g1, rfl, HB.out.size, hg1, ?_, ⟨A1, c1, hd1, hd2, HAN.out, by rw [HN.out]; exact hm, Blk.new w1 _ _, HRG.out.below ((Below.refl _ w1).alloc (Nat.le_refl _) _), fun e => ?_⟩, HB.out.alloc HB.out.size _⟩
  · rcases HGO.out with h | ⟨_, h⟩
    · have := (World.ownsRow.lt HOW.out _ h).2
      simp
      omega
    · simp
      omega
  · rcases HGO.out with h | ⟨h, _⟩
    · have := (World.ownsRow.lt HOW.out _ h).2
      omega
    · exact h
end Go.Proofs.YtjlajnackecfgaaGreatDoor
namespace Go.Proofs.YtjlajnackecfgaaGreatDoor
open Go.RowKit

section
variable (b g : Nat)
def SpPost (w : World) (e : Ending) (w' : World) : Prop := e = .returned (.tuple #[]) ∧ Ln w' b g none ∧ Far w w' b none
set_option maxRecDepth 20000 in
set_option maxHeartbeats 400000 in
theorem Spoil_any (st : Option (List UInt8)) (w : World) (h : Ln w b g st) :
    Calls Tryz.prog 64 #[.pointer (some ⟨b, 0, none⟩)] w (SpPost b g w) := by
  have hk : ∃ A n c x, Blk w b 105 #[.slice A n c, .bool x] := by
    cases st with
    | none => exact ⟨_, _, _, _, h⟩
    | some l =>
      obtain ⟨A, c, a1, a2, a3, a4, a5, a6, a7⟩ := h
      exact ⟨_, _, _, _, a5⟩
  obtain ⟨A, n, c, x, hk⟩ := hk
  have hk2 := hk.set_ 1 (.bool true)
  have hk3 := hk2.set_ 0 (.slice none 0 0)
  have HF := Lib.hid (((Far.refl w b none).set 1 (.bool true)).set 0 (.slice none 0 0))
  have c1 := hk.cell 1
  have f1 := hk.frozen 1
  have c0 := hk2.cell 0
  have f0 := hk2.frozen 0
  simp at c0 c1
  have HK := Lib.hid hk3
  clear h hk hk2 hk3
  go_enter Tryz.func64, Tryz.ntmps64
  go_wp2_with fail
  go_end0
  exact ⟨rfl, (by simpa using HK.out : Blk _ b 105 #[.slice none 0 0, .bool true]), HF.out⟩

/-- What take tells: the first n bytes, or nothing, and then the Lens isn't right. -/
def TkPost (n : Nat) (w : World) (st : Option (List UInt8)) (e : Ending) (w' : World) : Prop :=
  match st with
  | none => e = .returned (.slice none 0 0) ∧ w' = w
  | some l => if n ≤ l.length then (∃ A, e = .returned (.slice A n n) ∧ Rg w' g A (l.take n)) ∧ Ln w' b g (some (l.drop n)) ∧ Far w w' b none
      else e = .returned (.slice none 0 0) ∧ Ln w' b g none ∧ Far w w' b none
set_option maxRecDepth 20000 in
set_option maxHeartbeats 1000000 in
theorem Take_any (n : Nat) (hn : n < 18446744073709551616) (st : Option (List UInt8)) (w : World) (h : Ln w b g st):
    Calls Tryz.prog 65 #[.pointer (some ⟨b, 0, none⟩), .int .u64 (n : Int)] w (TkPost b g n w st) := by
  cases st with
  | none =>
    have hk : Blk w b 105 #[.slice none 0 0, .bool true] := h
    have c1 := hk.cell 1
    simp at c1
    clear h hk
    go_enter Tryz.func65, Tryz.ntmps65
    go_wp2_with fail
    go_ret
    exact ⟨rfl, rfl⟩
  | some l =>
    have hS := Spoil_any b g (some l) w h
    obtain ⟨A, c, a1, a2, a3, a4, hk, hrg, hgb⟩ := h
    unfold maxLen at a2
    have c0 := hk.cell 0
    have c1 := hk.cell 1
    have f0 := hk.frozen 0
    simp at c0 c1
    by_cases hle : n ≤ l.length
    · have hlt : ¬ l.length < n := by omega
      by_cases hcn : c = n
      · have hln : l.length = n := by omega
        have hd : l.drop n = [] := List.drop_of_length_le (by omega)
        have hk2 := hk.set_ 0 (.slice A (l.length - n) 0)
        have HK := Lib.hid (by simpa using hk2 : Blk (w.setCell ⟨b, 0, none⟩ (.slice A (l.length - n) 0)) b 105 #[.slice A (l.length - n) 0, .bool false])
        have HRG := Lib.hid ((hrg.past' ((Far.refl w b none).set 0 (.slice A (l.length - n) 0)) hgb (by simp)).take n)
        have HF := Lib.hid ((Far.refl w b none).set 0 (.slice A (l.length - n) 0))
        have HD := Lib.hid hd
        have HLN := Lib.hid hln
        clear hS hrg hk a3 hk2 hd hln
        go_enter Tryz.func65, Tryz.ntmps65
        go_wp2_with fail
        all_goals first | (exfalso; omega) | skip
        go_ret
        simp only [TkPost]
        rw [if_pos hle, HD.out]
        exact ⟨⟨A, rfl, HRG.out⟩, ⟨A, 0, by simp, by decide, fun _ => rfl, by simp, by have h := HK.out; rw [HLN.out, Nat.sub_self] at h; rw [HLN.out, Nat.sub_self]; exact h, Rg.nil_, fun _ => rfl⟩, HF.out⟩
      · have hcut := hrg.cut (k := n) a1
        rw [if_neg hcn] at hcut
        have hk2 := hk.set_ 0 (.slice (A.map (·.add n)) (l.length - n) (c - n))
        have HK := Lib.hid (by simpa using hk2 : Blk (w.setCell ⟨b, 0, none⟩ (.slice (A.map (·.add n)) (l.length - n) (c - n))) b 105 #[.slice (A.map (·.add n)) (l.length - n) (c - n), .bool false])
        have hf := (Far.refl w b none).set 0 (.slice (A.map (·.add n)) (l.length - n) (c - n))
        have HRG := Lib.hid ((hrg.past' hf hgb (by simp)).take n)
        have HCUT := Lib.hid (hcut.past' hf (fun e => by rw [hgb e]; simp) (by simp))
        have HF := Lib.hid hf
        have HAN := Lib.hid a3
        clear hS hrg hk a3 hk2 hcut hf
        go_enter Tryz.func65, Tryz.ntmps65
        go_wp2_with fail
        all_goals first | (exfalso; omega) | skip
        go_ret
        simp only [TkPost]
        rw [if_pos hle]
        exact ⟨⟨A, rfl, HRG.out⟩, ⟨A.map (·.add n), c - n, by simp; omega, by unfold maxLen; omega, fun e => by have := HAN.out (by cases A with | none => rfl | some a => cases e); omega, by simp; omega, by rw [List.length_drop]; exact HK.out, HCUT.out, fun e => by rw [hgb e]; simp⟩, HF.out⟩
    · have hlt : l.length < n := by omega
      have HS := Lib.hid hS
      clear hS hrg hk a3
      go_enter Tryz.func65, Tryz.ntmps65
      go_wp2_with fail
      refine HS.out.mono ?_
      rintro e w1 ⟨rfl, h1, h2⟩
      have H1 := Lib.hid h1
      have H2 := Lib.hid h2
      clear h1 h2
      go_wp2_with fail
      go_ret
      simp only [TkPost]
      rw [if_neg hle]
      exact ⟨rfl, H1.out, H2.out⟩
end
end Go.Proofs.YtjlajnackecfgaaGreatDoor
namespace Go.Proofs.YtjlajnackecfgaaGreatDoor
open Go.RowKit

theorem and128 (f : UInt8) : bits .and .u8 (f.toNat : Int) 128 = if 128 ≤ f.toNat then 128 else 0 := by
  have h : f.toNat < 256 := f.toNat_lt
  have key : ∀ k : Fin 256, k.val &&& 128 = if 128 ≤ k.val then 128 else 0 := by decide +kernel
  rw [u8_and _ _ (by omega) (by omega) (by omega) (by omega)]
  have := key ⟨f.toNat, h⟩
  simp only at this
  rw [Int.toNat_natCast, show (128 : Int).toNat = 128 from rfl, this]
  split <;> rfl
theorem not128 (f : UInt8) : bits .andNot .u8 (f.toNat : Int) 128 = ((f.toNat % 128 : Nat) : Int) := by
  have h : f.toNat < 256 := f.toNat_lt
  have key : ∀ k : Fin 256, k.val &&& 127 = k.val % 128 := by decide +kernel
  rw [u8_andNot _ _ (by omega) (by omega) (by omega) (by omega)]
  have := key ⟨f.toNat, h⟩
  simp only at this
  rw [Int.toNat_natCast, show (255 - (128 : Int).toNat) = 127 from rfl, this]

theorem or_byte (V : Nat) (u : UInt8) (hV : V < 72057594037927936) : bits .or .u64 ((V : Int) * 256) (IntKind.u64.wrap (u.toNat : Int)) = ((256 * V + u.toNat : Nat) : Int) := by
  have hu : u.toNat < 256 := u.toNat_lt
  have hw : IntKind.u64.wrap (u.toNat : Int) = (u.toNat : Int) := by
    rw [IntKind.wrap_u64]
    omega
  rw [hw, show (V : Int) * 256 = ((V * 256 : Nat) : Int) by omega, u64_or _ _ (by omega) (by omega) (by omega) (by omega), Int.toNat_natCast, Int.toNat_natCast, nat_join 8 _ _ (by omega) (by omega)]
  omega
section
variable (b g : Nat)
def NmPost (w : World) (st : Option (List UInt8)) (e : Ending) (w' : World) : Prop :=
  match st.bind numT with
  | some (m, v, r) => e = .returned (.tuple #[.int .u8 (if m then 128 else 0), .int .u64 (v : Int)]) ∧ Ln w' b g (some r) ∧ Far w w' b none
  | none => e = .returned (.tuple #[.int .u8 0, .int .u64 0]) ∧ Ln w' b g none ∧ Far w w' b none
set_option maxRecDepth 20000 in
set_option maxHeartbeats 2000000 in
theorem LNumber_any (st : Option (List UInt8)) (w : World) (h : Ln w b g st) :
    Calls Tryz.prog 63 #[.pointer (some ⟨b, 0, none⟩)] w (NmPost b g w st) := by
  have hT := Take_any b g 1 (by decide) st w h
  match st, h with
  | none, h =>
    have HT := Lib.hid hT
    have HL := Lib.hid h
    clear hT h
    go_enter Tryz.func63, Tryz.ntmps63
    go_wp2_with fail
    refine HT.out.mono ?_
    rintro e w1 ⟨rfl, rfl⟩
    go_wp2_with fail
    go_ret2
    exact ⟨rfl, HL.out, Far.refl _ _ _⟩
  | some [], h =>
    have HT := Lib.hid hT
    clear hT h
    go_enter Tryz.func63, Tryz.ntmps63
    go_wp2_with fail
    refine HT.out.mono ?_
    intro e w1 hp
    simp only [TkPost] at hp
    rw [if_neg (by simp)] at hp
    obtain ⟨rfl, h1, h2⟩ := hp
    have H1 := Lib.hid h1
    have H2 := Lib.hid h2
    clear h1 h2
    go_wp2_with fail
    go_ret2
    exact ⟨rfl, H1.out, H2.out⟩
  | some (f :: s), h =>
    have hf : f.toNat < 256 := f.toNat_lt
    have ea := and128 f
    have en := not128 f
    obtain ⟨K, hK⟩ : ∃ K, f.toNat % 128 = K := ⟨_, rfl⟩
    rw [hK] at en
    have hK2 : K < 128 := by omega
    obtain ⟨M, hM⟩ : ∃ M : Int, (if 128 ≤ f.toNat then (128 : Int) else 0) = M := ⟨_, rfl⟩
    rw [hM] at ea
    have HT := Lib.hid hT
    clear hT h
    have HNT : Hid (numT (f :: s) = if 8 < K ∨ s.length < K ∨ (0 < K ∧ (s.getD 0 0).toNat = 0) then none else some (decide (128 ≤ f.toNat), val (s.take K), s.drop K)) := Lib.hid (by simp only [numT]; rw [hK])
    have HMM := Lib.hid hM
    clear hM hK
    go_enter Tryz.func63, Tryz.ntmps63
    go_wp2_with fail
    refine HT.out.mono ?_
    intro e w1 hp
    simp only [TkPost] at hp
    rw [if_pos (by simp)] at hp
    obtain ⟨⟨A, rfl, hrg⟩, hl, hfar⟩ := hp
    have hrg' : Rg w1 g A [f] := hrg
    have hl' : Ln w1 b g (some s) := hl
    obtain ⟨o, rfl, hg, hc⟩ := hrg' (by simp)
    have c0 : w1.cell? ⟨g, o, none⟩ = some (.int .u8 (f.toNat : Int)) := by simpa using hc 0 f rfl
    have HL := Lib.hid hl'
    have HF := Lib.hid hfar
    clear hrg hl hrg' hl' hc hfar
    go_wp2_with fail
    go_quiet (fail)
    have hz2 : g < (w1.drewN nq).heap.size := hg
    have HL2 : Hid (Ln (w1.drewN nq) b g (some s)) := Lib.hid HL.out
    have HF2 : Hid (Far w (w1.drewN nq) b none) := Lib.hid HF.out
    obtain ⟨w2, hw2⟩ : ∃ W, w1.drewN nq = W := ⟨_, rfl⟩
    rw [hw2] at HL2 HF2
    try rw [hw2]
    clear HL HF c0 hz2 hg ea en
    by_cases h8 : 8 < K
    · have hS := Spoil_any b g (some s) w2 HL2.out
      have hN : numT (f :: s) = none := by rw [HNT.out, if_pos (.inl h8)]
      have HN := Lib.hid hN
      have HS := Lib.hid hS
      clear hS hN
      go_wp2_with fail
      refine HS.out.mono ?_
      rintro e w3 ⟨rfl, h1, h2⟩
      have H1 := Lib.hid h1
      have H2 := Lib.hid (HF2.out.trans h2 (Stays.refl _ _))
      clear h1 h2
      go_wp2_with fail
      go_ret2
      simp only [NmPost, Option.bind_some, HN.out]
      exact ⟨rfl, H1.out, H2.out⟩
    · have hT2 := Take_any b g K (by omega) (some s) w2 HL2.out
      by_cases hle : K ≤ s.length
      · have HT2 := Lib.hid hT2
        clear hT2 HT
        go_wp2_with fail
        refine HT2.out.mono ?_
        intro e w3 hp
        simp only [TkPost] at hp
        rw [if_pos hle] at hp
        obtain ⟨⟨A2, rfl, hrg2⟩, hl2, hfar2⟩ := hp
        have HRG := Lib.hid hrg2
        have HL3 := Lib.hid hl2
        have HF3 := Lib.hid (HF2.out.trans hfar2 (Stays.refl _ _))
        have htl : (s.take K).length = K := by rw [List.length_take]; omega
        have hgd : 0 < K → (s.take K).getD 0 0 = s.getD 0 0 := fun h => by
          cases s with
          | nil => simp at hle; omega
          | cons x t =>
            cases K with
            | zero => omega
            | succ k => rfl
        have HGD := Lib.hid hgd
        have HTL := Lib.hid htl
        obtain ⟨T, hT⟩ : ∃ T, s.take K = T := ⟨_, rfl⟩
        rw [hT] at HRG HNT HGD HTL
        clear hrg2 hl2 hfar2 hw2 htl hgd hT
        have hnz : ¬ (0 < K ∧ (s.getD 0 0).toNat = 0) → Calls Tryz.prog 63 #[.pointer (some ⟨b, 0, none⟩)] w (NmPost b g w (some (f :: s))) → True := fun _ _ => trivial
        clear hnz
        by_cases hz : 0 < K ∧ (s.getD 0 0).toNat = 0
        · have hN : numT (f :: s) = none := by rw [HNT.out, if_pos (.inr (.inr hz))]
          have HN := Lib.hid hN
          obtain ⟨hk, h0⟩ := hz
          have hTl : 0 < T.length := by rw [HTL.out]; exact hk
          obtain ⟨o2, rfl, hg2, hc2⟩ := HRG.out hTl
          have hc3 := hc2 0 _ (List.getElem?_eq_getElem hTl)
          have e0 : (T[0]'hTl).toNat = 0 := by
            have := HGD.out hk
            rw [show T.getD 0 0 = T[0]'hTl by simp [List.getD, hTl]] at this
            rw [this]
            exact h0
          rw [e0] at hc3
          have c3 : w3.cell? ⟨g, o2, none⟩ = some (.int .u8 0) := by simpa using hc3
          have hS := Spoil_any b g _ w3 HL3.out
          have HS := Lib.hid hS
          have hk0 : (0 : Int) < (K : Int) := by omega
          clear hN hc2 hc3 e0 h0 hS hg2 hTl
          go_wp2_with fail
          refine HS.out.mono ?_
          rintro e w4 ⟨rfl, h1, h2⟩
          have H1 := Lib.hid h1
          have H2 := Lib.hid (HF3.out.trans h2 (Stays.refl _ _))
          clear h1 h2
          go_wp2_with fail
          go_ret2
          simp only [NmPost, Option.bind_some, HN.out]
          exact ⟨rfl, H1.out, H2.out⟩
        · have hN : numT (f :: s) = some (decide (128 ≤ f.toNat), val T, s.drop K) := by rw [HNT.out, if_neg (by omega)]
          have HN := Lib.hid hN
          clear hN
          have key : ∀ hcell : (0 < K → ∃ (o2 : Nat) (u : UInt8), A2 = some ⟨g, o2, none⟩ ∧ w3.cell? ⟨g, o2, none⟩ = some (.int .u8 (u.toNat : Int)) ∧ u.toNat ≠ 0), True := fun _ => trivial
          clear key
          by_cases hk : 0 < K
          · have hTl : 0 < T.length := by rw [HTL.out]; exact hk
            obtain ⟨o2, rfl, hg2, hc2⟩ := HRG.out hTl
            have hc3 := hc2 0 _ (List.getElem?_eq_getElem hTl)
            have e0 : (T[0]'hTl).toNat ≠ 0 := by
              have := HGD.out hk
              rw [show T.getD 0 0 = T[0]'hTl by simp [List.getD, hTl]] at this
              rw [this]
              exact fun h => hz ⟨hk, h⟩
            obtain ⟨u, hu⟩ : ∃ u, T[0]'hTl = u := ⟨_, rfl⟩
            rw [hu] at hc3 e0
            have c3 : w3.cell? ⟨g, o2, none⟩ = some (.int .u8 (u.toNat : Int)) := by simpa using hc3
            have q1 : ((u.toNat : Int) == 0) = false := by rw [beq_eq_false_iff_ne]; omega
            have q2 : ¬ (u.toNat : Int) = 0 := by omega
            have hk0 : (0 : Int) < (K : Int) := by omega
            have HC := Lib.hid hc2
            clear hc2 hc3 e0 hu hz hg2 hTl
            go_wp2_with fail
            clear c3 q1 q2
            go_loop [8, 51] (fun t i => ∃ k : Nat, k ≤ K ∧ i = .int .i64 k ∧ t = .int .u64 (val (T.take k) : Nat)) (fun _ i => K - (intOf i).toNat)
            case atStart => exact ⟨0, Nat.zero_le _, rfl, rfl⟩
            case round =>
              obtain ⟨k, hkk, rfl, rfl⟩ := hrel
              by_cases hlt : k < K
              · have hTk : k < T.length := by rw [HTL.out]; exact hlt
                have hc3 := HC.out k _ (List.getElem?_eq_getElem hTk)
                obtain ⟨u2, hu2⟩ : ∃ u, T[k]'hTk = u := ⟨_, rfl⟩
                rw [hu2] at hc3
                have hts : T.take (k + 1) = T.take k ++ [u2] := by rw [List.take_succ_eq_append_getElem hTk, hu2]
                have hv : val (T.take (k + 1)) = 256 * val (T.take k) + u2.toNat := by rw [hts, val_snoc]
                have hvl := val_lt (T.take k)
                have hlen : (T.take k).length = k := by rw [List.length_take]; omega
                rw [hlen] at hvl
                have hp7 : (256 : Nat) ^ k ≤ 256 ^ 7 := Nat.pow_le_pow_right (by decide) (by omega)
                obtain ⟨V, hV⟩ : ∃ V, val (T.take k) = V := ⟨_, rfl⟩
                have hV7 : V < 72057594037927936 := by rw [← hV]; exact Nat.lt_of_lt_of_le hvl hp7
                rw [hV] at hv ⊢
                have HV := Lib.hid hv
                clear hv hts hvl hlen hp7 hV hu2
                go_wp2_with fail
                go_round
                case rel => exact ⟨k + 1, by omega, by go_num, by rw [or_byte V u2 hV7, HV.out]⟩
                case measure => simp [intOf]; omega
              · obtain rfl : k = K := by omega
                go_wp2_with fail
                go_ret2
                simp only [NmPost, Option.bind_some, HN.out]
                refine ⟨?_, HL3.out, HF3.out⟩
                rw [List.take_of_length_le (by rw [HTL.out]; exact Nat.le_refl _), ← HMM.out]
                simp only [decide_eq_true_eq]
                rfl
          · obtain rfl : K = 0 := by omega
            have hT0 : T = [] := List.eq_nil_of_length_eq_zero HTL.out
            subst hT0
            clear hz
            go_wp2_with fail
            go_loop [8, 51] (fun t i => ∃ k : Nat, k ≤ 0 ∧ i = .int .i64 k ∧ t = .int .u64 0) (fun _ i => 0 - (intOf i).toNat)
            case atStart => exact ⟨0, Nat.zero_le _, rfl, rfl⟩
            case round =>
              obtain ⟨k, hkk, rfl, rfl⟩ := hrel
              obtain rfl : k = 0 := by omega
              go_wp2_with fail
              go_ret2
              simp only [NmPost, Option.bind_some, HN.out]
              refine ⟨?_, HL3.out, HF3.out⟩
              rw [← HMM.out]
              simp only [decide_eq_true_eq]
              rfl
      · have hN : numT (f :: s) = none := by rw [HNT.out, if_pos (.inr (.inl (by omega)))]
        have HN := Lib.hid hN
        have HT2 := Lib.hid hT2
        clear hT2 hN HT
        have hk0 : (0 : Int) < (K : Int) := by omega
        go_wp2_with fail
        refine HT2.out.mono ?_
        intro e w3 hp
        simp only [TkPost] at hp
        rw [if_neg hle] at hp
        obtain ⟨rfl, h1, h2⟩ := hp
        have hS := Spoil_any b g none w3 h1
        have HS := Lib.hid hS
        have HF3 := Lib.hid (HF2.out.trans h2 (Stays.refl _ _))
        clear h1 h2 hS hw2
        go_wp2_with fail
        refine HS.out.mono ?_
        rintro e w4 ⟨rfl, h1, h2⟩
        have H1 := Lib.hid h1
        have H2 := Lib.hid (HF3.out.trans h2 (Stays.refl _ _))
        clear h1 h2
        go_wp2_with fail
        go_ret2
        simp only [NmPost, Option.bind_some, HN.out]
        exact ⟨rfl, H1.out, H2.out⟩
end
end Go.Proofs.YtjlajnackecfgaaGreatDoor
namespace Go.Proofs.YtjlajnackecfgaaGreatDoor
open Go.RowKit

def uV (most : Nat) (st : Option (List UInt8)) : Nat := match st.bind (takeU most) with | some (n, _) => n | none => 0
def uS (most : Nat) (st : Option (List UInt8)) : Option (List UInt8) := match st.bind (takeU most) with | some (_, r) => some r | none => none
def iV (st : Option (List UInt8)) : Int := match st.bind takeI with | some (n, _) => n | none => 0
def iS (st : Option (List UInt8)) : Option (List UInt8) := match st.bind takeI with | some (_, r) => some r | none => none

section
variable (b g : Nat)
def UtPost (most : Nat) (w : World) (st : Option (List UInt8)) (e : Ending) (w' : World) : Prop := e = .returned (.int .u64 (uV most st : Int)) ∧ Ln w' b g (uS most st) ∧ Far w w' b none
def ItPost (w : World) (st : Option (List UInt8)) (e : Ending) (w' : World) : Prop := e = .returned (.int .i64 (iV st)) ∧ Ln w' b g (iS st) ∧ Far w w' b none

set_option maxRecDepth 20000 in
set_option maxHeartbeats 1000000 in
theorem LUint_any (most : Nat) (hm : most < 18446744073709551616) (st : Option (List UInt8)) (w : World) (h : Ln w b g st) :
    Calls Tryz.prog 32 #[.pointer (some ⟨b, 0, none⟩), .int .u64 (most : Int)] w (UtPost b g most w st) := by
  have hN := LNumber_any b g st w h
  have ht : st.bind (takeU most) = (st.bind numT).bind fun x => if x.1 = false ∧ x.2.1 ≤ most then some (x.2.1, x.2.2) else none := by
    cases st with
    | none => rfl
    | some l =>
      simp only [Option.bind_some, takeU]
      cases numT l with
      | none => rfl
      | some x =>
        obtain ⟨m, v, r⟩ := x
        cases m <;> simp
  have hlt : ∀ m v r, st.bind numT = some (m, v, r) → v < 18446744073709551616 := fun m v r e => by
    cases st with
    | none => cases e
    | some l => exact (numT_lt e).1
  unfold NmPost at hN
  cases hb : st.bind numT with
  | none =>
    rw [hb] at hN ht
    have e1 : uV most st = 0 := by unfold uV; rw [ht]; rfl
    have e2 : uS most st = none := by unfold uS; rw [ht]; rfl
    have HN := Lib.hid hN
    have E1 := Lib.hid e1
    have E2 := Lib.hid e2
    clear hN e1 e2 h ht hb hlt
    go_enter Tryz.func32, Tryz.ntmps32
    go_wp2_with fail
    refine HN.out.mono ?_
    rintro e w1 ⟨rfl, h1, h2⟩
    have H1 := Lib.hid h1
    have H2 := Lib.hid h2
    clear h1 h2
    have hmm : ¬ (most : Int) < 0 := by omega
    go_wp2_with fail
    go_ret
    exact ⟨by rw [E1.out]; rfl, by rw [E2.out]; exact H1.out, H2.out⟩
  | some x =>
    obtain ⟨m, v, r⟩ := x
    have hv := hlt m v r hb
    rw [hb] at hN ht
    cases m with
    | true =>
      have e1 : uV most st = 0 := by unfold uV; rw [ht]; rfl
      have e2 : uS most st = none := by unfold uS; rw [ht]; rfl
      have HN := Lib.hid hN
      have E1 := Lib.hid e1
      have E2 := Lib.hid e2
      clear hN e1 e2 h ht hb hlt
      go_enter Tryz.func32, Tryz.ntmps32
      go_wp2_with fail
      refine HN.out.mono ?_
      rintro e w1 ⟨rfl, h1, h2⟩
      have hS := Spoil_any b g _ w1 h1
      have HS := Lib.hid hS
      have H2 := Lib.hid h2
      clear h1 h2 hS
      rw [if_pos trivial]
      go_wp2_with fail
      refine HS.out.mono ?_
      rintro e w2 ⟨rfl, h1, h3⟩
      have H1 := Lib.hid h1
      have H3 := Lib.hid (H2.out.trans h3 (Stays.refl _ _))
      clear h1 h3
      go_wp2_with fail
      go_ret
      exact ⟨by rw [E1.out]; rfl, by rw [E2.out]; exact H1.out, H3.out⟩
    | false =>
      by_cases hle : v ≤ most
      · have e1 : uV most st = v := by unfold uV; rw [ht]; simp [hle]
        have e2 : uS most st = some r := by unfold uS; rw [ht]; simp [hle]
        have HN := Lib.hid hN
        have E1 := Lib.hid e1
        have E2 := Lib.hid e2
        clear hN e1 e2 h ht hb hlt
        go_enter Tryz.func32, Tryz.ntmps32
        go_wp2_with fail
        refine HN.out.mono ?_
        rintro e w1 ⟨rfl, h1, h2⟩
        have H1 := Lib.hid h1
        have H2 := Lib.hid h2
        clear h1 h2
        have hle' : ¬ most < v := by omega
        rw [if_neg (by simp)]
        go_wp2_with fail
        go_ret
        exact ⟨by rw [E1.out]; rfl, by rw [E2.out]; exact H1.out, H2.out⟩
      · have e1 : uV most st = 0 := by unfold uV; rw [ht]; simp [hle]
        have e2 : uS most st = none := by unfold uS; rw [ht]; simp [hle]
        have HN := Lib.hid hN
        have E1 := Lib.hid e1
        have E2 := Lib.hid e2
        clear hN e1 e2 h ht hb hlt
        go_enter Tryz.func32, Tryz.ntmps32
        go_wp2_with fail
        refine HN.out.mono ?_
        rintro e w1 ⟨rfl, h1, h2⟩
        have hS := Spoil_any b g _ w1 h1
        have HS := Lib.hid hS
        have H2 := Lib.hid h2
        clear h1 h2 hS
        have hle' : most < v := by omega
        rw [if_neg (by simp)]
        go_wp2_with fail
        refine HS.out.mono ?_
        rintro e w2 ⟨rfl, h1, h3⟩
        have H1 := Lib.hid h1
        have H3 := Lib.hid (H2.out.trans h3 (Stays.refl _ _))
        clear h1 h3
        go_wp2_with fail
        go_ret
        exact ⟨by rw [E1.out]; rfl, by rw [E2.out]; exact H1.out, H3.out⟩

def FtPost (w : World) (st : Option (List UInt8)) (e : Ending) (w' : World) : Prop := e = .returned (.bool (uV 1 st == 1)) ∧ Ln w' b g (uS 1 st) ∧ Far w w' b none
/-- How many bytes are left. -/
def rest (st : Option (List UInt8)) : Nat := match st with | some l => l.length | none => 0
set_option maxRecDepth 20000 in
set_option maxHeartbeats 1000000 in
theorem LEnd_any (st : Option (List UInt8)) (w : World) (h : Ln w b g st) :
    Calls Tryz.prog 36 #[.pointer (some ⟨b, 0, none⟩)] w fun e w' => e = .returned (if st = some [] then .nilIface else .iface 54 (.int .i64 2)) ∧ w = w' := by
  match st, h with
  | none, h =>
    have hk : Blk w b 105 #[.slice none 0 0, .bool true] := h
    have c0 := hk.cell 0
    have c1 := hk.cell 1
    simp at c0 c1
    clear h hk
    rw [if_neg (by simp)]
    go_enter Tryz.func36, Tryz.ntmps36
    go_wp2_with fail
    go_ret
    exact ⟨rfl, rfl⟩
  | some [], h =>
    obtain ⟨A, c, a1, a2, a3, a4, hk, hrg, _⟩ := h
    have c0 := hk.cell 0
    have c1 := hk.cell 1
    simp at c0 c1
    clear hk hrg a3
    rw [if_pos rfl]
    go_enter Tryz.func36, Tryz.ntmps36
    go_wp2_with fail
    go_ret
    exact ⟨rfl, rfl⟩
  | some (x :: l), h =>
    obtain ⟨A, c, a1, a2, a3, a4, hk, hrg, _⟩ := h
    have c0 := hk.cell 0
    have c1 := hk.cell 1
    simp at c0 c1
    rw [List.length_cons] at *
    have hp : (0 : Int) < ((l.length + 1 : Nat) : Int) := by omega
    clear hk hrg a3
    rw [if_neg (by simp)]
    go_enter Tryz.func36, Tryz.ntmps36
    go_wp2_with fail
    go_ret
    exact ⟨rfl, rfl⟩
end
end Go.Proofs.YtjlajnackecfgaaGreatDoor
