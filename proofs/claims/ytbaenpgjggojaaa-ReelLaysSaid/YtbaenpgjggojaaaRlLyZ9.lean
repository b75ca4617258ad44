/-
The reference's Lay. Conditions: the record is there, of a hundred thousand bytes at most; numbers of 32 bits.
-/
import Derived.Test.YtbaenpgjggojaaaRlReZ9
namespace Go.Proofs.Ytbaenpgjggojaaa
open Go.ChangeShapes Go.WideShapes Go.RowKit

def slLen : Value → Nat
  | .slice _ n _ => n
  | _ => 0
theorem rd_take {w : World} {B : Nat} {A : Option Addr} {l : List UInt8} (h : Rd w B A l) (k : Nat) : Rd w B A (l.take k) := fun hn => by
  obtain ⟨b, o, e, hb, hc⟩ := h (by rw [List.length_take] at hn; omega)
  refine ⟨b, o, e, hb, fun j u hu => hc j u ?_⟩
  rw [List.getElem?_take] at hu
  split at hu
  · exact hu
  · cases hu
theorem rd_drop {w : World} {B b o : Nat} {l : List UInt8} (h : Rd w B (some ⟨b, o, none⟩) l) (k : Nat) : Rd w B (some ⟨b, o + k, none⟩) (l.drop k) := fun hn => by
  obtain ⟨b', o', e, hb, hc⟩ := h (by rw [List.length_drop] at hn; omega)
  injection e with e
  injection e with e1 e2
  subst e1
  subst e2
  refine ⟨_, _, rfl, hb, fun j u hu => ?_⟩
  rw [Nat.add_assoc]
  exact hc _ u (by rw [← hu, List.getElem?_drop])
theorem secs_take (s : Nat) (p : List UInt8) (k : Nat) (hk : k < pagesN p.length) : (secs s p).take (k + 1) = (secs s p).take k ++ [sector 165 (((Crc.frm s p).drop (254 * k)).take 254)] := by
  have e : (secs s p)[k]? = some (sector 165 (((Crc.frm s p).drop (254 * k)).take 254)) := by
    unfold secs
    rw [List.getElem?_map, List.getElem?_range hk]
    rfl
  rw [List.take_add_one, e]
  rfl
theorem Gath.none (w : World) (B : Nat) (own : Nat → Prop) : Gath B own Option.none 0 [] [] w := ⟨World.ownsRow_nil _ _ _ _, rfl, fun q hq => by simp [Value.ownBlock] at hq, fun i v b hv => by simp at hv⟩
def NoOwn : Nat → Prop := fun _ => False
theorem lay_more {W0 W W3 : World} {q6 k co : Nat} {Ao : Option Addr} {vals : List Value} {Ls : List (List UInt8)} {P : List UInt8} {v' : Value} (h : Gath W0.heap.size NoOwn Ao co vals Ls W) (hk : Ls.length = k) (hPl : P.length = 256) (hP : OwnB W W0.heap.size (.slice (some ⟨q6, 0, none⟩) 256 256) 256 P) (hq : ∀ q, (Value.slice Ao k co).ownBlock = some q → q < q6)
    (hown : OwnR W3 W0.heap.size v' (k + 1) (vals ++ [.slice (some ⟨q6, 0, none⟩) 256 256])) (hg : (W.alloc (.cells #[.slice (some ⟨q6, 0, none⟩) 256 256] 35)).grownBy W3 (Value.slice Ao k co).ownBlock)
    (hloc : v'.ownBlock = (Value.slice Ao k co).ownBlock ∨ v'.ownBlock = some (W.alloc (.cells #[.slice (some ⟨q6, 0, none⟩) 256 256] 35)).heap.size) (hb : Below W0.heap.size W0 W) :
    ∃ A' c', v' = .slice A' (k + 1) c' ∧ Gath W0.heap.size NoOwn A' c' (vals ++ [.slice (some ⟨q6, 0, none⟩) 256 256]) (Ls ++ [P]) W3 ∧ Below W0.heap.size W0 W3 := by
  subst hk
  rw [← hPl] at hP hown hg hloc ⊢
  obtain ⟨A', c', e, hG, hK⟩ := h.more (fun _ hi => hi.elim) hP (fun q hq2 => ⟨fun e => e.elim, fun e => by
    have := hq q e
    simp [Value.ownBlock] at hq2
    omega⟩) hown hg hloc
  exact ⟨A', c', e, hG, kept_below hK hb hb.size fun i hi => (World.ownsRow.lt h.1 i hi).1⟩
section
variable {w : World} {B n c g i : Nat} {A : Option Addr} {p : List UInt8}
set_option maxRecDepth 20000 in
set_option maxHeartbeats 2000000 in
theorem RLay_any (hg : g < 4294967296) (hi : i < 4294967296) (hR : Rd w B A p) (hB : B ≤ w.heap.size) (hn : p.length = n) (hm : n ≤ 100000) :
    Calls Try.prog 45 #[.int .u32 (g : Int), .int .i64 (i : Int), .slice A n c] w fun e w' => ∃ A' c' vals, e = .returned (.slice A' (secs (seedN g i) p).length c') ∧ Gath w.heap.size NoOwn A' c' vals (secs (seedN g i) p) w' ∧ Below w.heap.size w w' := by
  have cW := Word_any i w hi
  obtain ⟨s, hs⟩ : ∃ s, seedN g i = s := ⟨_, rfl⟩
  have hs2 : Crc.chk g (Crc.wrd i) = s := hs
  have hsl : s < 4294967296 := by rw [← hs2]; exact Crc.chk_lt _ _
  rw [hs]
  have HS := Lib.hid (And.intro hs2 hsl)
  clear hs hs2 hsl
  have HP := Lib.hid (And.intro hR (And.intro hB (And.intro hn hm)))
  have hib : (i : Int) < 4294967296 := by omega
  clear hR hB hn hm hi
  go_enter Try.func45, Try.ntmps45
  go_wp2_with fail
  refine cW.mono ?_
  rintro e w1 ⟨A1, c1, rfl, -, -, hr1, hb1⟩
  have cC := RefCheck_any g A1 (Crc.wrd i).length c1 w1.heap.size (Crc.wrd i) w1 hg hr1 (Nat.le_refl _) rfl (by rw [Crc.wrd_length]; decide)
  have H1 := Lib.hid hb1
  clear cW hr1 hb1
  go_wp2_with fail
  refine cC.mono ?_
  rintro e w2 ⟨rfl, hb2⟩
  have hb2' := H1.out.trans (hb2.mono H1.out.size)
  rw [HS.out.1]
  have hsl := HS.out.2
  have cF := RefFrame_any s A n c B p w2 hsl (HP.out.1.below (hb2'.mono HP.out.2.1)) (Nat.le_trans HP.out.2.1 hb2'.size) HP.out.2.2.1 (by have := HP.out.2.2.2; omega)
  have H2 := Lib.hid hb2'
  clear cC hb2 hb2' hsl
  go_wp2_with fail
  refine cF.mono ?_
  rintro e w3 ⟨A3, c3, rfl, hc3, hm3, hr3, hb3⟩
  have hFl : (Crc.frm s p).length = n + 8 := by unfold Crc.frm; simp [Crc.wrd_length, HP.out.2.2.1]; omega
  have hpb := pages_bounds n
  obtain ⟨K, hK⟩ : ∃ K, pagesN n = K := ⟨_, rfl⟩
  rw [hK] at hpb
  rw [hFl] at hc3 ⊢
  have HF := Lib.hid (And.intro hFl (And.intro hpb (show pagesN p.length = K by rw [HP.out.2.2.1]; exact hK)))
  have H3 := Lib.hid (And.intro (H2.out.trans (hb3.mono H2.out.size)) (And.intro hr3 (And.intro hc3 hm3)))
  have hnb : (n : Int) ≤ 100000 := by have := HP.out.2.2.2; omega
  clear cF hc3 hm3 hr3 hb3 hFl hpb hK
  go_wp2_with fail
  go_loopw [7, 8] (fun vf vo wr => ∃ k m Af cf Ao co vals, k + 1 ≤ K ∧ m + 254 * k = n + 8 ∧ vf = .slice Af m cf ∧ m ≤ cf ∧ cf ≤ maxLen ∧ Rd w3 w3.heap.size Af ((Crc.frm s p).drop (254 * k)) ∧ vo = .slice Ao k co ∧ ((secs s p).take k).length = k ∧ Gath w3.heap.size NoOwn Ao co vals ((secs s p).take k) wr ∧ Below w3.heap.size w3 wr) (fun vf _ _ => slLen vf)
  case atStart => exact ⟨0, n + 8, A3, c3, Option.none, 0, [], HF.out.2.1.2.2, rfl, rfl, H3.out.2.2.1, H3.out.2.2.2, by simpa using H3.out.2.1, rfl, rfl, Gath.none _ _ _, Below.refl _ _⟩
  case round =>
    obtain ⟨k, m, Af, cf, Ao, co, vals, hkK, hmk, rfl, hmc, hcm, hrf, rfl, hLl, hga, hbw⟩ := hrel
    have hml : ((Crc.frm s p).drop (254 * k)).length = m := by rw [List.length_drop, HF.out.1]; omega
    have hm1 : 0 < m := by have := HF.out.2.1; omega
    obtain ⟨b, o, rfl, hb0, -⟩ := hrf.at_ (k := 0) (by omega)
    have hmb : (m : Int) ≤ 100008 := by omega
    have hcb : (cf : Int) ≤ 9223372036854775807 := by unfold maxLen at hcm; omega
    have hcb2 : (m : Int) ≤ (cf : Int) := by omega
    by_cases h2 : 254 < m
    · have h22 : (254 : Int) < (m : Int) := by omega
      have cM := RMarked_any 165 (some ⟨b, o, none⟩) 254 cf wr.heap.size (((Crc.frm s p).drop (254 * k)).take 254) wr (rd_take ((hrf.below hbw).more hbw.size) 254) (Nat.le_refl _) (by rw [List.length_take, hml]; omega) (Nat.le_refl _)
      rw [show ((165 : UInt8).toNat : Int) = 165 from rfl] at cM
      have HG := Lib.hid (And.intro hga (And.intro hbw (And.intro hLl (And.intro hrf (And.intro hml (show k < pagesN p.length by rw [HF.out.2.2]; omega))))))
      have HK := Lib.hid (And.intro hkK hmk)
      have HC := Lib.hid (And.intro hmc hcm)
      have h254 : (254 : Int) ≤ (cf : Int) := by omega
      clear hga hbw hLl hrf hml hkK hmk hmc hcm h2
      go_wp2_with fail
      refine cM.mono ?_
      rintro e w6 ⟨q6, rfl, ho6, hb6⟩
      have hga6 := HG.out.1.below hb6
      have hbw6 := HG.out.2.1.trans (hb6.mono HG.out.2.1.size)
      have hLl := HG.out.2.2.1
      have cb : (w6.alloc (.cells #[.slice (some ⟨q6, 0, none⟩) 256 256] 35)).cell? ⟨w6.heap.size, 0, none⟩ = some (.slice (some ⟨q6, 0, none⟩) 256 256) := (Blk.new w6 35 #[.slice (some ⟨q6, 0, none⟩) 256 256]).cell 0
      have hoR := hga6.1.alloc (.cells #[.slice (some ⟨q6, 0, none⟩) 256 256] 35)
      rw [hLl] at hoR
      have hq6 := (World.ownsRow.lt ho6 q6 rfl).1
      have hg0 := HG.out.1.1
      rw [hLl] at hg0
      have hq7 : ∀ q, (Value.slice Ao k co).ownBlock = some q → q < q6 := fun q hq => Nat.lt_of_lt_of_le (World.ownsRow.lt hg0 q hq).2 hq6
      have HX := Lib.hid (And.intro hga6 (And.intro hbw6 (And.intro cb (And.intro hoR (And.intro (ho6.low HG.out.2.1.size) (And.intro hq7 hb6))))))
      clear cM ho6 hb6 hga6 hbw6 cb hoR hLl hq6 hg0 hq7
      go_wp2_with (with_reducible refine wpList_appendL9 (o := ⟨some 24, _, _, _, _, _⟩) rfl (.tmp 19) (.tmp 23) rfl w3.heap.size (.slice Ao k co) k vals ?h1 HX.out.2.2.2.1 w6.heap.size (.slice (some ⟨q6, 0, none⟩) 256 256) ?h2 HX.out.2.2.1 rfl ?h3 ?h4 ?_)
      case h1 => rfl
      case h2 => rfl
      case h3 => have := HF.out.2.1; have := HK.out.1; have := HP.out.2.2.2; omega
      case h4 => rw [World.size_alloc]; have := HX.out.2.1.size; omega
      intro v9 w9 hown9 hg9 hloc9
      obtain ⟨A9, c9, rfl, hga9, hb9⟩ := lay_more HX.out.1 HG.out.2.2.1 (sector_len 165 _) HX.out.2.2.2.2.1 HX.out.2.2.2.2.2.1 hown9 hg9 (by rw [World.size_alloc]; exact hloc9) HX.out.2.1
      rw [← secs_take s p k (by rw [HF.out.2.2]; have := HK.out.1; omega)] at hga9
      have HR := Lib.hid (And.intro hga9 hb9)
      clear hown9 hg9 hloc9 hga9 hb9
      go_wp2_with fail
      go_roundw
      case rel =>
        have hKb := HF.out.2.1
        have hFl := HF.out.1
        refine ⟨k + 1, m - 254, some ⟨b, o + 254, none⟩, cf - 254, A9, c9, _, by have := HK.out.2; omega, by have := HK.out.2; omega, rfl, by have := HC.out.1; omega, by have := HC.out.2; omega, ?_, rfl, ?_, HR.out.1, HR.out.2⟩
        · have h := rd_drop HG.out.2.2.2.1 254
          rw [List.drop_drop, show 254 * k + 254 = 254 * (k + 1) from by omega] at h
          exact h
        · rw [List.length_take, secs_len, HF.out.2.2]
          have := HK.out.2
          omega
      case measure => simp [slLen]; omega
    · have h22 : ¬ (254 : Int) < (m : Int) := by omega
      have hX : ((Crc.frm s p).drop (254 * k)).take 254 = (Crc.frm s p).drop (254 * k) := List.take_of_length_le (by omega)
      have cM := RMarked_any 165 (some ⟨b, o, none⟩) m cf wr.heap.size ((Crc.frm s p).drop (254 * k)) wr ((hrf.below hbw).more hbw.size) (Nat.le_refl _) hml (by omega)
      rw [show ((165 : UInt8).toNat : Int) = 165 from rfl, ← hX] at cM
      have HG := Lib.hid (And.intro hga (And.intro hbw (And.intro hLl (And.intro hrf (And.intro hml (show k < pagesN p.length by rw [HF.out.2.2]; omega))))))
      have HK := Lib.hid (And.intro hkK hmk)
      clear hga hbw hLl hrf hml hkK hmk hmc hcm h2 hX
      go_wp2_with fail
      refine cM.mono ?_
      rintro e w6 ⟨q6, rfl, ho6, hb6⟩
      have hga6 := HG.out.1.below hb6
      have hbw6 := HG.out.2.1.trans (hb6.mono HG.out.2.1.size)
      have hLl := HG.out.2.2.1
      have cb : (w6.alloc (.cells #[.slice (some ⟨q6, 0, none⟩) 256 256] 35)).cell? ⟨w6.heap.size, 0, none⟩ = some (.slice (some ⟨q6, 0, none⟩) 256 256) := (Blk.new w6 35 #[.slice (some ⟨q6, 0, none⟩) 256 256]).cell 0
      have hoR := hga6.1.alloc (.cells #[.slice (some ⟨q6, 0, none⟩) 256 256] 35)
      rw [hLl] at hoR
      have hq6 := (World.ownsRow.lt ho6 q6 rfl).1
      have hg0 := HG.out.1.1
      rw [hLl] at hg0
      have hq7 : ∀ q, (Value.slice Ao k co).ownBlock = some q → q < q6 := fun q hq => Nat.lt_of_lt_of_le (World.ownsRow.lt hg0 q hq).2 hq6
      have HX := Lib.hid (And.intro hga6 (And.intro hbw6 (And.intro cb (And.intro hoR (And.intro (ho6.low HG.out.2.1.size) (And.intro hq7 hb6))))))
      clear cM ho6 hb6 hga6 hbw6 cb hoR hLl hq6 hg0 hq7
      go_wp2_with (with_reducible refine wpList_appendL9 (o := ⟨some 31, _, _, _, _, _⟩) rfl (.tmp 27) (.tmp 30) rfl w3.heap.size (.slice Ao k co) k vals ?h1 HX.out.2.2.2.1 w6.heap.size (.slice (some ⟨q6, 0, none⟩) 256 256) ?h2 HX.out.2.2.1 rfl ?h3 ?h4 ?_)
      case h1 => rfl
      case h2 => rfl
      case h3 => have := HF.out.2.1; have := HK.out.1; have := HP.out.2.2.2; omega
      case h4 => rw [World.size_alloc]; have := HX.out.2.1.size; omega
      intro v9 w9 hown9 hg9 hloc9
      obtain ⟨A9, c9, rfl, hga9, hb9⟩ := lay_more HX.out.1 HG.out.2.2.1 (sector_len 165 _) HX.out.2.2.2.2.1 HX.out.2.2.2.2.2.1 hown9 hg9 (by rw [World.size_alloc]; exact hloc9) HX.out.2.1
      rw [← secs_take s p k (by rw [HF.out.2.2]; have := HK.out.1; omega)] at hga9
      have hfin : (secs s p).take (k + 1) = secs s p := List.take_of_length_le (by rw [secs_len, HF.out.2.2]; have := HF.out.2.1; have := HK.out.2; omega)
      have hln : k + 1 = (secs s p).length := by rw [secs_len, HF.out.2.2]; have := HF.out.2.1; have := HK.out; omega
      rw [hfin] at hga9
      rw [hln]
      have HR := Lib.hid (And.intro (hga9.low H3.out.1.size) (H3.out.1.trans (hb9.mono H3.out.1.size)))
      clear hown9 hg9 hloc9 hga9 hb9 hfin hln
      go_wp2_with fail
      go_ret
      exact ⟨A9, c9, _, rfl, HR.out.1, HR.out.2⟩
end
end Go.Proofs.Ytbaenpgjggojaaa
