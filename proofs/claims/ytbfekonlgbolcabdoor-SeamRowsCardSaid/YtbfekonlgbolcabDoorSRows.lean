/-
  SeamRows: the walk. Conditions: the seed's kind; the rows are there; errors.errorType is laid.
-/
import Derived.Test.YtbfekonlgbolcabDoorSRA
namespace Go.Proofs.YtbfekonlgbolcabDoor
open Go.RowKit

set_option maxRecDepth 20000 in
set_option maxHeartbeats 8000000 in
theorem SRows_any (s : Nat) (A0 : Option Addr) (n c0 : Nat) (rs : List Rw) (w : World) (hs : s < 4294967296) (hg : Laid w) (hcs : Cs w w.heap.size A0 (rs.map Rw.val)) (hrs : RwsIn w w.heap.size rs) (hn : rs.length = n) (hnm : n ≤ maxLen) :
    Calls Tryd.prog 5 #[.int .u32 (s : Int), .slice A0 n c0] w fun e w' => e = .returned (.bool true) ∧ Below w.heap.size w w' := by
  have HG := Lib.hid hg
  have HCS := Lib.hid hcs
  have HRS := Lib.hid hrs
  have HN := Lib.hid hn
  unfold maxLen at hnm
  clear hg hcs hrs hn
  go_enter Tryd.func5, Tryd.ntmps5
  go_wp2_with fail
  refine (awake2_any _).mono ?_
  rintro e w1 ⟨rfl, hb1⟩
  have HB1 := Lib.hid hb1
  clear hb1
  go_wp2_with fail
  go_loopw [5, 6, 21] (fun o b i wr => ∃ (k : Nat) (os : List Rw) (A : Option Addr) (c : Nat) (ov : Value), k ≤ n ∧ i = .int .i64 (k : Int) ∧ ov = o ∧ Hid (os.map Rw.l = (rs.take (min k 6)).map pk) ∧ Hid (OwnR wr w1.heap.size ov os.length (os.map Rw.val)) ∧ Hid (∀ r ∈ os, r.l.length ≤ r.c ∧ r.c ≤ maxLen ∧ RB wr r.A r.l) ∧
    b = .slice A (frs s 0 (os.map Rw.l)).length c ∧ (frs s 0 (os.map Rw.l)).length ≤ c ∧ c ≤ maxLen ∧ Hid (RB wr A (frs s 0 (os.map Rw.l))) ∧ Hid (Below w.heap.size w wr) ∧ w1.heap.size ≤ wr.heap.size) (fun _ _ i _ => n - (intOf i).toNat)
  case atStart => exact ⟨0, [], none, 0, _, Nat.zero_le _, rfl, rfl, Lib.hid (by simp), Lib.hid ⟨rfl, Or.inl ⟨rfl, rfl⟩⟩, Lib.hid (fun r hr => nomatch hr), rfl, Nat.le_refl _, by decide, Lib.hid RB.nil_, HB1, Nat.le_refl _⟩
  case round =>
    obtain ⟨k, os, A, c, o, hk, rfl, rfl, HPS, HO, HRW, rfl, hlc, hcm, HRB, HBR, hzr⟩ := hrel
    have hol : os.length = min (min k 6) n := by
      have h := congrArg List.length HPS.out
      rw [List.length_map, List.length_map, List.length_take, HN.out] at h
      exact h
    have hll : (frs s 0 (os.map Rw.l)).length ≤ 294 := by
      have h := frs_le s (os.map Rw.l) 0 (fun p hp => by
        rw [HPS.out] at hp
        obtain ⟨r, _, rfl⟩ := List.mem_map.1 hp
        exact (pk_len r).2)
      rw [List.length_map] at h
      omega
    by_cases hlt : k < n
    · obtain ⟨b', o', rfl, hb', hc⟩ := (HCS.out.below HBR.out).at_ (k := k) (by rw [List.length_map, HN.out]; exact hlt)
      have hkl : k < rs.length := by rw [HN.out]; exact hlt
      have hin := HRS.out rs[k] (List.getElem_mem hkl)
      rw [List.getElem_map] at hc
      by_cases hk6 : k < 6
      · have hok : os.length = k := by omega
        have HOK := Lib.hid hok
        clear hol hok
        have HTK : Hid ((rs.take (min (k + 1) 6)).map pk = (rs.take (min k 6)).map pk ++ [pk rs[k]]) := Lib.hid (by
          rw [show min (k + 1) 6 = k + 1 by omega, show min k 6 = k by omega, List.take_succ_eq_append_getElem hkl, List.map_append]
          rfl)
        obtain ⟨⟨rA, rc, rl⟩, hr⟩ : ∃ r, rs[k] = r := ⟨_, rfl⟩
        rw [hr] at hc hin HTK
        simp only [Rw.val] at hc hin
        rw [show pk ⟨rA, rc, rl⟩ = 1 :: rl.take 40 from rfl] at HTK
        obtain ⟨hi1, hi2, hi3⟩ := hin
        unfold maxLen at hi2
        obtain ⟨W1, hW1⟩ : ∃ W, wr.alloc (.cells #[.int .u8 1] 5) = W := ⟨_, rfl⟩
        have hba : Below wr.heap.size wr W1 := by rw [← hW1]; exact (Below.refl _ wr).alloc (Nat.le_refl _) _
        have h1 : Rd W1 W1.heap.size (some ⟨wr.heap.size, 0, none⟩) [1] := by rw [← hW1]; exact one_rd wr 1 1 rfl
        have hC := CutW_any rA rl.length rc w.heap.size 40 rl W1 ((hi3.below HBR.out).below (hba.mono HBR.out.size)) rfl (by omega) (by decide) (Nat.le_trans HBR.out.size hba.size)
        have hl40 : (rl.take 40).length ≤ 40 := by rw [List.length_take]; omega
        obtain ⟨q, hq⟩ : ∃ q, rl.take 40 = q := ⟨_, rfl⟩
        rw [hq] at hC hl40 HTK
        have HC := Lib.hid hC
        have H1 := Lib.hid h1
        have HW1 := Lib.hid hW1
        have HBA := Lib.hid hba
        have i1 : (k : Int) < 6 := by omega
        clear hC h1 hW1 hba hr hi1 hi2 hi3 hq hkl
        go_wp2_with fail
        try rw [HW1.out]
        refine HC.out.mono ?_
        rintro e w2 ⟨v, rfl, ho, hb2⟩
        obtain ⟨A2, c2, rfl, hl2, hm2, hrb2⟩ := RB.of_own ho
        have hJ := Join_two_own (some ⟨wr.heap.size, 0, none⟩) A2 1 q.length 1 c2 w2.heap.size w2.heap.size [1] q w2 ((H1.out.below hb2).more hb2.size) (Nat.le_refl _) hrb2.rd (Nat.le_refl _) rfl rfl (by omega)
        obtain ⟨PL, hPL⟩ : ∃ l, [1] ++ q = l := ⟨_, rfl⟩
        have hpl : 1 ≤ PL.length ∧ PL.length ≤ 41 := by
          rw [← hPL, List.length_append, List.length_singleton]
          omega
        rw [show (1 : UInt8) :: q = PL from hPL] at HTK
        rw [hPL] at hJ
        have HJ := Lib.hid hJ
        have HB2 := Lib.hid (HBA.out.trans (hb2.mono HBA.out.size))
        have hz2 := hb2.size
        have hz1 := HBA.out.size
        clear hJ ho hb2 hrb2 hPL HC H1 hl2 hm2 hl40 HW1 HBA hc
        go_wp2_with fail
        refine HJ.out.mono ?_
        rintro e w4 ⟨v, rfl, ho4, hb4⟩
        obtain ⟨A4, c4, rfl, hl4, hm4, hrb4⟩ := RB.of_own ho4
        have hb04 := HB2.out.trans (hb4.mono HB2.out.size)
        have hz4 := hb4.size
        have HO5 : Hid (OwnR (w4.alloc (.cells #[.slice A4 PL.length c4] 22)) w1.heap.size o os.length (os.map Rw.val)) := Lib.hid ((HO.out.below hb04).alloc _)
        have HC5 : Hid ((w4.alloc (.cells #[.slice A4 PL.length c4] 22)).cell? ⟨w4.heap.size, 0, none⟩ = some (.slice A4 PL.length c4)) := Lib.hid ((Blk.new w4 _ _).cell 0)
        have hba4 : Below w4.heap.size w4 (w4.alloc (.cells #[.slice A4 PL.length c4] 22)) := (Below.refl _ w4).alloc (Nat.le_refl _) _
        have HRB4 := Lib.hid (hrb4.below hba4)
        have HRB0 := Lib.hid ((HRB.out.below hb04).below hba4)
        have HRW0 : Hid (∀ r ∈ os, r.l.length ≤ r.c ∧ r.c ≤ maxLen ∧ RB (w4.alloc (.cells #[.slice A4 PL.length c4] 22)) r.A r.l) := Lib.hid fun r hr => ⟨(HRW.out r hr).1, (HRW.out r hr).2.1, ((HRW.out r hr).2.2.below hb04).below hba4⟩
        have HB4 := Lib.hid (HBR.out.trans (hb04.mono HBR.out.size))
        clear ho4 hb4 hrb4 hb04 hba4 HJ HB2 HO HRB HRW
        go_wp2_with (with_reducible refine wpList_appendR (o := ⟨some 36, _, _, _, _, _⟩) rfl (.tmp 33) (.tmp 35) rfl w1.heap.size _ os.length (os.map Rw.val) ?h1 HO5.out w4.heap.size (.slice A4 PL.length c4) ?h2 HC5.out rfl ?h3 ?h4 ?_)
        case h1 => rfl
        case h2 => rfl
        case h3 => have := HOK.out; omega
        case h4 => first | omega | (simp; omega)
        intro v' w6 hown' hgr
        have hb6 : Below w.heap.size w w6 := (HB4.out.alloc HB4.out.size (.cells #[.slice A4 PL.length c4] 22)).grown hgr (by have := HB4.out.size; first | omega | (simp; omega)) (fun x hx => by
          rcases HO5.out.2 with ⟨hv, _⟩ | ⟨g', cap, cur, hv, hg', _⟩
          · rw [hv] at hx; cases hx
          · rw [hv] at hx
            simp only [Value.ownBlock, Option.some.injEq] at hx
            have := HB1.out.size
            omega)
        have HRB6 := Lib.hid (HRB4.out.grown HO5.out hgr)
        have HRB06 := Lib.hid (HRB0.out.grown HO5.out hgr)
        have HRW6 : Hid (∀ r ∈ os, r.l.length ≤ r.c ∧ r.c ≤ maxLen ∧ RB w6 r.A r.l) := Lib.hid fun r hr => ⟨(HRW0.out r hr).1, (HRW0.out r hr).2.1, (HRW0.out r hr).2.2.grown HO5.out hgr⟩
        have hz6 : w4.heap.size + 1 ≤ w6.heap.size := by have := hgr.size; simp at this; omega
        obtain ⟨S, hS⟩ : ∃ S, (s + k) % 4294967296 = S := ⟨_, rfl⟩
        have j1 : IntKind.u32.wrap (k : Int) = (k : Int) := by rw [IntKind.wrap_u32]; omega
        have j2 : IntKind.u32.wrap ((s : Int) + (k : Int)) = (S : Int) := by rw [IntKind.wrap_u32]; omega
        have hF := Frame_any S A4 PL.length c4 w6.heap.size PL w6 (by omega) HRB6.out.rd (Nat.le_refl _) rfl (by omega) hl4
        have HF := Lib.hid hF
        have HSS := Lib.hid hS
        have HO6 := Lib.hid hown'
        have HB6 := Lib.hid hb6
        clear hF hown' hgr hb6 HRB4 HRB0 HRW0 HO5 HC5 HB4 hS
        go_wp2_with fail
        refine HF.out.mono ?_
        rintro e w7 ⟨rfl, hblk, hb7⟩
        have hrbF := RB.of_blk hblk
        have hfl : (Crc.frm S PL).length = PL.length + 8 := by rw [Crc.frm_length]
        obtain ⟨LX, hLX⟩ : ∃ l, frs s 0 (os.map Rw.l) = l := ⟨_, rfl⟩
        rw [hLX] at hlc hll HRB06
        have HLX := Lib.hid hLX
        have hJ := Join_two_own A (some ⟨w6.heap.size, 0, none⟩) LX.length (PL.length + 8) c (PL.length + 8) w7.heap.size w7.heap.size LX (Crc.frm S PL) w7 (HRB06.out.below hb7).rd (Nat.le_refl _) hrbF.rd (Nat.le_refl _) rfl hfl (by omega)
        have HJ := Lib.hid hJ
        have HO7 := Lib.hid (HO6.out.below hb7)
        have HRW7 : Hid (∀ r ∈ os, r.l.length ≤ r.c ∧ r.c ≤ maxLen ∧ RB w7 r.A r.l) := Lib.hid fun r hr => ⟨(HRW6.out r hr).1, (HRW6.out r hr).2.1, (HRW6.out r hr).2.2.below hb7⟩
        have HRB7 := Lib.hid (HRB6.out.below hb7)
        have HB7 := Lib.hid (HB6.out.trans (hb7.mono HB6.out.size))
        have hz7 := hb7.size
        rw [hLX]
        clear hJ hblk hrbF hb7 hfl hLX HF HRB6 HRB06 HRW6 HO6 HB6 j1 j2
        go_wp2_with fail
        refine HJ.out.mono ?_
        rintro e w8 ⟨v, rfl, ho8, hb8⟩
        obtain ⟨A8, c8, rfl, hl8, hm8, hrb8⟩ := RB.of_own ho8
        have HO8 := Lib.hid (HO7.out.below hb8)
        have HRW8 : Hid (∀ r ∈ os ++ [(⟨A4, c4, PL⟩ : Rw)], r.l.length ≤ r.c ∧ r.c ≤ maxLen ∧ RB w8 r.A r.l) := Lib.hid fun r hr => by
          rcases List.mem_append.1 hr with hr | hr
          · exact ⟨(HRW7.out r hr).1, (HRW7.out r hr).2.1, (HRW7.out r hr).2.2.below hb8⟩
          · rw [List.mem_singleton.1 hr]
            exact ⟨hl4, hm4, HRB7.out.below hb8⟩
        have hfr : frs s 0 ((os ++ [(⟨A4, c4, PL⟩ : Rw)]).map Rw.l) = LX ++ Crc.frm S PL := by
          rw [List.map_append, List.map_cons, List.map_nil, frs_snoc, HLX.out, List.length_map, HOK.out, Nat.zero_add, HSS.out]
        have HFR := Lib.hid hfr
        have HRB8 := Lib.hid hrb8
        have HB8 := Lib.hid (HB7.out.trans (hb8.mono HB7.out.size))
        have hz8 := hb8.size
        clear ho8 hb8 hrb8 hfr HJ HO7 HRW7 HRB7 HB7
        go_wp2_with fail
        go_roundw
        case rel => exact ⟨k + 1, os ++ [⟨A4, c4, PL⟩], A8, c8, _, by omega, by go_num, rfl, Lib.hid (by rw [List.map_append, HPS.out, HTK.out]; rfl), Lib.hid (by rw [List.length_append, List.map_append]; exact HO8.out), HRW8, by rw [HFR.out, List.length_append], by rw [HFR.out]; exact hl8, hm8, Lib.hid (by rw [HFR.out]; exact HRB8.out), HB8, by omega⟩
        case measure => simp [intOf]; omega
      · have i1 : ¬ (k : Int) < 6 := by omega
        have HTK : Hid (os.map Rw.l = (rs.take (min (k + 1) 6)).map pk) := Lib.hid (by rw [HPS.out, show min (k + 1) 6 = min k 6 by omega])
        simp only [Rw.val] at hc
        obtain ⟨rA, hrA⟩ : ∃ x, rs[k].A = x := ⟨_, rfl⟩
        obtain ⟨rN, hrN⟩ : ∃ x, rs[k].l.length = x := ⟨_, rfl⟩
        obtain ⟨rC, hrC⟩ : ∃ x, rs[k].c = x := ⟨_, rfl⟩
        rw [hrA, hrN, hrC] at hc
        clear hrA hrN hrC hol hin HPS hb' hkl hll
        go_wp2_with fail
        go_roundw
        case rel => exact ⟨k + 1, os, A, c, _, by omega, by go_num, rfl, HTK, HO, HRW, rfl, hlc, hcm, HRB, HBR, hzr⟩
        case measure => simp [intOf]; omega
    · obtain rfl : k = n := by omega
      obtain ⟨-, Ao, co, rfl, hco1, hco2, hcsO⟩ := own_formR HO.out
      obtain ⟨w5, rfl⟩ : ∃ W, W = wr := ⟨_, rfl⟩
      have HPK : Hid (∀ r ∈ os, 1 ≤ r.l.length ∧ r.l.length ≤ 41) := Lib.hid fun r hr => by
        have h : r.l ∈ os.map Rw.l := List.mem_map.2 ⟨r, hr, rfl⟩
        rw [HPS.out] at h
        obtain ⟨r', _, h⟩ := List.mem_map.1 h
        rw [← h]
        exact pk_len r'
      have hos : os.length ≤ 6 := by omega
      have HCO := Lib.hid hcsO
      have HRd := Lib.hid HRB.out.rd
      have HRWd : Hid (∀ r ∈ os, r.l.length ≤ r.c ∧ r.c ≤ maxLen ∧ Rd w5 w5.heap.size r.A r.l) := Lib.hid fun r hr => ⟨(HRW.out r hr).1, (HRW.out r hr).2.1, (HRW.out r hr).2.2.rd⟩
      clear hcsO HO HPS HRW HRB hol hlt hk
      go_wp2_with fail
      go_loopw [6, 49] (fun b i wr => ∃ (j : Nat) (A : Option Addr) (c : Nat), j ≤ os.length ∧ i = .int .i64 (j : Int) ∧ b = .slice A (frs s j ((os.map Rw.l).drop j)).length c ∧ (frs s j ((os.map Rw.l).drop j)).length ≤ c ∧ (frs s j ((os.map Rw.l).drop j)).length ≤ 294 ∧ c ≤ maxLen ∧ Hid (Rd wr w5.heap.size A (frs s j ((os.map Rw.l).drop j))) ∧ Hid (Below w5.heap.size w5 wr)) (fun _ i _ => os.length - (intOf i).toNat)
      case atStart => exact ⟨0, A, c, Nat.zero_le _, rfl, rfl, hlc, hll, hcm, HRd, Lib.hid (Below.refl _ _)⟩
      case round =>
        clear hlc hcm hll HRd
        obtain ⟨j, A, c, hj, rfl, rfl, hlc, hll, hcm, HRD, HBQ⟩ := hrel
        by_cases hjt : j < os.length
        · obtain ⟨b', o', rfl, hb', hc⟩ := (HCO.out.below HBQ.out).at_ (k := j) (by rw [List.length_map]; exact hjt)
          rw [List.getElem_map] at hc
          have hrw := HRWd.out os[j] (List.getElem_mem hjt)
          have hpk := HPK.out os[j] (List.getElem_mem hjt)
          have hdr : (os.map Rw.l).drop j = os[j].l :: (os.map Rw.l).drop (j + 1) := by
            rw [List.drop_eq_getElem_cons (by rw [List.length_map]; exact hjt), List.getElem_map]
          obtain ⟨⟨Aj, cj, pj⟩, hr⟩ : ∃ r, os[j] = r := ⟨_, rfl⟩
          rw [hr] at hc hrw hpk hdr
          simp only [Rw.val] at hc hrw hpk hdr
          obtain ⟨S, hS⟩ : ∃ S, (s + j) % 4294967296 = S := ⟨_, rfl⟩
          have hfs : frs s j ((os.map Rw.l).drop j) = Crc.frm S pj ++ frs s (j + 1) ((os.map Rw.l).drop (j + 1)) := by rw [hdr, frs, hS]
          rw [hfs] at hlc hll HRD ⊢
          obtain ⟨L2, hL2⟩ : ∃ l, frs s (j + 1) ((os.map Rw.l).drop (j + 1)) = l := ⟨_, rfl⟩
          rw [hL2] at hlc hll HRD ⊢
          have hyes := nxt_front S pj L2 (by omega) (by omega)
          obtain ⟨hhd, hbd⟩ := nxt_frm_body S pj L2 (by omega)
          have hlen : (Crc.frm S pj ++ L2).length = pj.length + 8 + L2.length := by rw [List.length_append, Crc.frm_length]
          have hdrp : (Crc.frm S pj ++ L2).drop (pj.length + 8) = L2 := drop_front _ _ _ (by rw [Crc.frm_length])
          obtain ⟨LL, hLL⟩ : ∃ l, Crc.frm S pj ++ L2 = l := ⟨_, rfl⟩
          rw [hLL] at hlc hll HRD hyes hhd hbd hlen hdrp ⊢
          have hN := Next_yes S A LL.length c w5.heap.size LL wr (by omega) HRD.out HBQ.out.size rfl (by omega) hlc hcm hyes
          rw [hhd, hbd] at hN
          have HNx := Lib.hid hN
          obtain ⟨K, hK⟩ : ∃ K, pj.length + 8 = K := ⟨_, rfl⟩
          have hZ := fun W => Size_any pj.length W (by omega)
          rw [hK] at hZ hlen hdrp
          have HK := Lib.hid (show ((pj.length : Int) + 8) = (K : Int) by omega)
          have hKl : K ≤ LL.length := by omega
          have HZ := Lib.hid hZ
          have HLen := Lib.hid hlen
          have HDr := Lib.hid hdrp
          have HL2 := Lib.hid hL2
          obtain ⟨hw1, hw2, hw3⟩ := hrw
          have HW3 := Lib.hid hw3
          have j1 : IntKind.u32.wrap (j : Int) = (j : Int) := by rw [IntKind.wrap_u32]; omega
          have j2 : IntKind.u32.wrap ((s : Int) + (j : Int)) = (S : Int) := by rw [IntKind.wrap_u32]; omega
          have hpl := hpk.2
          clear hN hZ hlen hdrp hL2 hw3 hyes hhd hbd hLL hfs hdr hr hS hK hpk
          go_wp2_with fail
          refine HNx.out.mono ?_
          rintro e w8 ⟨A9, c9, rfl, h91, h92, hrd9, hl9, hb8⟩
          rw [HK.out]
          have hSm := Same_any Aj A9 pj.length cj w5.heap.size pj.length c9 w8.heap.size pj pj w8 ((HW3.out.below HBQ.out).below (hb8.mono HBQ.out.size)) rfl (by unfold maxLen; omega) hrd9 rfl (by unfold maxLen; omega)
          rw [show decide (pj = pj) = true by simp] at hSm
          have HSm := Lib.hid hSm
          have HB8 := Lib.hid (HBQ.out.trans (hb8.mono HBQ.out.size))
          have HBa := Lib.hid (hb8.mono HBQ.out.size)
          clear hSm hrd9 hl9 hb8 hc j1 j2 HNx
          go_wp2_with fail
          refine (HSm.out.mono fun _ _ h => below_all h).mono ?_
          rintro e w9 ⟨rfl, hb9⟩
          have HB9 := Lib.hid (HB8.out.trans (hb9.mono HB8.out.size))
          have HBb := Lib.hid (HBa.out.trans (hb9.mono HB8.out.size))
          clear hb9 HSm HB8 HBa
          go_wp2_with fail
          refine (HZ.out _).mono ?_
          rintro e w10 ⟨rfl, rfl⟩
          have hRc : Rd w9 w5.heap.size (if c = K then A else A.map (·.add K)) L2 := by
            have h := (HRD.out.below HBb.out).cut (k := K) (cap := c) hlc
            rwa [HDr.out] at h
          have HRc := Lib.hid hRc
          clear hRc HRD HW3 HZ HK
          go_wp2_with fail
          go_roundw
          case rel => exact ⟨j + 1, (if c = K then A else A.map (·.add K)), c - K, by omega, by go_num, by rw [HL2.out, show LL.length - K = L2.length by (have := HLen.out; omega)], by rw [HL2.out]; have := HLen.out; omega, by rw [HL2.out]; have := HLen.out; omega, Nat.le_trans (Nat.sub_le _ _) hcm, by rw [HL2.out]; exact HRc, HB9⟩
          case measure => simp [intOf]; omega
        · obtain rfl : j = os.length := by omega
          have hd : (os.map Rw.l).drop os.length = [] := by simp
          rw [hd]
          rw [hd] at hlc hll HRD
          have hN := Next_no s A 0 c w5.heap.size [] wr hs Rd.nil_ HBQ.out.size rfl (by decide) (Nat.zero_le _) hcm (show (3 : Nat) ≠ 0 by decide)
          rw [show nxtErr s [] = 3 from rfl] at hN
          have HNx := Lib.hid hN
          have HBz := Lib.hid (HBR.out.trans (HBQ.out.mono HBR.out.size))
          simp only [frs, List.length_nil]
          clear hd hN hlc hll HRD HBQ HBR hj hjt
          go_wp2_with fail
          refine HNx.out.mono ?_
          rintro e w8 ⟨rfl, hb8⟩
          have HB8 := Lib.hid (HBz.out.trans (hb8.mono HBz.out.size))
          clear hb8 HNx
          go_wp2_with fail
          refine (Code_errno 3 _ (HG.out.below HB8.out)).mono ?_
          rintro e w9 ⟨rfl, hb9⟩
          go_wp2_with fail
          go_ret
          exact ⟨by first | rfl | simp, HB8.out.trans (hb9.mono HB8.out.size)⟩
end Go.Proofs.YtbfekonlgbolcabDoor
