/-
The reel's heads: head, what stands between marks, headAt, newest. Conditions: a drum of two sectors at least.
The reel's newest head. Conditions: a drum of two sectors at least.
-/
import Derived.Test.YtbaenpgjggojaaaRlBZ9
import Derived.BigQuiet
namespace Go.Proofs.Ytbaenpgjggojaaa
open Go.ChangeShapes Go.WideShapes Go.RowKit

def headL (g : Nat) : List UInt8 := sector (UInt8.ofNat (markN g)) (Crc.frm 0 (Crc.wrd g))
theorem mark_u8 (g : Nat) : ((UInt8.ofNat (markN g)).toNat : Int) = (markN g : Nat) := by
  have : markN g < 256 := by unfold markN; omega
  simp [UInt8.toNat_ofNat']
  omega
/-- A block of bytes, made behind a world. -/
def MadeB (w : World) (l : List UInt8) (e : Ending) (w' : World) : Prop :=
  ∃ q, e = .returned (.slice (some ⟨q, 0, none⟩) l.length l.length) ∧ w.heap.size ≤ q ∧ Blk w' q 5 (l.map enc8).toArray ∧ Below w.heap.size w w'
theorem blk_rd {w : World} {q : Nat} {l : List UInt8} (h : Blk w q 5 (l.map enc8).toArray) : Rd w w.heap.size (some ⟨q, 0, none⟩) l :=
  h.rd h.lt fun j u hu => by
    rw [Nat.zero_add, List.getElem?_toArray, List.getElem?_map, hu]
    rfl
set_option maxRecDepth 20000 in
theorem headG_any (g : Nat) (hg : g < 4294967296) (w : World) : Calls Try.prog 59 #[.int .u32 (g : Int)] w (MadeB w (headL g)) := by
  have c1 := headMark_any g w
  have c2 := fun W => four_any g hg W
  have hl : (headL g).length = 256 := sector_len _ _
  unfold MadeB
  rw [hl]
  have hm := mark_u8 g
  obtain ⟨M, hM⟩ : ∃ M, UInt8.ofNat (markN g) = M := ⟨_, rfl⟩
  rw [hM] at hm
  rw [← hm] at c1
  have HL : Hid (headL g = sector M (Crc.frm 0 (Crc.wrd g))) := Lib.hid (by rw [← hM]; rfl)
  clear hl hm hM
  go_enter Try.func59, Try.ntmps59
  go_wp2_with fail
  refine c1.mono ?_
  rintro e w1 ⟨rfl, rfl⟩
  go_wp2_with fail
  refine (c2 w1).mono ?_
  rintro e w2 ⟨rfl, hb2, hw2⟩
  have c3 := Frame_any 0 (some ⟨w1.heap.size, 0, none⟩) 4 4 w2.heap.size (Crc.wrd g) w2 (by decide) (blk_rd hb2) (Nat.le_refl _) (Crc.wrd_length g) (by decide) (by decide)
  have HW2 := Lib.hid hw2
  clear c1 c2 hb2 hw2
  go_wp2_with fail
  refine c3.mono ?_
  rintro e w3 ⟨rfl, hb3, hw3⟩
  have c4 := marked_any M (some ⟨w2.heap.size, 0, none⟩) 12 12 w3.heap.size (Crc.frm 0 (Crc.wrd g)) w3 (blk_rd hb3) (Nat.le_refl _) (by rw [Crc.frm_length, Crc.wrd_length]) (by decide)
  have HW3 := Lib.hid (HW2.out.trans (hw3.mono HW2.out.size))
  clear c3 hb3 hw3
  go_wp2_with fail
  refine c4.mono ?_
  rintro e w4 ⟨rfl, hb4, hw4⟩
  have hw5 := HW3.out.trans (hw4.mono HW3.out.size)
  have HB4 := Lib.hid hb4
  have HW4 := Lib.hid hw5
  clear c4 hb4 hw4 hw5
  go_wp2_with fail
  go_ret
  exact ⟨_, rfl, HW3.out.size, by rw [HL.out]; exact HB4.out, HW4.out⟩

/-- The mark of a sector, 0 where both ends differ; and what stands between. -/
def markOf (s : List UInt8) : Nat := if s.getD 0 0 = s.getD 255 0 then (s.getD 0 0).toNat else 0
def bodyOf (s : List UInt8) : List UInt8 := if s.getD 0 0 = s.getD 255 0 then (s.drop 1).take 254 else []
def BtwPost (s : List UInt8) (w : World) (e : Ending) (w' : World) : Prop :=
  ∃ A c, e = .returned (.tuple #[.int .u8 (markOf s : Nat), .slice A (bodyOf s).length c]) ∧ (bodyOf s).length ≤ c ∧ c ≤ 255 ∧ Rd w' w'.heap.size A (bodyOf s) ∧ Below w.heap.size w w'
section
variable {w : World} {base d : Nat} {o : Nat → Prop} {fl : List (List UInt8)} {ws : List (Nat × List UInt8)} {left : Int}
set_option maxRecDepth 20000 in
theorem between_dr (h : Dr w base d o fl ws left) (i : Nat) (hi : i < fl.length) :
    Calls Try.prog 71 #[.pointer (some ⟨d, 0, none⟩), .int .i64 (i : Int)] w (BtwPost (now fl ws i) w) := by
  have c1 := Read_dr h i hi
  have hl := h.now_len i hi
  obtain ⟨s, hs⟩ : ∃ s, now fl ws i = s := ⟨_, rfl⟩
  rw [hs] at c1 hl ⊢
  clear h hs hi
  go_enter Try.func71, Try.ntmps71
  go_wp2_with fail
  refine c1.mono ?_
  rintro e w1 ⟨rfl, hb1, hw1⟩
  have h0 : 0 < s.length := by omega
  have h255 : 255 < s.length := by omega
  have c0 := hb1.cell 0
  have c255 := hb1.cell 255
  have g0 : (s.map enc8).toArray[0]? = some (.int .u8 ((s.getD 0 0).toNat : Int)) := by
    rw [List.getElem?_toArray, List.getElem?_map, List.getElem?_eq_getElem h0, List.getD_eq_getElem?_getD, List.getElem?_eq_getElem h0]
    rfl
  have g255 : (s.map enc8).toArray[255]? = some (.int .u8 ((s.getD 255 0).toNat : Int)) := by
    rw [List.getElem?_toArray, List.getElem?_map, List.getElem?_eq_getElem h255, List.getD_eq_getElem?_getD, List.getElem?_eq_getElem h255]
    rfl
  rw [g0] at c0
  rw [g255] at c255
  obtain ⟨g, hg⟩ : ∃ g, w.heap.size = g := ⟨_, rfl⟩
  rw [hg] at c0 c255 hb1 hw1 ⊢
  have hlt := hb1.lt
  have hrd : Rd w1 w1.heap.size (some ⟨g, 1, none⟩) ((s.drop 1).take 254) := hb1.rd hlt fun j u hu => by
    rw [List.getElem?_toArray, List.getElem?_map]
    rw [List.getElem?_take] at hu
    split at hu
    · rw [List.getElem?_drop] at hu
      rw [hu]
      rfl
    · cases hu
  have hlen : ((s.drop 1).take 254).length = 254 := by rw [List.length_take, List.length_drop]; omega
  have em : markOf s = if s.getD 0 0 = s.getD 255 0 then (s.getD 0 0).toNat else 0 := rfl
  have eb : bodyOf s = if s.getD 0 0 = s.getD 255 0 then (s.drop 1).take 254 else [] := rfl
  obtain ⟨x, hx⟩ : ∃ x, s.getD 0 0 = x := ⟨_, rfl⟩
  obtain ⟨y, hy⟩ : ∃ y, s.getD 255 0 = y := ⟨_, rfl⟩
  rw [hx] at c0 em eb
  rw [hy] at c255 em eb
  obtain ⟨Bd, hBd⟩ : ∃ B, (s.drop 1).take 254 = B := ⟨_, rfl⟩
  rw [hBd] at hrd hlen eb
  have HRD := Lib.hid hrd
  have HW := Lib.hid hw1
  have HLN := Lib.hid hlen
  by_cases hxy : x = y
  · rw [if_pos hxy] at em eb
    have HE := Lib.hid (And.intro em eb)
    clear c1 hb1 hw1 hrd hlen hx hy g0 g255 h0 h255 hl hBd em eb
    subst hxy
    have hcm : ((x.toNat : Int) != (x.toNat : Int)) = false := by simp
    go_wp2_with fail
    go_quiet (fail)
    go_wp2_with fail
    go_quiet (fail)
    go_wp2_with fail
    go_ret2
    have h := HW.out
    unfold BtwPost
    rw [HE.out.1, HE.out.2, HLN.out]
    refine ⟨some ⟨g, 1, none⟩, 255, rfl, by omega, by omega, HRD.out, ?_⟩
    rw [hg]
    exact ⟨h.os, h.tape, h.output, h.size, h.block⟩
  · rw [if_neg hxy] at em eb
    have HE := Lib.hid (And.intro em eb)
    have hcm : ((x.toNat : Int) != (y.toNat : Int)) = true := by
      rw [bne_iff_ne]
      exact fun e => hxy (UInt8.toNat_inj.1 (by omega))
    have hcq : ((x.toNat : Int) == (y.toNat : Int)) = false := by
      rw [beq_eq_false_iff_ne]
      exact fun e => hxy (UInt8.toNat_inj.1 (by omega))
    clear c1 hb1 hw1 hrd hlen hx hy g0 g255 h0 h255 hl hBd em eb hxy
    go_wp2_with fail
    go_quiet (fail)
    go_wp2_with fail
    go_ret2
    have h := HW.out
    unfold BtwPost
    rw [HE.out.1, HE.out.2]
    refine ⟨none, 0, rfl, by simp, by omega, Rd.nil_, ?_⟩
    rw [hg]
    exact ⟨h.os, h.tape, h.output, h.size, h.block⟩
end
end Go.Proofs.Ytbaenpgjggojaaa
namespace Go.Proofs.Ytbaenpgjggojaaa
open Go.ChangeShapes Go.WideShapes Go.RowKit

/-- The generation of the head that sector at has: 0: none that is right. -/
def hdN (s : List UInt8) (k : Nat) : Nat :=
  if nxtErr 0 (bodyOf s) = 0 ∧ headOf (bodyOf s) = 4 then
    (if markOf s = markN (valK (nxtBody (bodyOf s)) 4) ∧ k = valK (nxtBody (bodyOf s)) 4 % 2 then valK (nxtBody (bodyOf s)) 4 else 0)
  else 0
theorem bodyOf_len (s : List UInt8) : (bodyOf s).length ≤ 254 := by
  unfold bodyOf
  split
  · rw [List.length_take]; omega
  · simp
section
variable {w : World} {base d : Nat} {o : Nat → Prop} {fl : List (List UInt8)} {ws : List (Nat × List UInt8)} {left : Int}
set_option maxRecDepth 20000 in
theorem headAt_dr (h : Dr w base d o fl ws left) (i : Nat) (hi : i < fl.length) :
    Calls Try.prog 60 #[.pointer (some ⟨d, 0, none⟩), .int .i64 (i : Int)] w fun e w' => e = .returned (.int .u32 (hdN (now fl ws i) i : Nat)) ∧ Below w.heap.size w w' := by
  have c1 := between_dr h i hi
  obtain ⟨s, hs⟩ : ∃ s, now fl ws i = s := ⟨_, rfl⟩
  rw [hs] at c1 ⊢
  clear h hs hi
  have hl := bodyOf_len s
  have eh : hdN s i = if nxtErr 0 (bodyOf s) = 0 ∧ headOf (bodyOf s) = 4 then
    (if markOf s = markN (valK (nxtBody (bodyOf s)) 4) ∧ i = valK (nxtBody (bodyOf s)) 4 % 2 then valK (nxtBody (bodyOf s)) 4 else 0)
    else 0 := rfl
  unfold BtwPost at c1
  obtain ⟨m, hm⟩ : ∃ m, markOf s = m := ⟨_, rfl⟩
  obtain ⟨b, hb⟩ : ∃ b, bodyOf s = b := ⟨_, rfl⟩
  obtain ⟨r, hr⟩ : ∃ r, hdN s i = r := ⟨_, rfl⟩
  rw [hr, hm, hb] at eh
  rw [hm, hb] at c1
  rw [hb] at hl
  rw [hr]
  clear hm hb hr
  obtain ⟨n, hn⟩ : ∃ n, b.length = n := ⟨_, rfl⟩
  rw [hn] at c1 hl
  have HE := Lib.hid eh
  have HN := Lib.hid hn
  have HL := Lib.hid hl
  clear eh hn hl
  go_enter Try.func60, Try.ntmps60
  go_wp2_with fail
  refine c1.mono ?_
  rintro e w1 ⟨A, c, rfl, hnc, hc, hrd, hw1⟩
  clear c1
  by_cases h0 : nxtErr 0 b = 0
  · have c2 := Next_yes 0 A n c w1.heap.size b w1 (by decide) hrd (Nat.le_refl _) HN.out (by have := HL.out; omega) hnc (by unfold maxLen; omega) h0
    have HW := Lib.hid hw1
    clear hrd hw1 hnc hc
    go_wp2_with fail
    refine c2.mono ?_
    rintro e w2 ⟨A2, k2, rfl, hm2, hk2, hrd2, hlen2, hw2⟩
    have HW2 := Lib.hid (HW.out.trans (hw2.mono HW.out.size))
    clear c2 hw2 hm2 hk2 HW
    by_cases h4 : headOf b = 4
    · rw [h4] at hlen2
      have c3 := number_any A2 k2 w2.heap.size (nxtBody b) w2 hrd2 hlen2
      have hv : valK (nxtBody b) 4 < 4294967296 := valK_lt _ 4
      have e9 := HE.out
      rw [if_pos ⟨h0, h4⟩] at e9
      obtain ⟨v, hv2⟩ : ∃ v, valK (nxtBody b) 4 = v := ⟨_, rfl⟩
      rw [hv2] at c3 hv e9
      clear HE h0 hrd2 hlen2 hv2
      rw [h4]
      clear h4
      have HW3 := Lib.hid hv
      clear hv
      have HV := Lib.hid e9
      clear e9
      have cM := fun W => headMark_any v W
      have cP := fun W => place_any v W
      by_cases hmk : m = markN v
      · obtain ⟨M, hM⟩ : ∃ M, markN v = M := ⟨_, rfl⟩
        obtain ⟨Q, hQ⟩ : ∃ Q, v % 2 = Q := ⟨_, rfl⟩
        rw [hM] at cM hmk
        rw [hQ] at cP
        have HMQ := Lib.hid (And.intro hM hQ)
        clear hM hQ
        subst hmk
        by_cases hp : i = Q
        · have e9 := HV.out
          rw [if_pos ⟨HMQ.out.1.symm, hp.trans HMQ.out.2.symm⟩] at e9
          subst e9
          subst hp
          go_wp2_with fail
          refine c3.mono ?_
          rintro e w3 ⟨rfl, hw3⟩
          have HW4 := Lib.hid (HW2.out.trans (hw3.mono HW2.out.size))
          clear c3 hw3 HV
          go_wp2_with fail
          refine (cM w3).mono ?_
          rintro e w4 ⟨rfl, rfl⟩
          clear cM
          go_wp2_with fail
          refine (cP w4).mono ?_
          rintro e w5 ⟨rfl, rfl⟩
          clear cP
          go_wp2_with fail
          go_ret
          exact ⟨rfl, HW4.out⟩
        · have e9 := HV.out
          rw [if_neg (fun h => hp (h.2.trans HMQ.out.2))] at e9
          subst e9
          have hcm : ((i : Int) != (Q : Int)) = true := by rw [bne_iff_ne]; omega
          have hcq : ((i : Int) == (Q : Int)) = false := by rw [beq_eq_false_iff_ne]; omega
          clear hp HMQ
          go_wp2_with fail
          refine c3.mono ?_
          rintro e w3 ⟨rfl, hw3⟩
          have HW4 := Lib.hid (HW2.out.trans (hw3.mono HW2.out.size))
          clear c3 hw3 HV
          go_wp2_with fail
          refine (cM w3).mono ?_
          rintro e w4 ⟨rfl, rfl⟩
          clear cM
          go_wp2_with fail
          refine (cP w4).mono ?_
          rintro e w5 ⟨rfl, rfl⟩
          clear cP
          go_wp2_with fail
          go_ret
          exact ⟨rfl, HW4.out⟩
      · have e9 := HV.out
        rw [if_neg (fun h => hmk h.1)] at e9
        subst e9
        obtain ⟨M, hM⟩ : ∃ M, markN v = M := ⟨_, rfl⟩
        rw [hM] at cM hmk
        have hcm : ((m : Int) != (M : Int)) = true := by rw [bne_iff_ne]; omega
        have hcq : ((m : Int) == (M : Int)) = false := by rw [beq_eq_false_iff_ne]; omega
        clear hmk hM
        go_wp2_with fail
        refine c3.mono ?_
        rintro e w3 ⟨rfl, hw3⟩
        have HW4 := Lib.hid (HW2.out.trans (hw3.mono HW2.out.size))
        clear c3 hw3 HV
        go_wp2_with fail
        refine (cM w3).mono ?_
        rintro e w4 ⟨rfl, rfl⟩
        clear cM
        go_wp2_with fail
        go_ret
        exact ⟨rfl, HW4.out⟩
    · have h4i : ¬ (headOf b : Int) = 4 := by omega
      have e9 := HE.out
      rw [if_neg (fun h => h4 h.2)] at e9
      subst e9
      clear HE h0 hrd2 hlen2 h4
      obtain ⟨q, hq⟩ : ∃ q, headOf b = q := ⟨_, rfl⟩
      rw [hq] at h4i ⊢
      clear hq
      have hcm : ((q : Int) != 4) = true := by rw [bne_iff_ne]; exact h4i
      have hcq : ((q : Int) == 4) = false := by rw [beq_eq_false_iff_ne]; exact h4i
      go_wp2_with fail
      go_ret
      exact ⟨rfl, HW2.out⟩
  · have c2 := Next_no 0 A n c w1.heap.size b w1 (by decide) hrd (Nat.le_refl _) HN.out (by have := HL.out; omega) hnc (by unfold maxLen; omega) h0
    have e9 := HE.out
    rw [if_neg (fun h => h0 h.1)] at e9
    subst e9
    have HW := Lib.hid hw1
    obtain ⟨q, hq⟩ : ∃ q, nxtErr 0 b = q := ⟨_, rfl⟩
    rw [hq] at c2
    clear hrd hw1 hnc hc HE h0 hq
    go_wp2_with fail
    refine c2.mono ?_
    rintro e w2 ⟨rfl, hw2⟩
    have HW2 := Lib.hid (HW.out.trans (hw2.mono HW.out.size))
    clear c2 hw2 HW
    go_wp2_with fail
    go_ret
    exact ⟨rfl, HW2.out⟩
theorem hdN_lt (s : List UInt8) (k : Nat) : hdN s k < 4294967296 := by
  have := valK_lt (nxtBody (bodyOf s)) 4
  unfold hdN
  split
  · split <;> omega
  · omega
/-- The greatest generation of a head that is right. -/
def newN (fl : List (List UInt8)) (ws : List (Nat × List UInt8)) : Nat := max (hdN (now fl ws 0) 0) (hdN (now fl ws 1) 1)
theorem newest_dr (h : Dr w base d o fl ws left) (h2 : 2 ≤ fl.length) :
    Calls Try.prog 34 #[.pointer (some ⟨d, 0, none⟩)] w fun e w' => e = .returned (.int .u32 (newN fl ws : Nat)) ∧ Below w.heap.size w w' := by
  have c1 := headAt_dr h 0 (by omega)
  have c2 := fun W (hW : Below w.heap.size w W) => headAt_dr (h.below hW) 1 (by omega)
  unfold newN
  obtain ⟨x, hx⟩ : ∃ x, hdN (now fl ws 0) 0 = x := ⟨_, rfl⟩
  obtain ⟨y, hy⟩ : ∃ y, hdN (now fl ws 1) 1 = y := ⟨_, rfl⟩
  rw [hx] at c1 ⊢
  rw [hy] at c2 ⊢
  clear h h2 hx hy
  go_enter Try.func34, Try.ntmps34
  go_wp2_with fail
  refine c1.mono ?_
  rintro e w1 ⟨rfl, hw1⟩
  have c3 := c2 w1 hw1
  have HW := Lib.hid hw1
  clear c1 c2 hw1
  go_wp2_with fail
  refine c3.mono ?_
  rintro e w2 ⟨rfl, hw2⟩
  have HW2 := Lib.hid (HW.out.trans (hw2.mono HW.out.size))
  clear c3 hw2 HW
  go_wp2_with fail
  all_goals
    go_ret
    refine ⟨?_, HW2.out⟩
    first | (rw [Nat.max_eq_right (by omega)]; rfl) | (rw [Nat.max_eq_left (by omega)]; rfl)
end
end Go.Proofs.Ytbaenpgjggojaaa
