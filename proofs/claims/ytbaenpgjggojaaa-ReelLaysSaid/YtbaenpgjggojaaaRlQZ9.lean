/-
find: the records of a run. Conditions: a reel in memory that has none yet; its drum of two sectors at least, and a thousand at most.
-/
import Derived.Test.YtbaenpgjggojaaaRlPZ9
namespace Go.Proofs.Ytbaenpgjggojaaa
open Go.ChangeShapes Go.WideShapes Go.RowKit

/-- Bytes that are read, in a block of which something is known. -/
def RdQ (w : World) (av : Nat → Prop) (A : Option Addr) (l : List UInt8) : Prop :=
  0 < l.length → ∃ b o, A = some ⟨b, o, none⟩ ∧ b < w.heap.size ∧ av b ∧ ∀ (j : Nat) u, l[j]? = some u → w.cell? ⟨b, o + j, none⟩ = some (.int .u8 (u.toNat : Int))
section
variable {w w' : World} {av own : Nat → Prop} {A : Option Addr} {l : List UInt8}
theorem RdQ.rd (h : RdQ w av A l) : Rd w w.heap.size A l := fun hn => by
  obtain ⟨b, o, e, hb, _, hc⟩ := h hn
  exact ⟨b, o, e, hb, hc⟩
theorem RdQ.kept (h : RdQ w av A l) (hk : Kept own w w') (hn : ∀ b, av b → ¬ own b) : RdQ w' av A l := fun h0 => by
  obtain ⟨b, o, e, hb, ha, hc⟩ := h h0
  exact ⟨b, o, e, Nat.lt_of_lt_of_le hb hk.size, ha, fun j u hu => (World.cell?_of_block (hk.block b hb (hn b ha))).trans (hc j u hu)⟩
theorem RdQ.below (h : RdQ w av A l) (hb : Below w.heap.size w w') : RdQ w' av A l := h.kept (own := fun _ => False) (Kept.of_below hb) fun _ _ h => h
theorem RdQ.cut (h : RdQ w av A l) {k cap : Nat} (hc : l.length ≤ cap) : RdQ w av (if cap = k then A else A.map (·.add k)) (l.drop k) := fun hn => by
  have hn' : 0 < l.length - k := by simpa using hn
  obtain ⟨b, o, rfl, hb, ha, hcell⟩ := h (by omega)
  rw [if_neg (by omega)]
  refine ⟨b, o + k, by simp [go_sem], hb, ha, fun j u hu => ?_⟩
  rw [Nat.add_assoc]
  exact hcell _ u (by rw [← hu, List.getElem?_drop])
theorem RdQ.of_own {base n c : Nat} (h : OwnB w base (.slice A n c) n l) : RdQ w (fun i => (Value.slice A n c).ownBlock = some i) A l := fun hn => by
  have hln : l.length = n := own_lenW h
  obtain ⟨g, cap, hv, _, hlt⟩ := World.ownsRow.form h (by omega)
  have hA : A = some ⟨g, 0, none⟩ := by injection hv
  subst hA
  exact ⟨g, 0, rfl, hlt, rfl, fun j u hu => by
    have := World.ownsRow.cells h (g := g) rfl j (enc8 u) (by rw [List.getElem?_map, hu]; rfl)
    simpa [go_sem, enc8] using this⟩
end
def slen : Value → Nat
  | .slice _ n _ => n
  | _ => 0
def FindPost (w : World) (r d g : Nat) (fl : List (List UInt8)) (ws : List (Nat × List UInt8)) (a N : Nat) (e : Ending) (w' : World) : Prop :=
  e = .returned (.tuple #[]) ∧ ∃ j L u R c vals, j ≤ N ∧ (∀ i, i < j → markOf (now fl ws (a + i)) = 165) ∧ (j = N ∨ markOf (now fl ws (a + j)) ≠ 165) ∧ Founds g 0 (preL fl ws a j) L ∧ (u ≤ j ∧ u = usedN L) ∧
    Held w r d g (fun _ => False) L u R c vals w'
/-- What stands between two rounds. -/
def FindRel (w w1 : World) (r d g j : Nat) (l0 : List UInt8) (av : Nat → Prop) (v : Value) (wr : World) : Prop :=
  ∃ Ls u R c vals A m q rest, v = .slice A m q ∧ m ≤ q ∧ q ≤ maxLen ∧ rest.length = m ∧ m + 254 * u = 254 * j ∧ RdQ wr av A rest ∧ Held w r d g av Ls u R c vals wr ∧ (Ls.length ≤ u ∧ u = usedN Ls) ∧ w1.heap.size ≤ wr.heap.size ∧
    ∀ L, Founds g Ls.length rest L → Founds g 0 l0 (Ls ++ L)
theorem seedN_lt (g k : Nat) : seedN g k < 4294967296 := Crc.chk_lt _ _
section
variable {w : World} {base d r g : Nat} {o : Nat → Prop} {fl : List (List UInt8)} {ws : List (Nat × List UInt8)} {left : Int}
set_option maxRecDepth 20000 in
set_option maxHeartbeats 4000000 in
theorem find_dr (hr : Blk w r 62 (rhead d g none 0 0 0)) (hg : g < 4294967296) (h : Dr w base d o fl ws left) (h2 : 2 ≤ fl.length) (h1k : fl.length ≤ 1000) :
    Calls Try.prog 52 #[.pointer (some ⟨r, 0, none⟩)] w (FindPost w r d g fl ws (startN fl.length g) (halfN fl.length)) := by
  have cR := run_dr hr h h2
  obtain ⟨a, ha⟩ : ∃ a, startN fl.length g = a := ⟨_, rfl⟩
  obtain ⟨N, hN⟩ : ∃ N, halfN fl.length = N := ⟨_, rfl⟩
  have hNk : N ≤ 500 := by rw [← hN]; unfold halfN; omega
  rw [ha, hN] at cR ⊢
  have HR := Lib.hid hr
  have HG := Lib.hid hg
  clear h hr h2 h1k ha hN hg
  go_enter Try.func52, Try.ntmps52
  go_wp2_with fail
  refine cR.mono ?_
  rintro e w1 ⟨v, j, rfl, hj, hm, he, hown, hb⟩
  obtain ⟨hln, A, c, rfl, hc1, hc2, -⟩ := own_form hown
  have hq := RdQ.of_own hown
  obtain ⟨av, hav⟩ : ∃ av : Nat → Prop, (fun i => (Value.slice A (254 * j) c).ownBlock = some i) = av := ⟨_, rfl⟩
  have hav1 : ∀ i, av i → w.heap.size ≤ i ∧ i < w1.heap.size := by
    rw [← hav]
    intro i hi
    exact World.ownsRow.lt hown i hi
  rw [hav] at hq
  have HAV := Lib.hid hav1
  have HJ := Lib.hid (And.intro hj (And.intro hm he))
  have h0 : FindRel w w1 r d g j (preL fl ws a j) av (.slice A (254 * j) c) w1 := by
    refine ⟨[], 0, none, 0, [], A, 254 * j, c, preL fl ws a j, rfl, hc1, hc2, hln, by omega, hq, ?_, ⟨Nat.le_refl _, rfl⟩, Nat.le_refl _, fun L hL => hL⟩
    have hnone : ∀ q, (Value.slice none 0 0).ownBlock = some q → False := fun q hq => by simp [Value.ownBlock] at hq
    unfold Held
    refine ⟨HR.out.below hb HR.out.lt, ?_, rfl, ?_, ?_, Kept.of_below hb⟩
    · exact (World.ownsRow_nil _ _ _ _ : w1.ownsRow w.heap.size 35 1 (.slice none 0 0) 0 [])
    · intro q hq
      exact absurd hq (fun hq => hnone q hq)
    · intro i v b hv hl
      rw [List.getElem?_nil] at hv
      cases hv
  have H0 := Lib.hid h0
  clear cR hj hm he hown hb hln hc1 hc2 hq hav hav1 h0
  go_wp2_with fail
  go_loopw [2, 3, 4] (fun v _ _ wr => FindRel w w1 r d g j (preL fl ws a j) av v wr) (fun v _ _ _ => slen v)
  case atStart => exact H0.out
  case round =>
    obtain ⟨Ls, u, R, c9, vals, A, m, q, rest, rfl, hmq, hqx, hrl, hmj, hrq, hheld, hlu, hsz, hfo⟩ := hrel
    have hj1 := HJ.out.1
    have cS := seed_any hheld.1 HG.out (n := Ls.length) (by omega)
    have HH := Lib.hid hheld
    have HQ := Lib.hid hrq
    have HM := Lib.hid (And.intro hmq (And.intro hqx (And.intro hrl (And.intro hmj (And.intro hlu (And.intro hsz hfo))))))
    have hs9 := seedN_lt g Ls.length
    obtain ⟨s, hs⟩ : ∃ s, seedN g Ls.length = s := ⟨_, rfl⟩
    rw [hs] at cS hs9
    have HS := Lib.hid hs
    clear hheld hrq hmq hqx hrl hmj hlu hsz hfo hs
    go_wp2_with fail
    refine cS.mono ?_
    rintro e w2 ⟨rfl, hb2⟩
    have HH2 := Lib.hid (HH.out.below hb2)
    have HQ2 := Lib.hid (HQ.out.below hb2)
    have HZ2 : Hid (w1.heap.size ≤ w2.heap.size) := Lib.hid (Nat.le_trans HM.out.2.2.2.2.2.1 hb2.size)
    have cT := record_own s hs9 A m q w2.heap.size rest w2 HQ2.out.rd (Nat.le_refl _) HM.out.2.2.1 (by have := HM.out; omega) HM.out.1 HM.out.2.1
    clear cS hb2 HH HQ hs9
    go_wp2_with fail
    refine cT.mono ?_
    rintro e w3 ⟨A3, k3, q3, rfl, hk3, hq3, hown3, hb3⟩
    clear cT
    rcases hrec : recOf s rest with _ | b
    · rw [hrec] at hown3
      have HF : Hid (FindPost w r d g fl ws a N (.returned (.tuple #[])) w3) := Lib.hid (by
        have hh := HH2.out.below hb3
        refine ⟨rfl, j, Ls, u, R, c9, vals, hj1, HJ.out.2.1, HJ.out.2.2, ?_, ⟨by have := HM.out; omega, HM.out.2.2.2.2.1.2⟩, ?_⟩
        · have := HM.out.2.2.2.2.2.2 [] (.stop (by rw [HS.out]; exact hrec))
          rwa [List.append_nil] at this
        · obtain ⟨g1, g2, g3, g4, g5, g6⟩ := hh
          exact ⟨g1, g2, g3, fun q hq => ⟨(g4 q hq).1, fun h => h⟩, g5, g6⟩)
      clear hown3 hb3 hrec hk3 hq3
      simp only [Option.isSome_none]
      go_wp2_with fail
      go_end0
      exact HF.out
    · rw [hrec] at hown3
      have hown4 : OwnB w3 w2.heap.size (.slice A3 k3 q3) k3 b := hown3
      have hk : b.length = k3 := own_lenW hown4
      subst hk
      obtain ⟨hfit1, hfit2, hfit3⟩ := rec_fit (j := j - u) hrec (by have := HM.out; omega)
      have hh3 := HH2.out.below hb3
      have hz3 : w.heap.size ≤ w3.heap.size := hh3.2.2.2.2.2.size
      have cK := keep_any (p := b.length) (q := q3) (A := A3) hh3.1 hh3.2.1 hz3 (fun e => (hh3.2.2.2.1 r e).1 rfl) (by have := HM.out; omega) (by have := HM.out; omega) hfit2
      have HO4 := Lib.hid hown4
      have HB3 := Lib.hid hb3
      have HFIT := Lib.hid (And.intro hfit1 (And.intro hfit2 hfit3))
      have HREC := Lib.hid hrec
      have hbl : (b.length : Int) ≤ 100000 := by omega
      clear hown3 hown4 hb3 hrec hk3 hq3 hh3 hz3 hfit1 hfit2 hfit3
      simp only [Option.isSome_some]
      go_wp2_with fail
      refine cK.mono ?_
      intro e w4 hkp
      obtain ⟨rfl, R', c', hheld4, hkept4⟩ := HH2.out.keep HB3.out HO4.out (fun i hi => Nat.lt_of_lt_of_le (HAV.out i hi).2 HZ2.out) hkp
      have cP := fun W => Pages_any b.length (by have := HFIT.out; omega) W
      obtain ⟨P, hP⟩ : ∃ P, pagesN b.length = P := ⟨_, rfl⟩
      rw [hP] at cP hheld4 HFIT
      obtain ⟨t, ht⟩ : ∃ t, P * 254 = t := ⟨_, rfl⟩
      rw [ht] at HFIT
      have htm : t ≤ m := by have := HM.out; have := HFIT.out; omega
      have htc : t ≤ q := by have := HM.out; omega
      have hti : (P : Int) * 254 = (t : Int) := by omega
      have ht1 : (t : Int) ≤ (m : Int) := by omega
      have ht2 : (m : Int) ≤ (q : Int) := by have := HM.out; omega
      have ht3 : (t : Int) ≤ (q : Int) := by omega
      have hm3 : (m : Int) ≤ 140737488355328 := by have := HM.out; omega
      have hq4 : RdQ w4 av A rest := (HQ2.out.below HB3.out).kept hkept4 fun i hi => by
        rintro (e | e)
        · have := (HAV.out i hi).1
          have := HR.out.lt
          omega
        · exact (HH2.out.2.2.2.1 i e).2 hi
      have HREL : Hid (FindRel w w1 r d g j (preL fl ws a j) av (.slice (if q = t then A else A.map (·.add t)) (m - t) (q - t)) w4) := Lib.hid (by
        obtain ⟨m1, m2, m3, m4, m5, m6, m7⟩ := HM.out
        refine ⟨Ls ++ [b], u + P, R', c', _, _, m - t, q - t, rest.drop t, rfl, by omega, by omega, by rw [List.length_drop]; omega, by omega, hq4.cut (by omega), hheld4, ⟨by simp; have := HFIT.out.2.2; omega, by rw [usedN_snoc, hP, m5.2]⟩, Nat.le_trans HZ2.out (Nat.le_trans HB3.out.size hkept4.size), ?_⟩
        intro L hL
        rw [List.append_assoc]
        refine m7 _ (.more (b := b) (by rw [HS.out]; exact HREC.out) ?_)
        rw [hP, ht]
        simpa using hL)
      have hmt : m - t ≤ m := by omega
      have HMT : Hid (1 ≤ t) := Lib.hid (by have := HFIT.out.2.2; omega)
      have HTM := Lib.hid htm
      clear cK hkp hheld4 hkept4 hP ht hq4 htm htc
      go_wp2_with fail
      refine (cP _).mono ?_
      rintro e w5 ⟨rfl, rfl⟩
      clear cP
      go_wp2_with fail
      refine ⟨HREL.out, ?_⟩
      show m - t < m
      have := HMT.out
      have := HTM.out
      omega
end
end Go.Proofs.Ytbaenpgjggojaaa
