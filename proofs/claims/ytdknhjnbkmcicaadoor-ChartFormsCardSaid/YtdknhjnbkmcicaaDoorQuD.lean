/-
  Copies: slices.Clone of bytes, a Quill's Done, Look. Conditions: the bytes are there, and not too many.
-/
import Derived.Test.YtdknhjnbkmcicaaDoorQuC
namespace Go.Proofs.YtdknhjnbkmcicaaDoor
open Go.RowKit

/-- A slice's bytes lie in block g. -/
def Rg (w : World) (g : Nat) (A : Option Addr) (l : List UInt8) : Prop :=
  0 < l.length → ∃ o, A = some ⟨g, o, none⟩ ∧ g < w.heap.size ∧ ∀ (j : Nat) u, l[j]? = some u → w.cell? ⟨g, o + j, none⟩ = some (.int .u8 (u.toNat : Int))
theorem Rg.nil_ {w : World} {g : Nat} {A : Option Addr} : Rg w g A [] := fun h => absurd h (by simp)
theorem Rg.rd {w : World} {g : Nat} {A : Option Addr} {l : List UInt8} (h : Rg w g A l) : Rd w w.heap.size A l := fun hn => by
  obtain ⟨o, e, hg, hc⟩ := h hn
  exact ⟨g, o, e, hg, hc⟩
theorem cell_block {w w' : World} {p : Addr} (h : w'.heap[p.block]? = w.heap[p.block]?) : w'.cell? p = w.cell? p := World.cell?_of_block h
theorem Rg.past {w w' : World} {g q : Nat} {r : Option Nat} {A : Option Addr} {l : List UInt8} (h : Rg w g A l) (hf : Far w w' q r) (h1 : g ≠ q) (h2 : r ≠ some g) : Rg w' g A l := fun hn => by
  obtain ⟨o, e, hg, hc⟩ := h hn
  exact ⟨o, e, Nat.lt_of_lt_of_le hg hf.2.2.2.1, fun j u hu => (World.cell?_of_block (hf.2.2.2.2 g hg h1 h2)).trans (hc j u hu)⟩
theorem Rg.past' {w w' : World} {g q : Nat} {r : Option Nat} {A : Option Addr} {l : List UInt8} (h : Rg w g A l) (hf : Far w w' q r) (h1 : g = q → l = []) (h2 : r ≠ some g) : Rg w' g A l := by
  by_cases e : g = q
  · rw [h1 e]
    exact Rg.nil_
  · exact h.past hf e h2
theorem Rg.below {w w' : World} {g : Nat} {A : Option Addr} {l : List UInt8} (h : Rg w g A l) (hb : Below w.heap.size w w') : Rg w' g A l := fun hn => by
  obtain ⟨o, e, hg, hc⟩ := h hn
  exact ⟨o, e, Nat.lt_of_lt_of_le hg hb.size, fun j u hu => (World.cell?_of_block (hb.block g hg)).trans (hc j u hu)⟩
theorem Rg.take {w : World} {g : Nat} {A : Option Addr} {l : List UInt8} (h : Rg w g A l) (k : Nat) : Rg w g A (l.take k) := fun hn => by
  have hn' : 0 < min k l.length := by simpa using hn
  obtain ⟨o, e, hg, hc⟩ := h (by omega)
  refine ⟨o, e, hg, fun j u hu => hc j u ?_⟩
  rw [List.getElem?_take] at hu
  split at hu
  · exact hu
  · cases hu
theorem Rg.cut {w : World} {g : Nat} {A : Option Addr} {l : List UInt8} (h : Rg w g A l) {k cap : Nat} (hc : l.length ≤ cap) : Rg w g (if cap = k then A else A.map (·.add k)) (l.drop k) := fun hn => by
  have hn' : 0 < l.length - k := by simpa using hn
  obtain ⟨o, rfl, hg, hcell⟩ := h (by omega)
  rw [if_neg (by omega)]
  refine ⟨o + k, by simp [go_sem], hg, fun j u hu => ?_⟩
  rw [Nat.add_assoc]
  exact hcell _ u (by rw [← hu, List.getElem?_drop])
theorem own_rg {w : World} {base : Nat} {v : Value} {n : Nat} {l : List UInt8} (h : OwnB w base v n l) (d : Nat) (hd : base ≤ d) :
    l.length = n ∧ ∃ A c g, v = .slice A n c ∧ n ≤ c ∧ c ≤ maxLen ∧ base ≤ g ∧ Rg w g A l ∧ (A = none → c = 0) ∧ (v.ownBlock = some g ∨ (l = [] ∧ g = d)) := by
  have hl : l.length = n := by have := h.1; simpa using this
  refine ⟨hl, ?_⟩
  have h' := h
  unfold OwnB at h'
  rcases h'.2 with ⟨rfl, rfl⟩ | ⟨g, cap, cur, rfl, hb, hg, hnc, hcm, _⟩
  · have e : l = [] := List.eq_nil_of_length_eq_zero hl
    exact ⟨_, _, d, rfl, Nat.le_refl _, by decide, hd, by rw [e]; exact Rg.nil_, fun _ => rfl, .inr ⟨e, rfl⟩⟩
  · refine ⟨_, _, g, rfl, hnc, hcm, hb, fun _ => ⟨0, rfl, (Array.getElem?_eq_some_iff.1 hg).1, fun j u hu => ?_⟩, (fun e => nomatch e), .inl rfl⟩
    have := World.ownsRow.cells h' (g := g) rfl j (enc8 u) (by simp [hu])
    simpa [go_sem, enc8] using this

/-- A copy: a slice of the call's own. -/
def ClPost (w : World) (l : List UInt8) (e : Ending) (w' : World) : Prop := ∃ v, e = .returned v ∧ OwnB w' w.heap.size v l.length l ∧ Below w.heap.size w w'

set_option maxHeartbeats 400000 in
theorem Clone8_any (A : Option Addr) (n c Bd : Nat) (l : List UInt8) (w : World) (hR : Rd w Bd A l) (hn : l.length = n) (hm : n ≤ 140737488355328) (hB : Bd ≤ w.heap.size) (hA : A = none → n = 0 ∧ c = 0) :
    Calls Tryd.prog 43 #[.slice A n c] w (ClPost w l) := by
  rcases A with _ | ad
  · obtain ⟨rfl, rfl⟩ := hA rfl
    obtain rfl : l = [] := List.eq_nil_of_length_eq_zero hn
    clear hR hn hA
    have heq := fun W : World => Lib.run_eql_slice_nil W 27 5 none 0 0 0 0 Tryd.underlying27
    go_enter Tryd.func43, Tryd.ntmps43
    go_wp2_with fail
    go_ret
    exact ⟨_, rfl, OwnB.nil_ _ _, Below.refl _ _⟩
  · have HN := Lib.hid hn
    clear hn hA
    have heq := fun W : World => Lib.run_eql_slice_nil W 27 5 (some ad) n c 0 0 Tryd.underlying27
    go_enter Tryd.func43, Tryd.ntmps43
    have HO : Hid (OwnB (w.alloc (.cells #[] 5)) w.heap.size (.slice (some ⟨w.heap.size, 0, none⟩) 0 0) 0 []) := Lib.hid (World.ownsRow_lit w #[] 0 (Nat.le_refl _) (by decide) (by simp))
    have HR := Lib.hid (hR.alloc hB (.cells #[] 5))
    go_wp2_with (with_reducible refine wpList_append_bytes (o := ⟨some 7, _, _, _, _, _⟩) rfl (.tmp 5) (.tmp 6) rfl w.heap.size (.slice (some ⟨w.heap.size, 0, none⟩) 0 0) 0 [] ?h1 HO.out Bd (some ad) n c l ?h2 HR.out HN.out ?h3 ?h4 ?_)
    case h1 => rfl
    case h2 => rfl
    case h3 => omega
    case h4 => simp
    intro v' w1 hown hg
    have hbw : Below w.heap.size w w1 := hg.below HO.out ((Below.refl _ w).alloc (Nat.le_refl _) _) (Nat.le_refl _) (by simp)
    have HOW := Lib.hid hown
    clear hown hg heq HO HR hR
    go_wp2
    go_ret
    exact ⟨_, rfl, by rw [HN.out]; exact HOW.out, hbw⟩

def DPost (w : World) (l : List UInt8) (e : Ending) (w' : World) : Prop := (∃ A g, e = .returned (.slice A l.length l.length) ∧ (A = none → l.length = 0) ∧ w.heap.size ≤ g ∧ Rg w' g A l) ∧ Below w.heap.size w w'

set_option maxRecDepth 20000 in
set_option maxHeartbeats 400000 in
theorem QDone_any (B q : Nat) (r : Option Nat) (l : List UInt8) (hl : l.length ≤ 1000000) (w : World) (h : Qu w B q r l) :
    Calls Tryd.prog 24 #[.pointer (some ⟨q, 0, none⟩)] w (DPost w l) := by
  obtain ⟨hB, v, hk, ho, hr⟩ := h
  obtain ⟨_, A, c, g, rfl, hc1, hc2, _, hrg, hAn, _⟩ := own_rg ho B (Nat.le_refl _)
  have c0 := hk.cell 0
  simp at c0
  have hC := Clone8_any A l.length c w.heap.size l w hrg.rd rfl (by omega) (Nat.le_refl _) (fun e => ⟨by have := hAn e; omega, hAn e⟩)
  clear hk ho hr hrg hAn
  go_enter Tryd.func24, Tryd.ntmps24
  go_wp2_with fail
  refine hC.mono ?_
  rintro e w1 ⟨v1, rfl, hown, hb1⟩
  obtain ⟨_, A1, c1, g1, rfl, hd1, hd2, hg1, hrg1, hAn1, hgo⟩ := own_rg hown w1.heap.size hb1.size
  have HRG := Lib.hid hrg1
  have HB := Lib.hid hb1
  have HGO := Lib.hid hgo
  have HOW := Lib.hid hown
  have HAN := Lib.hid hAn1
  clear hrg1 hb1 hgo hown hC c0 hAn1
  unfold maxLen at hd2
  go_wp2_with fail
  go_ret
  exact ⟨⟨A1, g1, rfl, fun e => by have := HAN.out e; omega, hg1, HRG.out⟩, HB.out⟩

/-- A Lens in block b: what is left lies in block g; none: it isn't right. -/
def Ln (w : World) (b g : Nat) : Option (List UInt8) → Prop
  | none => Blk w b 95 #[.slice none 0 0, .bool true]
  | some l => ∃ A c, l.length ≤ c ∧ c ≤ maxLen ∧ (A = none → c = 0) ∧ l.length ≤ 1000000 ∧ Blk w b 95 #[.slice A l.length c, .bool false] ∧ Rg w g A l ∧ (g = b → l = [])
theorem Ln.past {w w' : World} {b g q : Nat} {r : Option Nat} {st : Option (List UInt8)} (h : Ln w b g st) (hf : Far w w' q r) (h1 : b ≠ q) (h2 : r ≠ some b) (h3 : g ≠ q) (h4 : r ≠ some g) : Ln w' b g st := by
  cases st with
  | none => exact Blk.past h hf h1 h2
  | some l =>
    obtain ⟨A, c, a1, a2, a3, a4, a5, a6, a7⟩ := h
    exact ⟨A, c, a1, a2, a3, a4, a5.past hf h1 h2, a6.past hf h3 h4, a7⟩
theorem Ln.below {w w' : World} {b g : Nat} {st : Option (List UInt8)} (h : Ln w b g st) (hb : Below w.heap.size w w') : Ln w' b g st := by
  cases st with
  | none => exact Blk.below h hb (Blk.lt h)
  | some l =>
    obtain ⟨A, c, a1, a2, a3, a4, a5, a6, a7⟩ := h
    exact ⟨A, c, a1, a2, a3, a4, a5.below hb a5.lt, a6.below hb, a7⟩
theorem Ln.lt {w : World} {b g : Nat} {st : Option (List UInt8)} (h : Ln w b g st) : b < w.heap.size := by
  cases st with
  | none => exact Blk.lt h
  | some l =>
    obtain ⟨A, c, a1, a2, a3, a4, a5, a6, a7⟩ := h
    exact a5.lt
theorem Ln.drew {w : World} {b g : Nat} {st : Option (List UInt8)} (h : Ln w b g st) : Ln w.drew b g st := by
  cases st with
  | none => exact h
  | some l => exact h

def LookPost (w : World) (l : List UInt8) (e : Ending) (w' : World) : Prop := ∃ b g, e = .returned (.pointer (some ⟨b, 0, none⟩)) ∧ w.heap.size ≤ b ∧ w.heap.size ≤ g ∧ g < w'.heap.size ∧ Ln w' b g (some l) ∧ Below w.heap.size w w'

set_option maxRecDepth 20000 in
set_option maxHeartbeats 400000 in
theorem Look_any (A : Option Addr) (n c Bd : Nat) (l : List UInt8) (w : World) (hR : Rd w Bd A l) (hn : l.length = n) (hm : n ≤ 1000000) (hB : Bd ≤ w.heap.size) (hA : A = none → n = 0 ∧ c = 0) :
    Calls Tryd.prog 29 #[.slice A n c] w (LookPost w l) := by
  have hC := Clone8_any A n c Bd l w hR hn (by omega) hB hA
  have HC := Lib.hid hC
  have HN := Lib.hid hn
  clear hC hR hn hA
  go_enter Tryd.func29, Tryd.ntmps29
  go_wp2_with fail
  refine HC.out.mono ?_
  rintro e w1 ⟨v1, rfl, hown, hb1⟩
  obtain ⟨_, A1, c1, g1, rfl, hd1, hd2, hg1, hrg1, hAn1, hgo⟩ := own_rg hown w1.heap.size hb1.size
  have HRG := Lib.hid hrg1
  have HB := Lib.hid hb1
  have HGO := Lib.hid hgo
  have HOW := Lib.hid hown
  have HAN := Lib.hid hAn1
  clear hrg1 hb1 hgo hown hAn1
  go_wp2_with fail
  go_ret
  refine ⟨w1.heap.size, g1, rfl, HB.out.size, hg1, ?_, ⟨A1, c1, hd1, hd2, HAN.out, by rw [HN.out]; exact hm, Blk.new w1 _ _, HRG.out.below ((Below.refl _ w1).alloc (Nat.le_refl _) _), fun e => ?_⟩, HB.out.alloc HB.out.size _⟩
  · rcases HGO.out with h | ⟨_, h⟩
    · have := (World.ownsRow.lt HOW.out _ h).2
      simp
      omega
    · simp
      omega
  · rcases HGO.out with h | ⟨h, _⟩
    · have := (World.ownsRow.lt HOW.out _ h).2
      omega
    · exact h
end Go.Proofs.YtdknhjnbkmcicaaDoor
