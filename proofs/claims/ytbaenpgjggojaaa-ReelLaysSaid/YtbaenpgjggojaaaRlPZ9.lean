/-
The record that a run begins with, in a row of its own. Conditions: as in record.
What is found in a run: records, each behind the one ahead; a record takes no more sectors than the run has. No condition.
The records that a reel holds, in memory; how keep adds one. No condition of its own.
-/
import Derived.Test.YtbaenpgjggojaaaRlMZ9
namespace Go.Proofs.Ytbaenpgjggojaaa
open Go.ChangeShapes Go.WideShapes Go.RowKit

def RecPostL (s : Nat) (l : List UInt8) (w : World) (e : Ending) (w' : World) : Prop :=
  ∃ A k q, e = .returned (.tuple #[.slice A k q, .bool (recOf s l).isSome]) ∧ k ≤ q ∧ q ≤ maxLen ∧ OwnB w' w.heap.size (.slice A k q) k ((recOf s l).getD []) ∧ Below w.heap.size w w'
theorem recL_some {s : Nat} {l b : List UInt8} (e : recOf s l = some b) {A : Option Addr} {k q : Nat} {w w' : World} (h1 : k ≤ q) (h2 : q ≤ maxLen) (h3 : OwnB w' w.heap.size (.slice A k q) k b) (h5 : Below w.heap.size w w') :
    RecPostL s l w (.returned (.tuple #[.slice A k q, .bool true])) w' := by
  unfold RecPostL
  rw [e]
  exact ⟨A, k, q, rfl, h1, h2, h3, h5⟩
theorem recL_none {s : Nat} {l : List UInt8} {bb : Bool} (e : recOf s l = if bb then some [] else none) {w w' : World} (h5 : Below w.heap.size w w') :
    RecPostL s l w (.returned (.tuple #[.slice none 0 0, .bool bb])) w' := by
  unfold RecPostL
  rw [e]
  cases bb with
  | false => exact ⟨none, 0, 0, rfl, Nat.le_refl _, Nat.zero_le _, OwnB.nil_ _ _, h5⟩
  | true => exact ⟨none, 0, 0, rfl, Nat.le_refl _, Nat.zero_le _, OwnB.nil_ _ _, h5⟩
set_option maxRecDepth 20000 in
theorem record_own (s : Nat) (hs : s < 4294967296) (A : Option Addr) (n c B : Nat) (l : List UInt8) (w : World) (hR : Rd w B A l) (hB : B ≤ w.heap.size) (hn : l.length = n) (hm : n ≤ 140737488355328) (hnc : n ≤ c) (hc : c ≤ maxLen) :
    Calls Try.prog 69 #[.int .u32 (s : Int), .slice A n c] w (RecPostL s l w) := by
  by_cases h0 : nxtErr s l = 0
  · have c1 := NextL_yes s A n c B l w hs hR hB hn hm hnc hc h0
    have e9 : recOf s l = some (nxtBody l) := by unfold recOf; rw [if_pos h0]
    have HE := Lib.hid e9
    clear hR hB hn hm hnc hc h0 e9
    go_enter Try.func69, Try.ntmps69
    go_wp2_with fail
    refine c1.mono ?_
    rintro e w1 ⟨A1, k1, rfl, h1, h2, h3, h5⟩
    have HF := Lib.hid (And.intro h1 (And.intro h2 (And.intro h3 h5)))
    obtain ⟨q, hq⟩ : ∃ q, headOf l = q := ⟨_, rfl⟩
    rw [hq] at HF ⊢
    clear c1 h1 h2 h3 h5 hq
    go_wp2_with fail
    go_ret2
    obtain ⟨h1, h2, h3, h5⟩ := HF.out
    exact recL_some HE.out h1 h2 h3 h5
  · have c1 := Next_no s A n c B l w hs hR hB hn hm hnc hc h0
    have e9 : recOf s l = if (Crc.frm s []).isPrefixOf l then some [] else none := by unfold recOf; rw [if_neg h0]
    have c2 := fun W => Frame_any s none 0 0 0 [] W hs Rd.nil_ (Nat.zero_le _) rfl (Nat.zero_le _) (Nat.le_refl _)
    have c3 := fun W (hW : Below w.heap.size w W) q (hq : Blk W q 5 ((Crc.frm s []).map enc8).toArray) => HasPrefix_any (w := W) c 8 ((hR.more hB).below hW) (blk_rd hq) (by omega)
    have hfl : (Crc.frm s []).length = 8 := by rw [Crc.frm_length]; rfl
    rw [hn, hfl] at c3
    obtain ⟨bb, hbb⟩ : ∃ bb, (Crc.frm s []).isPrefixOf l = bb := ⟨_, rfl⟩
    rw [hbb] at c3 e9
    have HE := Lib.hid e9
    obtain ⟨q, hq⟩ : ∃ q, nxtErr s l = q := ⟨_, rfl⟩
    rw [hq] at c1
    clear hR hB hn hm hnc hc h0 e9 hbb hfl hq
    go_enter Try.func69, Try.ntmps69
    go_wp2_with fail
    refine c1.mono ?_
    rintro e w1 ⟨rfl, hb1⟩
    have HB1 := Lib.hid hb1
    clear c1 hb1
    go_wp2_with fail
    refine (c2 w1).mono ?_
    rintro e w2 ⟨rfl, hbk, hb2⟩
    have hbw2 := HB1.out.trans (hb2.mono HB1.out.size)
    have c4 := c3 w2 hbw2 _ hbk
    have HB2 := Lib.hid hbw2
    clear c2 c3 hbk hb2 hbw2
    go_wp2_with fail
    refine c4.mono ?_
    rintro e w3 ⟨rfl, hw3⟩
    subst hw3
    clear c4
    go_wp2_with fail
    go_ret2
    exact recL_none HE.out HB2.out
end Go.Proofs.Ytbaenpgjggojaaa
namespace Go.Proofs.Ytbaenpgjggojaaa
open Go.ChangeShapes Go.WideShapes Go.RowKit

/-- The records that a run has, from number k on. -/
inductive Founds (g : Nat) : Nat → List UInt8 → List (List UInt8) → Prop
  | stop {k : Nat} {l : List UInt8} : recOf (seedN g k) l = none → Founds g k l []
  | more {k : Nat} {l b : List UInt8} {L : List (List UInt8)} : recOf (seedN g k) l = some b → Founds g (k + 1) (l.drop (pagesN b.length * 254)) L → Founds g k l (b :: L)
theorem pages_fit {n j : Nat} (h : n + 8 ≤ 254 * j) : pagesN n * 254 ≤ 254 * j ∧ 1 ≤ pagesN n := by
  unfold pagesN
  omega
theorem rec_fit {s j : Nat} {l b : List UInt8} (h : recOf s l = some b) (hj : l.length = 254 * j) : pagesN b.length * 254 ≤ l.length ∧ b.length ≤ 100000 ∧ 1 ≤ pagesN b.length := by
  unfold recOf at h
  by_cases h0 : nxtErr s l = 0
  · rw [if_pos h0] at h
    injection h with h
    subst h
    unfold nxtErr at h0
    split at h0
    · cases h0
    · split at h0
      · cases h0
      · rename_i h8
        split at h0
        · cases h0
        · rename_i h9
          have hl : (nxtBody l).length = headOf l := by
            unfold nxtBody
            rw [List.length_take, List.length_drop]
            omega
          rw [hl]
          have := pages_fit (n := headOf l) (j := j) (by omega)
          omega
  · rw [if_neg h0] at h
    split at h
    · rename_i hp
      injection h with h
      subst h
      have h1 : (Crc.frm s []).length ≤ l.length := (List.isPrefixOf_iff_prefix.1 hp).length_le
      rw [Crc.frm_length] at h1
      simp only [List.length_nil] at h1 ⊢
      have := pages_fit (n := 0) (j := j) (by omega)
      omega
    · cases h
/-- So many sectors records take. -/
def usedN (L : List (List UInt8)) : Nat := (L.map fun p => pagesN p.length).sum
theorem usedN_snoc (L : List (List UInt8)) (p : List UInt8) : usedN (L ++ [p]) = usedN L + pagesN p.length := by
  unfold usedN
  rw [List.map_append, List.sum_append]
  simp
/-- What is found doesn't hang on who looks. -/
theorem Founds.one {g k : Nat} {l : List UInt8} {L : List (List UInt8)} (h : Founds g k l L) : ∀ {M : List (List UInt8)}, Founds g k l M → L = M := by
  induction h with
  | stop h0 =>
    intro M hM
    cases hM with
    | stop _ => rfl
    | more h1 _ => rw [h0] at h1; cases h1
  | more h0 _ ih =>
    intro M hM
    cases hM with
    | stop h1 => rw [h0] at h1; cases h1
    | more h1 h2 =>
      rw [h0] at h1
      injection h1 with h1
      subst h1
      rw [ih h2]
end Go.Proofs.Ytbaenpgjggojaaa
namespace Go.Proofs.Ytbaenpgjggojaaa
open Go.ChangeShapes Go.WideShapes Go.RowKit

theorem ownB_kept {w w' : World} {own : Nat → Prop} {b n : Nat} {v : Value} {l : List UInt8} (h : OwnB w b v n l) (hk : Kept own w w') (hn : ∀ q, v.ownBlock = some q → ¬ own q) : OwnB w' b v n l := by
  refine ⟨h.1, ?_⟩
  rcases h.2 with h2 | ⟨g, cap, cur, rfl, h2, h3, h4⟩
  · exact Or.inl h2
  · exact Or.inr ⟨g, cap, cur, rfl, h2, (hk.block g (Array.getElem?_eq_some_iff.1 h3).1 (hn g rfl)).trans h3, h4⟩
/-- A reel's records: its block, its row, each record a row of its own; the row keeps off the blocks av. -/
def Held (w0 : World) (r d g : Nat) (av : Nat → Prop) (Ls : List (List UInt8)) (u : Nat) (R : Option Addr) (c : Nat) (vals : List Value) (wr : World) : Prop :=
  Blk wr r 62 (rhead d g R Ls.length c u) ∧ OwnR wr w0.heap.size (.slice R Ls.length c) Ls.length vals ∧ vals.length = Ls.length ∧
    (∀ q, (Value.slice R Ls.length c).ownBlock = some q → q ≠ r ∧ ¬ av q) ∧
    (∀ (i : Nat) v b, vals[i]? = some v → Ls[i]? = some b → OwnB wr w0.heap.size v b.length b ∧ ∀ q, v.ownBlock = some q → q ≠ r ∧ (Value.slice R Ls.length c).ownBlock ≠ some q) ∧
    Kept (fun i => i = r) w0 wr
section
variable {w0 wr w1 w2 : World} {r d g u c p q base : Nat} {av : Nat → Prop} {Ls : List (List UInt8)} {R A : Option Addr} {vals : List Value} {b : List UInt8}
theorem Held.below (h : Held w0 r d g av Ls u R c vals wr) (hb : Below wr.heap.size wr w1) : Held w0 r d g av Ls u R c vals w1 := by
  obtain ⟨h1, h2, h3, h4, h5, h6⟩ := h
  exact ⟨h1.below hb h1.lt, h2.below hb, h3, h4, fun i v b hv hl => ⟨(h5 i v b hv hl).1.below hb, (h5 i v b hv hl).2⟩, h6.trans (Kept.of_below (own := fun i => i = r) hb) (fun _ _ h => h)⟩
/-- What keep leaves of a reel's records, where the record lies behind all of them. -/
theorem Held.keep {e : Ending} (h : Held w0 r d g av Ls u R c vals w1) (hb : Below w1.heap.size w1 w2) (hx : OwnB w2 w1.heap.size (.slice A b.length q) b.length b) (hav : ∀ i, av i → i < w1.heap.size)
    (hk : KeepPost w2 w0.heap.size d r g Ls.length u b.length R c vals (.slice A b.length q) e wr) :
    e = .returned (.tuple #[]) ∧ ∃ R' c', Held w0 r d g av (Ls ++ [b]) (u + pagesN b.length) R' c' (vals ++ [.slice A b.length q]) wr ∧ Kept (fun i => i = r ∨ (Value.slice R Ls.length c).ownBlock = some i) w2 wr := by
  obtain ⟨h1, h2, h3, h4, h5, h6⟩ := h.below hb
  obtain ⟨rfl, R', c', k1, k2, k3, k4⟩ := hk
  have hrl : r < w1.heap.size := h.1.lt
  have hlo : ∀ i, (Value.slice R Ls.length c).ownBlock = some i → i < w1.heap.size := fun i hi => (World.ownsRow.lt h.2.1 i hi).2
  have hxl : ∀ i, (Value.slice A b.length q).ownBlock = some i → w1.heap.size ≤ i ∧ i < w2.heap.size := fun i hi => World.ownsRow.lt hx i hi
  have e1 : (Ls ++ [b]).length = Ls.length + 1 := by simp
  refine ⟨rfl, R', c', ?_, k3⟩
  unfold Held
  rw [e1]
  refine ⟨k1, k2, by simp [h3], ?_, ?_, ?_⟩
  · intro i hi
    rcases k4 i hi with ho | ho
    · exact h4 i ho
    · have := hb.size
      exact ⟨by omega, fun ha => by have := hav i ha; omega⟩
  · intro i v y hv hy
    by_cases hil : i < Ls.length
    · rw [List.getElem?_append_left (by omega)] at hv hy
      obtain ⟨f1, f2⟩ := h5 i v y hv hy
      refine ⟨ownB_kept f1 k3 fun z hz => ?_, fun z hz => ⟨(f2 z hz).1, fun hn => ?_⟩⟩
      · rintro (e | e)
        · exact (f2 z hz).1 e
        · exact (f2 z hz).2 e
      · rcases k4 z hn with ho | ho
        · exact (f2 z hz).2 ho
        · have := (World.ownsRow.lt f1 z hz).2
          omega
    · have hi : i = Ls.length := by
        have := (List.getElem?_eq_some_iff.1 hy).1
        rw [e1] at this
        omega
      subst hi
      rw [List.getElem?_append_right (by omega)] at hv hy
      rw [h3] at hv
      simp only [Nat.sub_self, List.getElem?_cons_zero, Option.some.injEq] at hv hy
      subst hv
      subst hy
      refine ⟨(ownB_kept hx k3 fun z hz => ?_).low h.2.2.2.2.2.size, fun z hz => ⟨by have := hxl z hz; omega, fun hn => ?_⟩⟩
      · rintro (e | e)
        · have := hxl z hz
          omega
        · have := hxl z hz
          have := hlo z e
          omega
      · rcases k4 z hn with ho | ho
        · have := hxl z hz
          have := hlo z ho
          omega
        · have := hxl z hz
          omega
  · refine h6.trans k3 fun i hi ho => ?_
    rcases ho with ho | ho
    · exact ho
    · have := (World.ownsRow.lt h2 i ho).1
      omega
end
end Go.Proofs.Ytbaenpgjggojaaa
