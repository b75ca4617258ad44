/-
Open. Conditions: a drum that isn't armed, of a thousand sectors at most; room for its writes.
-/
import Derived.Test.YtbaenpgjggojaaaRlQZ9
namespace Go.Proofs.Ytbaenpgjggojaaa
open Go.ChangeShapes Go.WideShapes Go.RowKit

theorem Dr.olt {w : World} {base d : Nat} {o : Nat → Prop} {fl : List (List UInt8)} {ws : List (Nat × List UInt8)} {left : Int} (h : Dr w base d o fl ws left) : ∀ i, o i → i < w.heap.size := by
  obtain ⟨f, g, V, cv, T, ls, h, -, rfl⟩ := h
  rintro i (e | e | e | ⟨a, e, rfl⟩)
  · subst e; exact h.head.lt
  · subst e; exact h.rows.lt
  · subst e; exact h.last.lt
  · subst e
    exact (World.ownsRow.lt h.row a.block rfl).2
theorem Dr.keep9 {w w' : World} {own : Nat → Prop} {base d : Nat} {o : Nat → Prop} {fl : List (List UInt8)} {ws : List (Nat × List UInt8)} {left : Int} (h : Dr w base d o fl ws left) (hk : Kept own w w') (hn : ∀ i, o i → ¬ own i) : Dr w' base d o fl ws left := by
  obtain ⟨f, g, V, cv, T, ls, h, hr, rfl⟩ := h
  exact ⟨f, g, V, cv, T, ls, h.keep hk hn, hr, rfl⟩
/-- A reel's records, its blocks behind B. -/
def HeldAt (B r d g : Nat) (Ls : List (List UInt8)) (u : Nat) (R : Option Addr) (c : Nat) (vals : List Value) (wr : World) : Prop :=
  Blk wr r 62 (rhead d g R Ls.length c u) ∧ OwnR wr B (.slice R Ls.length c) Ls.length vals ∧ vals.length = Ls.length ∧
    (∀ q, (Value.slice R Ls.length c).ownBlock = some q → q ≠ r) ∧
    (∀ (i : Nat) v b, vals[i]? = some v → Ls[i]? = some b → OwnB wr B v b.length b ∧ ∀ q, v.ownBlock = some q → q ≠ r ∧ (Value.slice R Ls.length c).ownBlock ≠ some q)
section
variable {w w0 w1 w2 wr : World} {r d g u c B : Nat} {av own : Nat → Prop} {Ls : List (List UInt8)} {R : Option Addr} {vals : List Value}
theorem Held.at_ (h : Held w0 r d g av Ls u R c vals wr) : HeldAt w0.heap.size r d g Ls u R c vals wr :=
  ⟨h.1, h.2.1, h.2.2.1, fun q hq => (h.2.2.2.1 q hq).1, h.2.2.2.2.1⟩
theorem ownR_kept {b n : Nat} {v : Value} {l : List Value} (h : OwnR w1 b v n l) (hk : Kept own w1 w2) (hn : ∀ q, v.ownBlock = some q → ¬ own q) : OwnR w2 b v n l := by
  refine ⟨h.1, ?_⟩
  rcases h.2 with h2 | ⟨g, cap, cur, rfl, h2, h3, h4⟩
  · exact Or.inl h2
  · exact Or.inr ⟨g, cap, cur, rfl, h2, (hk.block g (Array.getElem?_eq_some_iff.1 h3).1 (hn g rfl)).trans h3, h4⟩
theorem HeldAt.kept (h : HeldAt B r d g Ls u R c vals w1) (hk : Kept own w1 w2) (ho : ∀ i, own i → i < r) (hB : r ≤ B) : HeldAt B r d g Ls u R c vals w2 := by
  obtain ⟨h1, h2, h3, h4, h5⟩ := h
  refine ⟨(hk.block r h1.lt fun e => by have := ho r e; omega).trans h1, ownR_kept h2 hk fun q hq e => ?_, h3, h4, fun i v b hv hl => ⟨ownB_kept (h5 i v b hv hl).1 hk fun q hq e => ?_, (h5 i v b hv hl).2⟩⟩
  · have := ho q e
    have := (World.ownsRow.lt h2 q hq).1
    omega
  · have := ho q e
    have := (World.ownsRow.lt (h5 i v b hv hl).1 q hq).1
    omega
/-- What is no block of a reel's. -/
def Off (o : Nat → Prop) (r : Nat) (R : Option Addr) (n c : Nat) (vals : List Value) : Prop :=
  ¬ o r ∧ (∀ q, (Value.slice R n c).ownBlock = some q → ¬ o q) ∧ ∀ v, v ∈ vals → ∀ q, v.ownBlock = some q → ¬ o q
theorem HeldAt.lt (h : HeldAt B r d g Ls u R c vals w) (hB : r ≤ B) : ∀ i, (i = r ∨ (Value.slice R Ls.length c).ownBlock = some i ∨ ∃ v, v ∈ vals ∧ v.ownBlock = some i) → r ≤ i ∧ i < w.heap.size := by
  obtain ⟨h1, h2, h3, -, h5⟩ := h
  rintro i (e | e | ⟨v, hv, e⟩)
  · rw [e]; exact ⟨Nat.le_refl _, h1.lt⟩
  · have := World.ownsRow.lt h2 i e; omega
  · obtain ⟨k, hk, rfl⟩ := List.getElem_of_mem hv
    obtain ⟨b, hb⟩ : ∃ b, Ls[k]? = some b := ⟨_, List.getElem?_eq_getElem (by omega)⟩
    have := World.ownsRow.lt (h5 k _ b (List.getElem?_eq_getElem hk) hb).1 i e
    omega
theorem HeldAt.off {o : Nat → Prop} (h : HeldAt B r d g Ls u R c vals w) (hB : r ≤ B) (ho : ∀ i, r ≤ i → i < w.heap.size → ¬ o i) : Off o r R Ls.length c vals :=
  ⟨by have := h.lt hB r (.inl rfl); exact ho r this.1 this.2, fun q hq => by have := h.lt hB q (.inr (.inl hq)); exact ho q this.1 this.2, fun v hv q hq => by have := h.lt hB q (.inr (.inr ⟨v, hv, hq⟩)); exact ho q this.1 this.2⟩
/-- The blocks of a reel and of its drum. -/
def Mine (o : Nat → Prop) (r : Nat) (R : Option Addr) (n c : Nat) (vals : List Value) : Nat → Prop :=
  fun i => o i ∨ i = r ∨ (Value.slice R n c).ownBlock = some i ∨ ∃ v, v ∈ vals ∧ v.ownBlock = some i
/-- A reel on a drum that isn't armed: its records in memory, its drum; own: the blocks of both. -/
def Rl (w : World) (base d r g : Nat) (own : Nat → Prop) (fl : List (List UInt8)) (ws : List (Nat × List UInt8)) (Ls : List (List UInt8)) : Prop :=
  ∃ o R c vals, Dr w base d o fl ws (-1) ∧ HeldAt (r + 1) r d g Ls (usedN Ls) R c vals w ∧ Off o r R Ls.length c vals ∧ own = Mine o r R Ls.length c vals
end
def OpenOk (w : World) (base d : Nat) (o : Nat → Prop) (fl : List (List UInt8)) (ws : List (Nat × List UInt8)) (r : Nat) (w' : World) : Prop :=
  ∃ j L own fl' ws', 6 ≤ fl.length ∧ w.heap.size ≤ r ∧ newN fl ws ≠ 0 ∧ L ≠ [] ∧ j ≤ halfN fl.length ∧ (∀ i, i < j → markOf (now fl ws (startN fl.length (newN fl ws) + i)) = 165) ∧
    (j = halfN fl.length ∨ markOf (now fl ws (startN fl.length (newN fl ws) + j)) ≠ 165) ∧ Founds (newN fl ws) 0 (preL fl ws (startN fl.length (newN fl ws)) j) L ∧ usedN L ≤ j ∧
    Rl w' base d r (newN fl ws) own fl' ws' L ∧ Kept o w w' ∧ (∀ i, i < w.heap.size → own i → o i) ∧ fl'.length = fl.length ∧ ws'.length ≤ ws.length + fl.length ∧
    ∀ i, now fl' ws' i = if startN fl.length (newN fl ws) + usedN L ≤ i ∧ i < startN fl.length (newN fl ws) + halfN fl.length then zeros else now fl ws i
/-- Why Open errs. -/
def OpenErr (fl : List (List UInt8)) (ws : List (Nat × List UInt8)) (k : Nat) : Prop :=
  (k = 1 ∧ fl.length < 6) ∨ ((k = 3 ∨ k = 5) ∧ 6 ≤ fl.length ∧ newN fl ws = 0) ∨ (k = 2 ∧ 6 ≤ fl.length ∧ newN fl ws ≠ 0 ∧ ∃ j, j ≤ halfN fl.length ∧ (∀ i, i < j → markOf (now fl ws (startN fl.length (newN fl ws) + i)) = 165) ∧
    (j = halfN fl.length ∨ markOf (now fl ws (startN fl.length (newN fl ws) + j)) ≠ 165) ∧ Founds (newN fl ws) 0 (preL fl ws (startN fl.length (newN fl ws)) j) [])
def OpenPost (w : World) (base d : Nat) (o : Nat → Prop) (fl : List (List UInt8)) (ws : List (Nat × List UInt8)) (e : Ending) (w' : World) : Prop :=
  (∃ k, OpenErr fl ws k ∧ e = .returned (.tuple #[.pointer none, errV k]) ∧ Below w.heap.size w w') ∨
  (∃ r, e = .returned (.tuple #[.pointer (some ⟨r, 0, none⟩), .nilIface]) ∧ OpenOk w base d o fl ws r w')
section
variable {w : World} {base d : Nat} {o : Nat → Prop} {fl : List (List UInt8)} {ws : List (Nat × List UInt8)}
theorem open_err {w w' : World} {base d : Nat} {o : Nat → Prop} {fl : List (List UInt8)} {ws : List (Nat × List UInt8)} (k : Nat) (hk : OpenErr fl ws k) (h0 : k ≠ 0) (hb : Below w.heap.size w w') :
    OpenPost w base d o fl ws (.returned (.tuple #[.pointer none, .iface 54 (.int .i64 (k : Int))])) w' :=
  .inl ⟨k, hk, by unfold errV; rw [if_neg h0], hb⟩
set_option maxRecDepth 20000 in
set_option maxHeartbeats 4000000 in
theorem Open_dr (h : Dr w base d o fl ws (-1)) (h1k : fl.length ≤ 1000) (hws : ws.length + fl.length ≤ 999999) :
    Calls Try.prog 21 #[.pointer (some ⟨d, 0, none⟩)] w (OpenPost w base d o fl ws) := by
  have cH := holds_dr h
  have HD := Lib.hid h
  have HK := Lib.hid (And.intro h1k hws)
  unfold errV at cH
  by_cases h6 : fl.length < 6
  · rw [if_pos h6, if_neg (by decide)] at cH
    have H6 := Lib.hid h6
    clear h h1k hws h6
    go_enter Try.func21, Try.ntmps21
    go_wp2_with fail
    refine cH.mono ?_
    rintro e w1 ⟨rfl, hw1⟩
    have HW1 := Lib.hid hw1
    clear cH hw1
    go_wp2_with fail
    go_ret2
    exact open_err 1 (.inl ⟨rfl, H6.out⟩) (by decide) (by rw [HW1.out]; exact Below.refl _ _)
  · rw [if_neg h6, if_pos rfl] at cH
    have cN := newest_dr h (by omega)
    have H6 := Lib.hid (show 6 ≤ fl.length by omega)
    obtain ⟨g, hg⟩ : ∃ g, newN fl ws = g := ⟨_, rfl⟩
    have hglt : g < 4294967296 := by
      rw [← hg]
      unfold newN
      have := hdN_lt (now fl ws 0) 0
      have := hdN_lt (now fl ws 1) 1
      omega
    rw [hg] at cN
    have HG := Lib.hid (And.intro hg hglt)
    clear h h1k hws h6 hg hglt
    go_enter Try.func21, Try.ntmps21
    go_wp2_with fail
    refine cH.mono ?_
    rintro e w1 ⟨rfl, hw1⟩
    subst hw1
    clear cH
    go_wp2_with fail
    refine cN.mono ?_
    rintro e w2 ⟨rfl, hb2⟩
    have HB2 := Lib.hid hb2
    clear cN hb2
    by_cases h0 : g = 0
    · have cC := clean_dr (HD.out.below HB2.out) 0 2 (by have := H6.out; omega)
      subst h0
      go_wp2_with fail
      refine cC.mono ?_
      rintro e w3 ⟨⟨b, rfl, -⟩, hw3⟩
      have HW3 := Lib.hid hw3
      clear cC hw3
      cases b with
      | true =>
        go_wp2_with fail
        go_ret2
        exact open_err 3 (.inr (.inl ⟨.inl rfl, H6.out, HG.out.1⟩)) (by decide) (by rw [HW3.out]; exact HB2.out)
      | false =>
        go_wp2_with fail
        go_ret2
        exact open_err 5 (.inr (.inl ⟨.inr rfl, H6.out, HG.out.1⟩)) (by decide) (by rw [HW3.out]; exact HB2.out)
    · have hgi : ¬ (g : Int) = 0 := by omega
      have hgb : ((g : Int) == 0) = false := by rw [beq_eq_false_iff_ne]; exact hgi
      have HG0 := Lib.hid h0
      have hr3 := Blk.new w2 62 (rhead d g none 0 0 0)
      have hb3 : Below w1.heap.size w1 (w2.alloc (.cells (rhead d g none 0 0 0) 62)) := HB2.out.alloc HB2.out.size _
      have hd3 := HD.out.below hb3
      have cF := find_dr hr3 HG.out.2 hd3 (by have := H6.out; omega) HK.out.1
      have hs3 : (w2.alloc (.cells (rhead d g none 0 0 0) 62)).heap.size = w2.heap.size + 1 := by simp
      have HB3 := Lib.hid hb3
      have HD3 := Lib.hid hd3
      have HS3 := Lib.hid hs3
      clear h0 hr3 hb3 hd3 hs3
      go_wp2_with fail
      refine cF.mono ?_
      rintro e w4 ⟨rfl, j, L, u, R, c, vals, hj, hm, he, hfo, hu, hheld⟩
      have hkp := hheld.2.2.2.2.2
      obtain ⟨c0, -, c2, -⟩ := rhead_cells hheld.1
      have hb4 : Below w1.heap.size w1 w4 := HB3.out.trans (hkp.below (by have := HB3.out.size; exact this) fun i hi e => by have := HB2.out.size; omega)
      have HB4 := Lib.hid hb4
      have HH := Lib.hid hheld
      have HJ := Lib.hid (And.intro hj (And.intro hm (And.intro he (And.intro hfo hu))))
      have HKP := Lib.hid hkp
      clear cF hj hm he hfo hheld hkp hb4
      by_cases hL : L = []
      · subst hL
        clear hu
        go_wp2_with fail
        go_ret2
        refine open_err 2 (.inr (.inr ⟨rfl, H6.out, by rw [HG.out.1]; exact HG0.out, j, ?_⟩)) (by decide) HB4.out
        rw [HG.out.1]
        exact ⟨HJ.out.1, HJ.out.2.1, HJ.out.2.2.1, HJ.out.2.2.2.1⟩
      · have hl0 : ¬ (L.length : Int) = 0 := by
          have : L.length ≠ 0 := fun e => hL (List.eq_nil_of_length_eq_zero e)
          omega
        have hlb : ((L.length : Int) == 0) = false := by rw [beq_eq_false_iff_ne]; exact hl0
        have HLL := Lib.hid hL
        have hd4 := HD3.out.keep HKP.out (fun i hi e => by have := HD.out.lt i hi; have := HB2.out.size; omega)
        have cW := wipeRest_dr HH.out.1 hd4 (by have := H6.out; omega) (fun hi => by have := HD.out.lt _ hi; have := HB2.out.size; omega) (by have := HJ.out; omega) HK.out.2
        clear hL hd4 hu
        go_wp2_with fail
        refine cW.mono ?_
        rintro e w5 ⟨rfl, fl', ws', hdk, hfl, hwl, hnw⟩
        have HF : Hid (OpenOk w1 base d o fl ws w2.heap.size w5) := Lib.hid (by
          obtain ⟨o5, hd5, hk5, ho5⟩ := hdk
          have hk4 : Kept o w1 w4 := (Kept.of_below (own := o) HB3.out).trans HKP.out fun i hi e => by have := HB2.out.size; omega
          have hat := HH.out.at_
          rw [HS3.out] at hat
          unfold OpenOk
          rw [HG.out.1]
          have hju := HJ.out.2.2.2.2
          have hat5 := hat.kept hk5 (fun i hi => by have := HD.out.lt i hi; have := HB2.out.size; omega) (by omega)
          have hoff : Off o5 w2.heap.size R L.length c vals := hat.off (by omega) fun i hi hlt h9 => by
            have := HD.out.lt i (ho5 i hlt h9)
            have := HB2.out.size
            omega
          have hu9 := hju.2
          subst hu9
          refine ⟨j, L, _, fl', ws', H6.out, HB2.out.size, HG0.out, HLL.out, HJ.out.1, HJ.out.2.1, HJ.out.2.2.1, HJ.out.2.2.2.1, hju.1, ⟨o5, R, c, vals, hd5, hat5, hoff, rfl⟩, hk4.trans hk5 (fun i _ h => h), ?_, hfl, ?_, hnw⟩
          · rintro i hi (h | h)
            · exact ho5 i (Nat.lt_of_lt_of_le hi hk4.size) h
            · have := hat.lt (by omega) i h
              have := HB2.out.size
              omega
          have h9 : startN fl.length g + halfN fl.length ≤ fl.length := by
            unfold startN halfN
            have := H6.out
            rcases Nat.mod_two_eq_zero_or_one g with h | h <;> rw [h] <;> omega
          omega)
        clear cW hdk hfl hwl hnw c0 c2
        go_wp2_with fail
        go_ret2
        exact .inr ⟨_, rfl, HF.out⟩
end
end Go.Proofs.Ytbaenpgjggojaaa
