/-
  SeamRows: rows of bytes beside a row that grows; frames one behind the other. No condition.
-/
import Derived.Test.YtbfekonlgbolcabDoorRowsR
import Derived.Test.YtbfekonlgbolcabDoorRefQ
import Derived.Test.YtbfekonlgbolcabDoorFrm
import Derived.Test.YtbfekonlgbolcabDoorCodeC
namespace Go.Proofs.YtbfekonlgbolcabDoor
open Go.RowKit

/-- A slice that reads as these bytes, in a block of bytes. -/
def RB (w : World) (A : Option Addr) (l : List UInt8) : Prop :=
  0 < l.length → ∃ g o, A = some ⟨g, o, none⟩ ∧ (∃ cs, Blk w g 5 cs) ∧ ∀ (j : Nat) u, l[j]? = some u → w.cell? ⟨g, o + j, none⟩ = some (.int .u8 (u.toNat : Int))
theorem RB.nil_ {w : World} {A : Option Addr} : RB w A [] := fun h => absurd h (by simp)
theorem RB.rd {w : World} {A : Option Addr} {l : List UInt8} (h : RB w A l) : Rd w w.heap.size A l := fun hn => by
  obtain ⟨g, o, e, ⟨cs, hb⟩, hc⟩ := h hn
  exact ⟨g, o, e, hb.lt, hc⟩
theorem RB.below {w w' : World} {A : Option Addr} {l : List UInt8} (h : RB w A l) (hb : Below w.heap.size w w') : RB w' A l := fun hn => by
  obtain ⟨g, o, e, ⟨cs, hk⟩, hc⟩ := h hn
  exact ⟨g, o, e, ⟨cs, hk.below hb hk.lt⟩, fun j u hu => (hb.cell (p := ⟨g, o + j, none⟩) hk.lt).trans (hc j u hu)⟩
theorem RB.grown {w w' : World} {A : Option Addr} {l : List UInt8} {base n : Nat} {v : Value} {vals : List Value} (h : RB w A l) (ho : OwnR w base v n vals) (hg : w.grownBy w' v.ownBlock) : RB w' A l := fun hn => by
  obtain ⟨g, o, e, ⟨cs, hk⟩, hc⟩ := h hn
  have hne : some g ≠ v.ownBlock := by
    intro he
    rcases ho.2 with ⟨hv, _⟩ | ⟨g', cap, cur, hv, _, hg', _⟩
    · subst hv; cases he
    · subst hv
      simp only [Value.ownBlock, Option.some.injEq] at he
      subst he
      unfold Blk at hk
      rw [hk] at hg'
      simp at hg'
  have hbl := hg.block g hk.lt hne
  exact ⟨g, o, e, ⟨cs, hbl.trans hk⟩, fun j u hu => (World.cell?_of_block hbl).trans (hc j u hu)⟩
theorem RB.of_own {w : World} {base n : Nat} {v : Value} {l : List UInt8} (h : OwnB w base v n l) : ∃ A c, v = .slice A l.length c ∧ l.length ≤ c ∧ c ≤ maxLen ∧ RB w A l := by
  have hl : l.length = n := by have := h.1; simpa using this
  rcases h.2 with ⟨rfl, h0⟩ | ⟨g, cap, cur, rfl, _, hg, hnc, hcm, _⟩
  · obtain rfl : l = [] := List.eq_nil_of_length_eq_zero (by omega)
    exact ⟨none, 0, rfl, Nat.le_refl _, by decide, RB.nil_⟩
  · refine ⟨some ⟨g, 0, none⟩, cap, by rw [hl], by omega, hcm, fun _ => ⟨g, 0, rfl, ⟨cur, hg⟩, fun j u hu => ?_⟩⟩
    have := World.ownsRow.cells h (g := g) rfl j (enc8 u) (by simp [hu])
    simpa [go_sem, enc8] using this
theorem RB.of_blk {w : World} {g : Nat} {l : List UInt8} (h : Blk w g 5 (l.map enc8).toArray) : RB w (some ⟨g, 0, none⟩) l := fun _ =>
  ⟨g, 0, rfl, ⟨_, h⟩, fun j u hu => by rw [h.cell]; simp [hu, enc8]⟩

/-- Frames one behind the other, of seeds that follow each other. -/
def frs (s : Nat) : Nat → List (List UInt8) → List UInt8
  | _, [] => []
  | i, p :: ps => Crc.frm ((s + i) % 4294967296) p ++ frs s (i + 1) ps
theorem frs_snoc (s : Nat) (p : List UInt8) : ∀ (ps : List (List UInt8)) (i : Nat), frs s i (ps ++ [p]) = frs s i ps ++ Crc.frm ((s + (i + ps.length)) % 4294967296) p
  | [], i => by simp [frs]
  | q :: ps, i => by
    rw [List.cons_append, frs, frs_snoc s p ps (i + 1), frs, List.append_assoc, List.length_cons, show i + 1 + ps.length = i + (ps.length + 1) by omega]
theorem frs_le (s : Nat) : ∀ (ps : List (List UInt8)) (i : Nat), (∀ p ∈ ps, p.length ≤ 41) → (frs s i ps).length ≤ 49 * ps.length
  | [], _, _ => by simp [frs]
  | q :: ps, i, h => by
    have h1 := frs_le s ps (i + 1) (fun p hp => h p (List.mem_cons_of_mem _ hp))
    have h2 := h q List.mem_cons_self
    rw [frs, List.length_append, Crc.frm_length, List.length_cons]
    omega
theorem blank_app (a b : List UInt8) : isBlank (a ++ b) = (isBlank a && isBlank b) := by simp [isBlank]
theorem wrd_blank' (x : Nat) (hx : x < 4294967296) : isBlank (Crc.wrd x) = decide (x = 0) := by
  by_cases h : x = 0
  · subst h; decide
  · rw [decide_eq_false h]
    simp only [isBlank, Crc.wrd, List.all_cons, List.all_nil, Bool.and_true, Crc.ofNat_toNat]
    by_cases h0 : x % 256 = 0 <;> by_cases h1 : x / 256 % 256 = 0 <;> by_cases h2 : x / 65536 % 256 = 0 <;> by_cases h3 : x / 16777216 % 256 = 0 <;> simp [h0, h1, h2, h3]
    omega
theorem frm_some' (s : Nat) (l m : List UInt8) (h : l.length ≠ 0) (hl : l.length < 4294967296) : isBlank (Crc.frm s l ++ m) = false := by
  rw [frm_eq, List.append_assoc, List.append_assoc, blank_app, wrd_blank' _ hl, decide_eq_false h]
  rfl
/-- A frame of bytes at the front is told. -/
theorem nxt_front (s : Nat) (l m : List UInt8) (h0 : l.length ≠ 0) (hl : l.length ≤ 100000) : nxtErr s (Crc.frm s l ++ m) = 0 := by
  rw [nxt_frm s s l m hl, frm_some' s l m h0 (by omega)]
  simp
/-- What a round makes of a row. -/
def pk (r : Rw) : List UInt8 := 1 :: r.l.take 40
theorem pk_len (r : Rw) : 1 ≤ (pk r).length ∧ (pk r).length ≤ 41 := by
  unfold pk
  rw [List.length_cons, List.length_take]
  omega
end Go.Proofs.YtbfekonlgbolcabDoor
