/-
  Slices of whole numbers: what they read as; a copy of one onto a row of the call's own; one among a law's arguments, opened. No condition.
-/
import Derived.Test.YtabiaeicejgeiaaGreatDoorShutA
import Derived.Laws.AppendOwnNone
namespace Go.Proofs.YtabiaeicejgeiaaGreatDoor
open Go.ChangeShapes Go.WideShapes Go.ChangeAt Go.RowKit

/-- A slice that reads as these values, each of one cell. -/
def Rv (w : World) (B : Nat) (A : Option Addr) (l : List Value) : Prop :=
  0 < l.length → ∃ b o, A = some ⟨b, o, none⟩ ∧ b < B ∧ ∀ (j : Nat) u, l[j]? = some u → w.cell? ⟨b, o + j, none⟩ = some u
section
variable {w w' : World} {B B' : Nat} {A : Option Addr} {l : List Value}
theorem Rv.nil_ : Rv w B A [] := fun h => absurd h (by simp)
theorem Rv.at_ {k : Nat} (h : Rv w B A l) (hk : k < l.length) : ∃ b o, A = some ⟨b, o, none⟩ ∧ b < B ∧ w.cell? ⟨b, o + k, none⟩ = some (l[k]'hk) := by
  obtain ⟨b, o, e, hb, hc⟩ := h (by omega)
  exact ⟨b, o, e, hb, hc k _ (List.getElem?_eq_getElem hk)⟩
theorem Rv.keep (h : Rv w B A l) (hk : ∀ p : Addr, p.block < B → w'.cell? p = w.cell? p) : Rv w' B A l := fun hn => by
  obtain ⟨b, o, e, hb, hc⟩ := h hn
  exact ⟨b, o, e, hb, fun j u hu => (hk _ hb).trans (hc j u hu)⟩
theorem Rv.more (h : Rv w B A l) (hB : B ≤ B') : Rv w B' A l := fun hn => by
  obtain ⟨b, o, e, hb, hc⟩ := h hn
  exact ⟨b, o, e, by omega, hc⟩
theorem Rv.below (h : Rv w B A l) (hb : Below B w w') : Rv w' B A l := h.keep fun _ hp => hb.cell hp
theorem Rv.take (h : Rv w B A l) (k : Nat) : Rv w B A (l.take k) := fun hn => by
  obtain ⟨b, o, e, hb, hc⟩ := h (by rw [List.length_take] at hn; omega)
  refine ⟨b, o, e, hb, fun j u hu => hc j u ?_⟩
  rw [List.getElem?_take] at hu
  split at hu
  · exact hu
  · cases hu
end

def encI (n : Int) : Value := .int .i64 n
theorem encI_one (l : List Int) : ∀ u ∈ l.map encI, u.oneCell' = true := by
  intro u hu
  obtain ⟨x, _, rfl⟩ := List.mem_map.1 hu
  rfl
theorem infoI : (Tryz.prog.info? 2).map (fun i => (i.zero, i.size, i.bytes)) = some (some (.int .i64 0), 1, 8) := by kernel_rfl
def OwnI (w : World) (base : Nat) (v : Value) (n : Nat) (l : List Int) : Prop := w.ownsRow base 2 1 v n (l.map encI)

theorem Rv.of_ownI {w : World} {base n c : Nat} {A : Option Addr} {l : List Int} (h : OwnI w base (.slice A n c) n l) : Rv w w.heap.size A (l.map encI) := fun hn => by
  rw [List.length_map] at hn
  have hln : l.length = n := by have := h.1; simpa using this
  obtain ⟨g, cap, hv, _, hlt⟩ := World.ownsRow.form h (by omega)
  have hA : A = some ⟨g, 0, none⟩ := by injection hv
  subst hA
  refine ⟨g, 0, rfl, hlt, fun j u hu => ?_⟩
  have := World.ownsRow.cells h (g := g) rfl j u hu
  simpa [go_sem] using this
theorem own_formI {w : World} {base : Nat} {v : Value} {n : Nat} {l : List Int} (h : OwnI w base v n l) :
    l.length = n ∧ ∃ A c, v = .slice A n c ∧ n ≤ c ∧ c ≤ maxLen ∧ Rv w w.heap.size A (l.map encI) := by
  have hl : l.length = n := by have := h.1; simpa using this
  refine ⟨hl, ?_⟩
  rcases h.2 with ⟨rfl, rfl⟩ | ⟨g, cap, cur, rfl, _, _, hnc, hcm, _⟩
  · exact ⟨_, _, rfl, Nat.le_refl _, by decide, by obtain rfl : l = [] := List.eq_nil_of_length_eq_zero hl; exact Rv.nil_⟩
  · exact ⟨_, _, rfl, hnc, hcm, Rv.of_ownI h⟩

section
variable {H : Type} {enc : TypeId × Value → H} {W : World}
theorem cellsI : Tryz.prog.cellsOf 2 = 1 := by kernel_rfl
theorem bytesI : Tryz.prog.bytesOf 2 = 8 := by kernel_rfl
end
end Go.Proofs.YtabiaeicejgeiaaGreatDoor
