/-
A slice of bytes among a law's arguments, opened. No condition.
-/
import Derived.Test.YtpbfipeinblfgaaGreatDoorShutAQ9
namespace Go.Proofs.YtpbfipeinblfgaaGreatDoor
open Go.ChangeShapes Go.WideShapes Go.ChangeAt Go.RowKit

theorem cellsB : Tryz.prog.cellsOf 5 = 1 := by kernel_rfl
theorem bytesB : Tryz.prog.bytesOf 5 = 1 := by kernel_rfl

section
variable {H : Type} {enc : TypeId × Value → H} {W W' : World}
/-- The bytes of numbers. -/
def bytesOf (zs : List Int) : List UInt8 := zs.map fun z => UInt8.ofNat z.toNat
theorem bytesOf_at {zs : List Int} (hz : ∀ z ∈ zs, (Lit.int .u8 z).wf = true) {j : Nat} {u : UInt8} (hu : (bytesOf zs)[j]? = some u) : j < zs.length ∧ (u.toNat : Int) = zs.getD j 0 := by
  rw [bytesOf, List.getElem?_map] at hu
  obtain ⟨z, hzj, rfl⟩ := Option.map_eq_some_iff.1 hu
  have hj : j < zs.length := by
    rcases Nat.lt_or_ge j zs.length with h | h
    · exact h
    · rw [List.getElem?_eq_none h] at hzj; cases hzj
  refine ⟨hj, ?_⟩
  have hm : z ∈ zs := List.mem_of_getElem? hzj
  have hw := hz z hm
  simp only [Lit.wf, IntKind.min, IntKind.max, IntKind.signed, IntKind.bits, Bool.and_eq_true] at hw
  have e : (UInt8.ofNat z.toNat).toNat = z.toNat % 256 := UInt8.toNat_ofNat' ..
  rw [e, List.getD_eq_getElem?_getD, hzj]
  simp at hw ⊢
  omega

set_option maxRecDepth 100000 in
/-- An argument that is a slice of bytes. -/
theorem open_bytes {b0 : Nat} {v : Value} {d : DataW H} {p : List MemPlace} (hval : Value.okWide Tryz.prog W .any b0 30 v) (h : DataW.Trod enc Tryz.prog W 0 (fun _ => true) true 30 v d p) (hlt : ∀ x ∈ p, x.block < W.heap.size)
    {ts : List TypeId} {ds : List (DataW H)} (hsz : (DataW.weightsEach Tryz.prog ts ds).all (· ≤ reachBytes) = true) {j : Nat} (ht : ts[j]? = some 30) (hd : ds[j]? = some d) :
    ∃ A n c l, v = .slice A n c ∧ l.length = n ∧ n ≤ c ∧ c ≤ maxLen ∧ n ≤ 140737488355328 ∧ Rd W W.heap.size A l := by
  obtain ⟨a0, len, cap, rfl⟩ := okWide_slice Tryz.underlying30 hval
  obtain ⟨fuel, hf⟩ := h
  rcases open_ints Tryz.underlying30 Tryz.underlying5 cellsB hf with ⟨hcs, hx⟩ | ⟨a, len', cap', zs, hcs, _, hl, hm, hz, hx, hcell, hwz⟩
  · simp [Value.cells] at hcs
    obtain ⟨rfl, rfl, rfl⟩ := hcs
    exact ⟨Option.none, 0, 0, [], rfl, rfl, Nat.le_refl _, by decide, by decide, Rd.nil_⟩
  · simp [Value.cells] at hcs
    obtain ⟨rfl, rfl, rfl⟩ := hcs
    simp only [Prod.mk.injEq] at hx
    obtain ⟨rfl, rfl⟩ := hx
    simp only [if_true] at hz
    have hreach : len ≤ 140737488355328 := by
      have := sized_slice hsz (j := j) (t := 30) (e := 5) ht hd Tryz.underlying30
      rw [bytesB] at this
      simp only [lits, List.length_map, List.length_take, List.length_drop, reachBytes] at this
      omega
    refine ⟨some a, len, cap, bytesOf (zs.take len), rfl, by rw [bytesOf, List.length_map, List.length_take]; omega, hl, hm, hreach, fun h0 => ?_⟩
    have h0' : 0 < len := by
      rw [bytesOf, List.length_map, List.length_take] at h0
      omega
    obtain ⟨b, off, spot⟩ := a
    have hspot : spot = Option.none := by simpa [Addr.add] using World.cell?_spot (hcell 0 (by omega))
    subst hspot
    refine ⟨b, off, rfl, hlt (.cell b off) (MemPlace.mem_row.2 ⟨0, by omega, by simp⟩), fun j u hu => ?_⟩
    obtain ⟨hj, hv⟩ := bytesOf_at (fun z hz' => hwz z (List.mem_of_mem_take hz')) hu
    rw [List.length_take] at hj
    have hc := hcell j (by omega)
    rw [add_plain] at hc
    rw [hc, hv]
    congr 2
    rw [List.getD_eq_getElem?_getD, List.getD_eq_getElem?_getD, List.getElem?_take_of_lt (by omega)]
end
end Go.Proofs.YtpbfipeinblfgaaGreatDoor
