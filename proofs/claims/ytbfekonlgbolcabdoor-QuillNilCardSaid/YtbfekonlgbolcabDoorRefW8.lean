/-
  The reference's Take of layer 8. Conditions: the bytes are there, a value in its kinds.
-/
import Derived.Test.YtbfekonlgbolcabDoorRefV8
namespace Go.Proofs.YtbfekonlgbolcabDoor
open Go.RowKit

/-- What is taken off the front, and what is left. -/
def takeM (l : List UInt8) (v : Val) : Option (Val × List UInt8) :=
  match numT l with
  | none => none
  | some (mark, N, r) =>
    if v.k % 4 = 0 then (if mark = false ∧ N ≤ v.m then some (⟨v.k, N, 0, noS, 0⟩, r) else none)
    else if v.k % 4 = 1 then (if N < 9223372036854775808 then some (⟨v.k, 0, if mark then -1 - (N : Int) else N, noS, 0⟩, r) else none)
    else if v.k % 4 = 2 then (if mark = false ∧ N ≤ 1 then some (⟨v.k, N, 0, noS, 0⟩, r) else none)
    else (if mark = false ∧ N ≤ v.m ∧ N ≤ r.length then some (⟨v.k, 0, 0, ⟨(r.take N).toArray⟩, 0⟩, r.drop N) else none)
def RTPost (w : World) (B k : Nat) (o : Option (Val × List UInt8)) (e : Ending) (w' : World) : Prop :=
  match o with
  | none => e = .returned (.tuple #[(⟨k, 0, 0, noS, 0⟩ : Val).enc, .slice none 0 0, .bool false]) ∧ Below w.heap.size w w'
  | some (x, r) => ∃ A2 c2, e = .returned (.tuple #[x.enc, .slice A2 r.length c2, .bool true]) ∧ r.length ≤ c2 ∧ c2 ≤ maxLen ∧ Rd w' B A2 r ∧ Below w.heap.size w w'

set_option maxRecDepth 20000 in
theorem RTake_any (v : Val) (hk : v.k < 256) (hm : v.m < 18446744073709551616) (A : Option Addr) (n c B : Nat) (l : List UInt8) (w : World) (hR : Rd w B A l) (hB : B ≤ w.heap.size) (hn : l.length = n) (hc : n ≤ c) (hcm : c ≤ maxLen) :
    Calls Tryd.prog 11 #[.slice A n c, v.enc] w (RTPost w B v.k (takeM l v)) := by
  obtain ⟨k, u, i, s, m⟩ := v
  simp only at hk hm
  unfold takeM Val.enc
  simp only
  rcases hN : numT l with _ | ⟨mark, N, r⟩
  · exact RTake_none k u m i s hk hm A n c B l w hR hB hn hc hcm hN
  · simp only
    by_cases h0 : k % 4 = 0
    · have hk0 : (k : Int) % 4 = 0 := by omega
      rw [if_pos h0]
      cases mark with
      | true => rw [if_neg (by simp)]; exact RTake_k0m k u m i s hk hm A n c B l w hR hB hn hc hcm hk0 N r hN
      | false =>
        by_cases h1 : N ≤ m
        · rw [if_pos ⟨rfl, h1⟩]; exact RTake_k0y k u m i s hk hm A n c B l w hR hB hn hc hcm hk0 N r hN (by omega)
        · rw [if_neg (fun h => h1 h.2)]; exact RTake_k0n k u m i s hk hm A n c B l w hR hB hn hc hcm hk0 N r hN (by omega)
    · rw [if_neg h0]
      by_cases h1 : k % 4 = 1
      · have hk0 : (k : Int) % 4 = 1 := by omega
        rw [if_pos h1]
        by_cases h2 : N < 9223372036854775808
        · rw [if_pos h2]
          cases mark with
          | true => exact RTake_k1m k u m i s hk hm A n c B l w hR hB hn hc hcm hk0 N r hN (by omega)
          | false => exact RTake_k1y k u m i s hk hm A n c B l w hR hB hn hc hcm hk0 N r hN (by omega)
        · rw [if_neg h2]; exact RTake_k1n k u m i s hk hm A n c B l w hR hB hn hc hcm hk0 mark N r hN (by omega)
      · rw [if_neg h1]
        by_cases h2 : k % 4 = 2
        · have hk0 : (k : Int) % 4 = 2 := by omega
          rw [if_pos h2]
          cases mark with
          | true => rw [if_neg (by simp)]; exact RTake_k2m k u m i s hk hm A n c B l w hR hB hn hc hcm hk0 N r hN
          | false =>
            by_cases h3 : N ≤ 1
            · rw [if_pos ⟨rfl, h3⟩]; exact RTake_k2y k u m i s hk hm A n c B l w hR hB hn hc hcm hk0 N r hN (by omega)
            · rw [if_neg (fun h => h3 h.2)]; exact RTake_k2n k u m i s hk hm A n c B l w hR hB hn hc hcm hk0 N r hN (by omega)
        · have hk0 : (k : Int) % 4 = 3 := by omega
          rw [if_neg h2]
          cases mark with
          | true => rw [if_neg (by simp)]; exact RTake_k3m k u m i s hk hm A n c B l w hR hB hn hc hcm hk0 N r hN
          | false =>
            by_cases h3 : N ≤ m
            · by_cases h4 : N ≤ r.length
              · rw [if_pos ⟨rfl, h3, h4⟩]; exact RTake_k3y k u m i s hk hm A n c B l w hR hB hn hc hcm hk0 N r hN (by omega) (by omega)
              · rw [if_neg (fun h => h4 h.2.2)]; exact RTake_k3s k u m i s hk hm A n c B l w hR hB hn hc hcm hk0 N r hN (by omega) (by omega)
            · rw [if_neg (fun h => h3 h.2.1)]; exact RTake_k3n k u m i s hk hm A n c B l w hR hB hn hc hcm hk0 N r hN (by omega)
end Go.Proofs.YtbfekonlgbolcabDoor
