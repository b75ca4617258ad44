/-
  bits.Len64 for the seats that have no Mul64 (else XDivB has it): Go's own text is walked. No condition but the number's kind.
-/
import Derived.Test.YtdknhjnbkmcicaaDoorProg
import Derived.Lib.BitFns
import Derived.WalkKit
import Derived.WalkSpells
import Derived.Lib.Strings
import Derived.Lib.Slices
import Derived.Lib.Small
import Derived.Lib.Walk
import Derived.Lib.Hide
import Derived.Deep.Light
namespace Go.Proofs.YtdknhjnbkmcicaaDoor
open Go.RowKit

set_option maxRecDepth 100000 in
theorem tab_size : (Lib.len8tab.size : Int) = 256 := by
  have : Lib.len8tab.size = 256 := by decide
  omega
/-- The table's entry is the length of a byte. -/
theorem tab_at (y : Int) (h0 : 0 ≤ y) (h1 : y ≤ 255) (h : y.toNat < Lib.len8tab.size) : ((Lib.len8tab[y.toNat]'h).toNat : Int) = (Lib.bitLen y.toNat : Int) ∧ Lib.bitLen y.toNat ≤ 8 := by
  refine ⟨?_, Lib.bitLen_le8' y h0 h1⟩
  rw [← Lib.len8_of y h0 h1]
  unfold Lib.len8
  rw [getElem?_pos Lib.len8tab y.toNat h]
  rfl
theorem sum_small (k m : Nat) (hk : k ≤ 56) (hm : m ≤ 8) : wrap64 ((k : Int) + wrap64 (m : Int)) = ((k + m : Nat) : Int) := by
  unfold wrap64
  omega
theorem len_out (x Y : Int) (k d : Nat) (hk : k ≤ 56) (h0 : 0 ≤ Y) (hd : Y ≤ 255) (e2 : Y.toNat = x.toNat / d) (hb : Lib.bitLen x.toNat = k + Lib.bitLen (x.toNat / d)) (h : Y.toNat < Lib.len8tab.size) :
    wrap64 ((k : Int) + wrap64 ((Lib.len8tab[Y.toNat]'h).toNat : Int)) = (Lib.bitLen x.toNat : Int) := by
  obtain ⟨e, hle⟩ := tab_at Y h0 hd h
  rw [e, hb]
  rw [e2] at hle ⊢
  exact sum_small k _ hk hle
theorem len_out0 (x : Int) (h0 : 0 ≤ x) (hd : x ≤ 255) (h : x.toNat < Lib.len8tab.size) :
    wrap64 (wrap64 ((Lib.len8tab[x.toNat]'h).toNat : Int)) = (Lib.bitLen x.toNat : Int) := by
  obtain ⟨e, hle⟩ := tab_at x h0 hd h
  rw [e]
  generalize Lib.bitLen x.toNat = m at *
  unfold wrap64
  omega

set_option maxHeartbeats 8000000 in
set_option maxRecDepth 100000 in
theorem bits_Len64 (x : Int) (w : World) (h0 : 0 ≤ x) (h1 : x ≤ 18446744073709551615) :
    Calls Tryd.prog 61 #[.int .u64 x] w fun e w' => e = .returned (.int .i64 (Lib.bitLen x.toNat)) ∧ w' = w := by
  go_enter Tryd.func61, Tryd.ntmps61
  go_wp2
  all_goals first
    | (go_ret; refine ⟨congrArg Ending.returned (congrArg (Value.int IntKind.i64) ?_), rfl⟩; go_light)
    | (exfalso
       go_light
       have hs := tab_size
       omega)
  all_goals first
    | exact len_out x _ 56 72057594037927936 (by decide) (by omega) (by omega) (by omega) (Lib.bitLen_shift56 _ (by omega) (by omega)) _
    | exact len_out x _ 48 281474976710656 (by decide) (by omega) (by omega) (by omega) (Lib.bitLen_shift48 _ (by omega) (by omega)) _
    | exact len_out x _ 40 1099511627776 (by decide) (by omega) (by omega) (by omega) (Lib.bitLen_shift40 _ (by omega) (by omega)) _
    | exact len_out x _ 32 4294967296 (by decide) (by omega) (by omega) (by omega) (Lib.bitLen_shift32 _ (by omega) (by omega)) _
    | exact len_out x _ 24 16777216 (by decide) (by omega) (by omega) (by omega) (Lib.bitLen_shift24 _ (by omega) (by omega)) _
    | exact len_out x _ 16 65536 (by decide) (by omega) (by omega) (by omega) (Lib.bitLen_shift16 _ (by omega) (by omega)) _
    | exact len_out x _ 8 256 (by decide) (by omega) (by omega) (by omega) (Lib.bitLen_shift8 _ (by omega) (by omega)) _
    | exact len_out0 x (by omega) (by omega) _
end Go.Proofs.YtdknhjnbkmcicaaDoor
