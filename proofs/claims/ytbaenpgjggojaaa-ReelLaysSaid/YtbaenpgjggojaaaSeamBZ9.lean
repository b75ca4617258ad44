/-
seam's small functions: what divide, put, get, Size do. Conditions: the numbers fit their kinds, the slices are there.
seam.Check: the check of a seed and bytes. Conditions: the seed fits 32 bits, the bytes are there.
-/
import Derived.Test.YtbaenpgjggojaaaMemZ9
import Derived.Test.YtbaenpgjggojaaaCrcZ9
namespace Go.Proofs.Ytbaenpgjggojaaa
open Go.RowKit

theorem xor_word {a b : Int} (h0 : 0 ≤ a) (h1 : a < 4294967296) (h2 : 0 ≤ b) (h3 : b < 4294967296) : bits .xor .u32 a b = ((a.toNat ^^^ b.toNat : Nat) : Int) := u32_xor a b h0 h1 h2 h3

theorem stp_walk {y : Nat} (hy : y < 4294967296) :
    bits .xor .u32 ((y : Int) / 2) (bits .and .u32 3988292384 (-bits .and .u32 (y : Int) 1 % 4294967296)) = ((Crc.stp y : Nat) : Int) := by
  have e1 : bits .and .u32 (y : Int) 1 = ((y % 2 : Nat) : Int) := by
    rw [u32_and _ _ (by omega) (by omega) (by omega) (by omega)]
    have : ((y : Int).toNat &&& (1 : Int).toNat) = y % 2 := Nat.and_two_pow_sub_one_eq_mod y 1
    rw [this]
  have e2 : ((y : Int) / 2) = ((y / 2 : Nat) : Int) := by omega
  rw [e1, e2]
  unfold Crc.stp
  rcases Nat.mod_two_eq_zero_or_one y with h | h
  · rw [h, if_neg (by omega)]
    have e3 : bits .and .u32 3988292384 (-((0 : Nat) : Int) % 4294967296) = 0 := by decide
    rw [e3, u32_xor _ _ (by omega) (by omega) (by omega) (by omega)]
    rfl
  · rw [h, if_pos rfl]
    have e3 : bits .and .u32 3988292384 (-((1 : Nat) : Int) % 4294967296) = 3988292384 := by decide
    rw [e3, u32_xor _ _ (by omega) (by omega) (by omega) (by omega)]
    rfl

set_option maxHeartbeats 400000 in
theorem divide_any (s : Nat) (A : Option Addr) (n c B : Nat) (l : List UInt8) (w : World) (hs : s < 4294967296) (hR : Rd w B A l) (hn : l.length = n) (hm : n ≤ maxLen) :
    Calls Try.prog 74 #[.int .u32 s, .slice A n c] w fun e w' => e = .returned (.int .u32 (Crc.dvd s l : Nat)) ∧ w = w' := by
  unfold maxLen at hm
  subst hn
  go_enter Try.func74, Try.ntmps74
  go_wp2
  go_loop [0, 9] (fun t i => ∃ k : Nat, k ≤ l.length ∧ i = .int .i64 k ∧ t = .int .u32 (Crc.dvd s (l.take k) : Nat)) (fun _ i => l.length - (intOf i).toNat)
  case atStart => exact ⟨0, Nat.zero_le _, rfl, rfl⟩
  case round =>
    obtain ⟨k, hk, rfl, rfl⟩ := hrel
    by_cases hlt : k < l.length
    · obtain ⟨b, o, rfl, _, hc⟩ := hR.at_ hlt
      have hd := Crc.dvd_lt (l.take k) hs
      have hu := Crc.u8_lt l[k]
      have e1 : bits .xor .u32 ((Crc.dvd s (l.take k) : Nat) : Int) ((l[k]).toNat : Int) = ((Crc.dvd s (l.take k) ^^^ (l[k]).toNat : Nat) : Int) := by
        rw [xor_word (by omega) (by omega) (by omega) (by omega)]
        rfl
      have hX := Crc.xor_lt hd (show (l[k]).toNat < 4294967296 by omega)
      have HS := Lib.hid (Crc.dvd_take s l k hlt)
      have E1 := Lib.hid e1
      clear e1
      go_wp2
      rw [E1.out]
      clear E1
      generalize Crc.dvd s (l.take k) ^^^ (l[k]).toNat = X at hX HS ⊢
      go_loop [0, 17] (fun t i => ∃ j : Nat, j ≤ 8 ∧ i = .int .i64 j ∧ t = .int .u32 (Crc.stpN j X : Nat)) (fun _ i => 8 - (intOf i).toNat)
      case atStart => exact ⟨0, Nat.zero_le _, rfl, rfl⟩
      case round =>
        obtain ⟨j, hj, rfl, rfl⟩ := hrel
        by_cases hjl : j < 8
        · have hy := Crc.stpN_lt j hX
          have HT := Lib.hid (Crc.stpN_succ' j X)
          generalize Crc.stpN j X = y at hy HT ⊢
          go_wp2
          go_round
          case rel => exact ⟨j + 1, by omega, by go_num, by rw [HT.out, stp_walk hy]⟩
          case measure => simp [intOf]; omega
        · obtain rfl : j = 8 := by omega
          go_wp2
          go_round
          case rel => exact ⟨k + 1, by omega, by go_num, by rw [HS.out]⟩
          case measure => simp [intOf]; omega
    · go_wp2
      go_ret
      refine ⟨?_, rfl⟩
      rw [List.take_of_length_le (by omega)]
      rfl

theorem Size_any (n : Nat) (w : World) (hn : n ≤ 4611686018427387904) :
    Calls Try.prog 62 #[.int .i64 n] w fun e w' => e = .returned (.int .i64 ((n + 8 : Nat) : Int)) ∧ w = w' := by
  go_enter Try.func62, Try.ntmps62
  go_wp2
  go_ret
  refine ⟨?_, rfl⟩
  show Ending.returned (.int .i64 _) = _
  congr 2
  show (4 + (n : Int) + 4) = ((n + 8 : Nat) : Int)
  omega

/-- What put leaves of a block behind k rounds. -/
def putK (cs : Array Value) (off n : Nat) : Nat → Array Value
  | 0 => cs
  | k + 1 => (putK cs off n k).setIfInBounds (off + k) (.int .u8 ((n / 2 ^ (8 * k) % 256 : Nat) : Int))
theorem putK_size (cs : Array Value) (off n k : Nat) : (putK cs off n k).size = cs.size := by
  induction k with
  | zero => rfl
  | succ k ih => simp [putK, ih]

set_option maxHeartbeats 400000 in
theorem put_any {ty : TypeId} (g off len cap n : Nat) (cs : Array Value) (w : World) (_hn : n < 4294967296) (h4 : 4 ≤ len) (hm : len ≤ maxLen) (hB : Blk w g ty cs) (hsz : off + 4 ≤ cs.size) :
    Calls Try.prog 63 #[.slice (some ⟨g, off, none⟩) len cap, .int .u32 n] w fun e w' => e = .returned (.tuple #[]) ∧ Blk w' g ty (putK cs off n 4) ∧ w.grownBy w' (some g) := by
  unfold maxLen at hm
  go_enter Try.func63, Try.ntmps63
  go_wp2
  go_loopw [5] (fun i wr => ∃ k : Nat, k ≤ 4 ∧ i = .int .i64 k ∧ Blk wr g ty (putK cs off n k) ∧ w.grownBy wr (some g)) (fun i _ => 4 - (intOf i).toNat)
  case atStart => exact ⟨0, Nat.zero_le _, rfl, hB, grown_refl _ _⟩
  case round =>
    obtain ⟨k, hk, rfl, hb, hg⟩ := hrel
    by_cases hlt : k < 4
    · have hcell : wr.cell? ⟨g, off + k, none⟩ = some ((putK cs off n k)[off + k]'(by rw [putK_size]; omega)) := by
        rw [hb.cell]; exact Array.getElem?_eq_getElem _
      have hfr := hb.frozen (off + k)
      have hb1 := hb.set_ (off + k) (.int .u8 ((n / 2 ^ (8 * k) % 256 : Nat) : Int))
      have hg1 := grown_setCell hg (p := ⟨g, off + k, none⟩) (.inl rfl) (.int .u8 ((n / 2 ^ (8 * k) % 256 : Nat) : Int))
      generalize (putK cs off n k)[off + k]'(by rw [putK_size]; omega) = old at hcell
      have HB := Lib.hid hb1
      have HG := Lib.hid hg1
      have EV := Lib.hid (show ((n / 2 ^ (8 * k) % 256 : Nat) : Int) = (n : Int) / 2 ^ (8 * k) % 256 by simp)
      clear hb hg hb1 hg1
      go_wp2
      go_roundw
      case rel => exact ⟨k + 1, by omega, by go_num, by rw [← EV.out]; exact HB.out, by rw [← EV.out]; exact HG.out⟩
      case measure => simp [intOf]; omega
    · obtain rfl : k = 4 := by omega
      go_wp2
      go_end0
      exact ⟨rfl, hb, hg⟩

/-- The number of the first k bytes, the lowest first. -/
def valK (l : List UInt8) : Nat → Nat
  | 0 => 0
  | k + 1 => valK l k + (l.getD k 0).toNat * 2 ^ (8 * k)
theorem valK_lt (l : List UInt8) (k : Nat) : valK l k < 2 ^ (8 * k) := by
  induction k with
  | zero => simp [valK]
  | succ k ih =>
    have hu := Crc.u8_lt (l.getD k 0)
    have e : 2 ^ (8 * (k + 1)) = 256 * 2 ^ (8 * k) := by rw [show 8 * (k + 1) = 8 + 8 * k from by omega, Nat.pow_add]
    have h2 : (l.getD k 0).toNat * 2 ^ (8 * k) ≤ 255 * 2 ^ (8 * k) := Nat.mul_le_mul_right _ (by omega)
    simp only [valK]
    omega
theorem or_walk (l : List UInt8) (k : Nat) (hk : k < 4) : bits .or .u32 ((valK l k : Nat) : Int) (((l.getD k 0).toNat : Int) * 2 ^ (8 * k) % 4294967296) = ((valK l (k + 1) : Nat) : Int) := by
  have hv := valK_lt l k
  have hu := Crc.u8_lt (l.getD k 0)
  have h3 : (2 : Nat) ^ (8 * k) ≤ 2 ^ 24 := Nat.pow_le_pow_right (by decide) (by omega)
  have h2 : (l.getD k 0).toNat * 2 ^ (8 * k) ≤ 255 * 2 ^ 24 := Nat.mul_le_mul (by omega) h3
  have e0 : ((l.getD k 0).toNat : Int) * 2 ^ (8 * k) = (((l.getD k 0).toNat * 2 ^ (8 * k) : Nat) : Int) := by
    rw [Int.natCast_mul, Int.natCast_pow]
    rfl
  have e1 : valK l k ||| (l.getD k 0).toNat * 2 ^ (8 * k) = valK l (k + 1) := by
    rw [Nat.or_comm, nat_join (8 * k) _ _ (by simp) hv, Nat.add_comm]
    rfl
  have h4 := Nat.lt_of_lt_of_le hv h3
  rw [e0, ← e1]
  generalize (l.getD k 0).toNat * 2 ^ (8 * k) = P at h2 ⊢
  rw [show ((P : Nat) : Int) % 4294967296 = (P : Int) from by omega, u32_or _ _ (by omega) (by omega) (by omega) (by omega)]
  rfl

set_option maxHeartbeats 400000 in
theorem get_any (A : Option Addr) (n c B : Nat) (l : List UInt8) (w : World) (hR : Rd w B A l) (hn : l.length = n) (hm : n ≤ maxLen) (h4 : 4 ≤ n) :
    Calls Try.prog 77 #[.slice A n c] w fun e w' => e = .returned (.int .u32 (valK l 4 : Nat)) ∧ w = w' := by
  unfold maxLen at hm
  subst hn
  go_enter Try.func77, Try.ntmps77
  go_wp2
  go_loop [3, 5] (fun t i => ∃ k : Nat, k ≤ 4 ∧ i = .int .i64 k ∧ t = .int .u32 (valK l k : Nat)) (fun _ i => 4 - (intOf i).toNat)
  case atStart => exact ⟨0, Nat.zero_le _, rfl, rfl⟩
  case round =>
    obtain ⟨k, hk, rfl, rfl⟩ := hrel
    by_cases hlt : k < 4
    · have hkl : k < l.length := by omega
      obtain ⟨b, o, rfl, _, hc⟩ := hR.at_ hkl
      have eg : l[k] = l.getD k 0 := by simp [hkl]
      rw [eg] at hc
      have EO := Lib.hid (or_walk l k hlt)
      clear eg
      generalize l.getD k 0 = u at hc EO
      generalize valK l k = v at EO ⊢
      have hu := Crc.u8_lt u
      go_wp2
      go_round
      case rel => exact ⟨k + 1, by omega, by go_num, by rw [EO.out]⟩
      case measure => simp [intOf]; omega
    · obtain rfl : k = 4 := by omega
      go_wp2
      go_ret
      exact ⟨rfl, rfl⟩
end Go.Proofs.Ytbaenpgjggojaaa
namespace Go.Proofs.Ytbaenpgjggojaaa
open Go.RowKit

theorem putK_word (cs : Array Value) (off n : Nat) (h : off + 4 ≤ cs.size) (j : Nat) (u : UInt8) (hu : (Crc.wrd n)[j]? = some u) : (putK cs off n 4)[off + j]? = some (.int .u8 (u.toNat : Int)) := by
  have hj : j < 4 := by
    rcases Nat.lt_or_ge j 4 with h4 | h4
    · exact h4
    · rw [List.getElem?_eq_none (by rw [Crc.wrd_length]; omega)] at hu; cases hu
  simp only [putK, Array.getElem?_setIfInBounds, Array.size_setIfInBounds]
  rcases (show j = 0 ∨ j = 1 ∨ j = 2 ∨ j = 3 by omega) with rfl | rfl | rfl | rfl <;>
    (simp only [Crc.wrd, List.getElem?_cons_zero, List.getElem?_cons_succ, Option.some.injEq] at hu; subst hu; simp; omega)
theorem putK_other (cs : Array Value) (off n i : Nat) (h : i < off ∨ off + 4 ≤ i) : (putK cs off n 4)[i]? = cs[i]? := by
  simp only [putK, Array.getElem?_setIfInBounds]
  rw [if_neg (by omega), if_neg (by omega), if_neg (by omega), if_neg (by omega)]
theorem chk_walk {s : Nat} {l : List UInt8} {d : Nat} (hd : d < 4294967296) (h : Crc.chk s l = 4294967295 ^^^ d) : bits .xor .u32 IntKind.u32.max (d : Int) = ((Crc.chk s l : Nat) : Int) := by
  rw [h, show IntKind.u32.max = 4294967295 from rfl, u32_xor _ _ (by omega) (by omega) (by omega) (by omega)]
  rfl

set_option maxHeartbeats 400000 in
theorem Check_any (s : Nat) (A : Option Addr) (n c B : Nat) (l : List UInt8) (w : World) (hs : s < 4294967296) (hR : Rd w B A l) (hB : B ≤ w.heap.size) (hn : l.length = n) (hm : n ≤ maxLen) :
    Calls Try.prog 64 #[.int .u32 s, .slice A n c] w fun e w' => e = .returned (.int .u32 (Crc.chk s l : Nat)) ∧ Below w.heap.size w w' := by
  have hd1 : Crc.dvd 4294967295 (Crc.wrd s) < 4294967296 := Crc.dvd_lt _ (by decide)
  have hd2 : Crc.dvd (Crc.dvd 4294967295 (Crc.wrd s)) l < 4294967296 := Crc.dvd_lt _ hd1
  have EC := Lib.hid (chk_walk (s := s) (l := l) hd2 rfl)
  have HN := Lib.hid hn
  have hsg : IntKind.u32.signed = false := rfl
  clear hn
  go_enter Try.func64, Try.ntmps64
  go_wp2_with fail
  refine (put_any _ _ _ _ _ _ _ hs (by decide) (by decide) (Blk.new w _ _) (by decide)).mono ?_
  rintro e w1 ⟨rfl, hb, hg⟩
  have hbw : Below w.heap.size w w1 := ((Below.refl _ w).alloc (Nat.le_refl _) _).grown hg (by simp) (fun k hk => by injection hk with hk; omega)
  have hl : w.heap.size < w1.heap.size := hb.lt
  have hr1 : Rd w1 w1.heap.size (some ⟨w.heap.size, 0, none⟩) (Crc.wrd s) := hb.rd hl (fun j u hu => putK_word _ 0 s (by decide) j u hu)
  have hr2 := (hR.more hB).below hbw
  clear hb hg hR
  go_wp2_with fail
  refine (divide_any 4294967295 _ _ _ _ _ _ (by decide) hr1 rfl (by rw [Crc.wrd_length]; decide)).mono ?_
  rintro e w2 ⟨rfl, rfl⟩
  go_wp2_with fail
  refine (divide_any _ _ _ _ _ _ _ hd1 hr2 HN.out hm).mono ?_
  rintro e w2 ⟨rfl, rfl⟩
  go_wp2
  rw [EC.out]
  go_ret
  exact ⟨rfl, hbw⟩
end Go.Proofs.Ytbaenpgjggojaaa
