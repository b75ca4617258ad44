/-
  LateBuckets: the walk. No condition.
-/
import Derived.Test.YtelhcjjdhlhfbabLateD
import Derived.Lib.QuietBelow
import Derived.BigQuiet
import Derived.Lib.Strings
namespace Go.Proofs.Ytelhcjjdhlhfbab
open Go.ChangeShapes Go.WideShapes Go.ChangeAt Go.RowKit

theorem same_ret {f : Nat} {args : Array Value} {v : Value} {w : World} (h : Calls Try.prog f args w fun e w' => e = .returned v ∧ w = w') : Calls Try.prog f args w (Ret v w) :=
  h.mono fun e w' ⟨he, hw⟩ => ⟨he, hw ▸ Below.refl _ _⟩
theorem nameD_some {k : Nat} (h : k ≤ 4) : ∃ a t, (nameD k).toList = a :: t := by
  rcases (show k = 0 ∨ k = 1 ∨ k = 2 ∨ k = 3 ∨ k = 4 by omega) with rfl | rfl | rfl | rfl | rfl
  all_goals exact ⟨_, _, by rw [Lib.toList_data]; rfl⟩
theorem nameD_high {k : Nat} (h : 5 ≤ k) : nameD k = nameD 5 := by
  unfold nameD
  rw [if_neg (by omega), if_neg (by omega), if_neg (by omega), if_neg (by omega), if_neg (by omega)]
  rfl
def namesA : Array Value := #[.string ⟨#[99, 117, 114, 114, 101, 110, 116]⟩, .string ⟨#[103, 114, 97, 99, 101]⟩, .string ⟨#[116, 104, 105, 114, 116, 121]⟩, .string ⟨#[115, 105, 120, 116, 121]⟩, .string ⟨#[110, 105, 110, 101, 116, 121]⟩, .string ⟨#[]⟩]
theorem namesA_at (k : Nat) (h : k ≤ 5) : namesA[k]? = some (.string (nameD k)) := by
  rcases (show k = 0 ∨ k = 1 ∨ k = 2 ∨ k = 3 ∨ k = 4 ∨ k = 5 by omega) with rfl | rfl | rfl | rfl | rfl | rfl
  all_goals rfl
set_option maxRecDepth 20000 in
set_option maxHeartbeats 4000000 in
theorem LateBuckets_any (d : Int) (m k : Nat) (hd : -9223372036854775808 ≤ d ∧ d ≤ 9223372036854775807) (hm : m < 256) (hk : k < 256) (w : World) :
    Calls Try.prog 5 #[.int .i64 d, .int .u8 (m : Int), .int .u8 (k : Int)] w (Ret (.bool true) w) := by
  rcases (show d < -1000 ∨ (-1000 ≤ d ∧ d ≤ 1000) ∨ 1000 < d by omega) with h | ⟨h, h'⟩ | h
  · rcases Nat.lt_or_ge k 5 with h5 | h5
    · obtain ⟨d0, d1⟩ := hd
      have hle : bucD (-1000) ≤ bucD ((-1000) + (m : Int)) := bucD_mono (by omega)
      have hq := bucD_le d
      obtain ⟨a, tl, hne⟩ := nameD_some hq
      have e5 : (if (5 : Int) < (k : Int) then (5 : Int) else (k : Int)) = ((k : Nat) : Int) := by split <;> omega
      have i1 : IntKind.i64.wrap ((-1000) + (m : Int)) = (-1000) + (m : Int) := by rw [IntKind.wrap_i64]; omega
      go_enter Try.func5, Try.ntmps5
      go_wp2_with fail
      refine (awake12 _).mono ?_
      rintro e w1 ⟨rfl, hb1⟩
      have HB1 := Lib.hid hb1
      clear hb1
      go_wp2_with fail
      have HK := Lib.hid (Blk.new w1 9 namesA)
      have HB2 := Lib.hid (HB1.out.alloc HB1.out.size (.cells namesA 9))
      unfold namesA at HK HB2
      obtain ⟨W, hW⟩ : ∃ W, w1.alloc (.cells #[.string ⟨#[99, 117, 114, 114, 101, 110, 116]⟩, .string ⟨#[103, 114, 97, 99, 101]⟩, .string ⟨#[116, 104, 105, 114, 116, 121]⟩, .string ⟨#[115, 105, 120, 116, 121]⟩, .string ⟨#[110, 105, 110, 101, 116, 121]⟩, .string ⟨#[]⟩] 9) = W := ⟨_, rfl⟩
      rw [hW] at HK HB2 ⊢
      have c1 := HK.out.cell k
      have e1 := namesA_at k (by omega)
      unfold namesA at e1
      rw [e1] at c1
      have q1 := cell_regrown c1
      clear hW c1 e1 HK
      have A1 := fun (x : Int) (dd : Nat) (os : Array Obj) => Calls.regrown_of (same_ret (Bucket_any x (Go.Sort.grow (redrawn W dd) os)))
      have A2 := fun (x : Int) (h : x ≤ 9223372036854775807) (dd : Nat) (os : Array Obj) => Calls.regrown_of (same_ret (RBucket_any x h (Go.Sort.grow (redrawn W dd) os)))
      have A3 := fun (x : Nat) (dd : Nat) (os : Array Obj) => Calls.regrown_of (same_ret (Name_any x (Go.Sort.grow (redrawn W dd) os)))
      refine wp_region_quiet_below (by kernel_rfl) (by kernel_rfl) ?_
      repeat (go_big_quiet_step (first | (go_at_call 15; exact A1 _ _ _) | (go_at_call 16; exact A2 _ d1 _ _) | (go_at_call 17; exact A3 _ _ _)))
      refine wpQuiet_nil ?_
      intro w5 hw5
      have hb5 : Below W.heap.size W w5 := by
        obtain ⟨p, rfl⟩ := hw5
        exact below_regrown _ _ _
      clear hw5 q1 A1 A2 A3
      have HB5 := Lib.hid (HB2.out.trans (hb5.mono HB2.out.size))
      go_wp2_with fail
      go_ret
      exact ⟨by first | rfl | simp, HB5.out⟩
    · have hnk := nameD_high h5
      obtain ⟨d0, d1⟩ := hd
      have hle : bucD (-1000) ≤ bucD ((-1000) + (m : Int)) := bucD_mono (by omega)
      have hq := bucD_le d
      obtain ⟨a, tl, hne⟩ := nameD_some hq
      have e5 : (if (5 : Int) < (k : Int) then (5 : Int) else (k : Int)) = ((5 : Nat) : Int) := by split <;> omega
      have i1 : IntKind.i64.wrap ((-1000) + (m : Int)) = (-1000) + (m : Int) := by rw [IntKind.wrap_i64]; omega
      go_enter Try.func5, Try.ntmps5
      go_wp2_with fail
      refine (awake12 _).mono ?_
      rintro e w1 ⟨rfl, hb1⟩
      have HB1 := Lib.hid hb1
      clear hb1
      go_wp2_with fail
      have HK := Lib.hid (Blk.new w1 9 namesA)
      have HB2 := Lib.hid (HB1.out.alloc HB1.out.size (.cells namesA 9))
      unfold namesA at HK HB2
      obtain ⟨W, hW⟩ : ∃ W, w1.alloc (.cells #[.string ⟨#[99, 117, 114, 114, 101, 110, 116]⟩, .string ⟨#[103, 114, 97, 99, 101]⟩, .string ⟨#[116, 104, 105, 114, 116, 121]⟩, .string ⟨#[115, 105, 120, 116, 121]⟩, .string ⟨#[110, 105, 110, 101, 116, 121]⟩, .string ⟨#[]⟩] 9) = W := ⟨_, rfl⟩
      rw [hW] at HK HB2 ⊢
      have c1 := HK.out.cell 5
      have e1 := namesA_at 5 (by omega)
      unfold namesA at e1
      rw [e1] at c1
      have q1 := cell_regrown c1
      clear hW c1 e1 HK
      have A1 := fun (x : Int) (dd : Nat) (os : Array Obj) => Calls.regrown_of (same_ret (Bucket_any x (Go.Sort.grow (redrawn W dd) os)))
      have A2 := fun (x : Int) (h : x ≤ 9223372036854775807) (dd : Nat) (os : Array Obj) => Calls.regrown_of (same_ret (RBucket_any x h (Go.Sort.grow (redrawn W dd) os)))
      have A3 := fun (x : Nat) (dd : Nat) (os : Array Obj) => Calls.regrown_of (same_ret (Name_any x (Go.Sort.grow (redrawn W dd) os)))
      refine wp_region_quiet_below (by kernel_rfl) (by kernel_rfl) ?_
      repeat (go_big_quiet_step (first | (go_at_call 15; exact A1 _ _ _) | (go_at_call 16; exact A2 _ d1 _ _) | (go_at_call 17; exact A3 _ _ _)))
      refine wpQuiet_nil ?_
      intro w5 hw5
      have hb5 : Below W.heap.size W w5 := by
        obtain ⟨p, rfl⟩ := hw5
        exact below_regrown _ _ _
      clear hw5 q1 A1 A2 A3
      have HB5 := Lib.hid (HB2.out.trans (hb5.mono HB2.out.size))
      go_wp2_with fail
      go_ret
      exact ⟨by first | rfl | simp, HB5.out⟩
  · rcases Nat.lt_or_ge k 5 with h5 | h5
    · obtain ⟨d0, d1⟩ := hd
      have hle : bucD d ≤ bucD (d + (m : Int)) := bucD_mono (by omega)
      have hq := bucD_le d
      obtain ⟨a, tl, hne⟩ := nameD_some hq
      have e5 : (if (5 : Int) < (k : Int) then (5 : Int) else (k : Int)) = ((k : Nat) : Int) := by split <;> omega
      have i1 : IntKind.i64.wrap (d + (m : Int)) = d + (m : Int) := by rw [IntKind.wrap_i64]; omega
      go_enter Try.func5, Try.ntmps5
      go_wp2_with fail
      refine (awake12 _).mono ?_
      rintro e w1 ⟨rfl, hb1⟩
      have HB1 := Lib.hid hb1
      clear hb1
      go_wp2_with fail
      have HK := Lib.hid (Blk.new w1 9 namesA)
      have HB2 := Lib.hid (HB1.out.alloc HB1.out.size (.cells namesA 9))
      unfold namesA at HK HB2
      obtain ⟨W, hW⟩ : ∃ W, w1.alloc (.cells #[.string ⟨#[99, 117, 114, 114, 101, 110, 116]⟩, .string ⟨#[103, 114, 97, 99, 101]⟩, .string ⟨#[116, 104, 105, 114, 116, 121]⟩, .string ⟨#[115, 105, 120, 116, 121]⟩, .string ⟨#[110, 105, 110, 101, 116, 121]⟩, .string ⟨#[]⟩] 9) = W := ⟨_, rfl⟩
      rw [hW] at HK HB2 ⊢
      have c1 := HK.out.cell k
      have e1 := namesA_at k (by omega)
      unfold namesA at e1
      rw [e1] at c1
      have q1 := cell_regrown c1
      clear hW c1 e1 HK
      have A1 := fun (x : Int) (dd : Nat) (os : Array Obj) => Calls.regrown_of (same_ret (Bucket_any x (Go.Sort.grow (redrawn W dd) os)))
      have A2 := fun (x : Int) (h : x ≤ 9223372036854775807) (dd : Nat) (os : Array Obj) => Calls.regrown_of (same_ret (RBucket_any x h (Go.Sort.grow (redrawn W dd) os)))
      have A3 := fun (x : Nat) (dd : Nat) (os : Array Obj) => Calls.regrown_of (same_ret (Name_any x (Go.Sort.grow (redrawn W dd) os)))
      refine wp_region_quiet_below (by kernel_rfl) (by kernel_rfl) ?_
      repeat (go_big_quiet_step (first | (go_at_call 15; exact A1 _ _ _) | (go_at_call 16; exact A2 _ d1 _ _) | (go_at_call 17; exact A3 _ _ _)))
      refine wpQuiet_nil ?_
      intro w5 hw5
      have hb5 : Below W.heap.size W w5 := by
        obtain ⟨p, rfl⟩ := hw5
        exact below_regrown _ _ _
      clear hw5 q1 A1 A2 A3
      have HB5 := Lib.hid (HB2.out.trans (hb5.mono HB2.out.size))
      go_wp2_with fail
      go_ret
      exact ⟨by first | rfl | simp, HB5.out⟩
    · have hnk := nameD_high h5
      obtain ⟨d0, d1⟩ := hd
      have hle : bucD d ≤ bucD (d + (m : Int)) := bucD_mono (by omega)
      have hq := bucD_le d
      obtain ⟨a, tl, hne⟩ := nameD_some hq
      have e5 : (if (5 : Int) < (k : Int) then (5 : Int) else (k : Int)) = ((5 : Nat) : Int) := by split <;> omega
      have i1 : IntKind.i64.wrap (d + (m : Int)) = d + (m : Int) := by rw [IntKind.wrap_i64]; omega
      go_enter Try.func5, Try.ntmps5
      go_wp2_with fail
      refine (awake12 _).mono ?_
      rintro e w1 ⟨rfl, hb1⟩
      have HB1 := Lib.hid hb1
      clear hb1
      go_wp2_with fail
      have HK := Lib.hid (Blk.new w1 9 namesA)
      have HB2 := Lib.hid (HB1.out.alloc HB1.out.size (.cells namesA 9))
      unfold namesA at HK HB2
      obtain ⟨W, hW⟩ : ∃ W, w1.alloc (.cells #[.string ⟨#[99, 117, 114, 114, 101, 110, 116]⟩, .string ⟨#[103, 114, 97, 99, 101]⟩, .string ⟨#[116, 104, 105, 114, 116, 121]⟩, .string ⟨#[115, 105, 120, 116, 121]⟩, .string ⟨#[110, 105, 110, 101, 116, 121]⟩, .string ⟨#[]⟩] 9) = W := ⟨_, rfl⟩
      rw [hW] at HK HB2 ⊢
      have c1 := HK.out.cell 5
      have e1 := namesA_at 5 (by omega)
      unfold namesA at e1
      rw [e1] at c1
      have q1 := cell_regrown c1
      clear hW c1 e1 HK
      have A1 := fun (x : Int) (dd : Nat) (os : Array Obj) => Calls.regrown_of (same_ret (Bucket_any x (Go.Sort.grow (redrawn W dd) os)))
      have A2 := fun (x : Int) (h : x ≤ 9223372036854775807) (dd : Nat) (os : Array Obj) => Calls.regrown_of (same_ret (RBucket_any x h (Go.Sort.grow (redrawn W dd) os)))
      have A3 := fun (x : Nat) (dd : Nat) (os : Array Obj) => Calls.regrown_of (same_ret (Name_any x (Go.Sort.grow (redrawn W dd) os)))
      refine wp_region_quiet_below (by kernel_rfl) (by kernel_rfl) ?_
      repeat (go_big_quiet_step (first | (go_at_call 15; exact A1 _ _ _) | (go_at_call 16; exact A2 _ d1 _ _) | (go_at_call 17; exact A3 _ _ _)))
      refine wpQuiet_nil ?_
      intro w5 hw5
      have hb5 : Below W.heap.size W w5 := by
        obtain ⟨p, rfl⟩ := hw5
        exact below_regrown _ _ _
      clear hw5 q1 A1 A2 A3
      have HB5 := Lib.hid (HB2.out.trans (hb5.mono HB2.out.size))
      go_wp2_with fail
      go_ret
      exact ⟨by first | rfl | simp, HB5.out⟩
  · rcases Nat.lt_or_ge k 5 with h5 | h5
    · obtain ⟨d0, d1⟩ := hd
      have hle : bucD 1000 ≤ bucD (1000 + (m : Int)) := bucD_mono (by omega)
      have hq := bucD_le d
      obtain ⟨a, tl, hne⟩ := nameD_some hq
      have e5 : (if (5 : Int) < (k : Int) then (5 : Int) else (k : Int)) = ((k : Nat) : Int) := by split <;> omega
      have i1 : IntKind.i64.wrap (1000 + (m : Int)) = 1000 + (m : Int) := by rw [IntKind.wrap_i64]; omega
      go_enter Try.func5, Try.ntmps5
      go_wp2_with fail
      refine (awake12 _).mono ?_
      rintro e w1 ⟨rfl, hb1⟩
      have HB1 := Lib.hid hb1
      clear hb1
      go_wp2_with fail
      have HK := Lib.hid (Blk.new w1 9 namesA)
      have HB2 := Lib.hid (HB1.out.alloc HB1.out.size (.cells namesA 9))
      unfold namesA at HK HB2
      obtain ⟨W, hW⟩ : ∃ W, w1.alloc (.cells #[.string ⟨#[99, 117, 114, 114, 101, 110, 116]⟩, .string ⟨#[103, 114, 97, 99, 101]⟩, .string ⟨#[116, 104, 105, 114, 116, 121]⟩, .string ⟨#[115, 105, 120, 116, 121]⟩, .string ⟨#[110, 105, 110, 101, 116, 121]⟩, .string ⟨#[]⟩] 9) = W := ⟨_, rfl⟩
      rw [hW] at HK HB2 ⊢
      have c1 := HK.out.cell k
      have e1 := namesA_at k (by omega)
      unfold namesA at e1
      rw [e1] at c1
      have q1 := cell_regrown c1
      clear hW c1 e1 HK
      have A1 := fun (x : Int) (dd : Nat) (os : Array Obj) => Calls.regrown_of (same_ret (Bucket_any x (Go.Sort.grow (redrawn W dd) os)))
      have A2 := fun (x : Int) (h : x ≤ 9223372036854775807) (dd : Nat) (os : Array Obj) => Calls.regrown_of (same_ret (RBucket_any x h (Go.Sort.grow (redrawn W dd) os)))
      have A3 := fun (x : Nat) (dd : Nat) (os : Array Obj) => Calls.regrown_of (same_ret (Name_any x (Go.Sort.grow (redrawn W dd) os)))
      refine wp_region_quiet_below (by kernel_rfl) (by kernel_rfl) ?_
      repeat (go_big_quiet_step (first | (go_at_call 15; exact A1 _ _ _) | (go_at_call 16; exact A2 _ d1 _ _) | (go_at_call 17; exact A3 _ _ _)))
      refine wpQuiet_nil ?_
      intro w5 hw5
      have hb5 : Below W.heap.size W w5 := by
        obtain ⟨p, rfl⟩ := hw5
        exact below_regrown _ _ _
      clear hw5 q1 A1 A2 A3
      have HB5 := Lib.hid (HB2.out.trans (hb5.mono HB2.out.size))
      go_wp2_with fail
      go_ret
      exact ⟨by first | rfl | simp, HB5.out⟩
    · have hnk := nameD_high h5
      obtain ⟨d0, d1⟩ := hd
      have hle : bucD 1000 ≤ bucD (1000 + (m : Int)) := bucD_mono (by omega)
      have hq := bucD_le d
      obtain ⟨a, tl, hne⟩ := nameD_some hq
      have e5 : (if (5 : Int) < (k : Int) then (5 : Int) else (k : Int)) = ((5 : Nat) : Int) := by split <;> omega
      have i1 : IntKind.i64.wrap (1000 + (m : Int)) = 1000 + (m : Int) := by rw [IntKind.wrap_i64]; omega
      go_enter Try.func5, Try.ntmps5
      go_wp2_with fail
      refine (awake12 _).mono ?_
      rintro e w1 ⟨rfl, hb1⟩
      have HB1 := Lib.hid hb1
      clear hb1
      go_wp2_with fail
      have HK := Lib.hid (Blk.new w1 9 namesA)
      have HB2 := Lib.hid (HB1.out.alloc HB1.out.size (.cells namesA 9))
      unfold namesA at HK HB2
      obtain ⟨W, hW⟩ : ∃ W, w1.alloc (.cells #[.string ⟨#[99, 117, 114, 114, 101, 110, 116]⟩, .string ⟨#[103, 114, 97, 99, 101]⟩, .string ⟨#[116, 104, 105, 114, 116, 121]⟩, .string ⟨#[115, 105, 120, 116, 121]⟩, .string ⟨#[110, 105, 110, 101, 116, 121]⟩, .string ⟨#[]⟩] 9) = W := ⟨_, rfl⟩
      rw [hW] at HK HB2 ⊢
      have c1 := HK.out.cell 5
      have e1 := namesA_at 5 (by omega)
      unfold namesA at e1
      rw [e1] at c1
      have q1 := cell_regrown c1
      clear hW c1 e1 HK
      have A1 := fun (x : Int) (dd : Nat) (os : Array Obj) => Calls.regrown_of (same_ret (Bucket_any x (Go.Sort.grow (redrawn W dd) os)))
      have A2 := fun (x : Int) (h : x ≤ 9223372036854775807) (dd : Nat) (os : Array Obj) => Calls.regrown_of (same_ret (RBucket_any x h (Go.Sort.grow (redrawn W dd) os)))
      have A3 := fun (x : Nat) (dd : Nat) (os : Array Obj) => Calls.regrown_of (same_ret (Name_any x (Go.Sort.grow (redrawn W dd) os)))
      refine wp_region_quiet_below (by kernel_rfl) (by kernel_rfl) ?_
      repeat (go_big_quiet_step (first | (go_at_call 15; exact A1 _ _ _) | (go_at_call 16; exact A2 _ d1 _ _) | (go_at_call 17; exact A3 _ _ _)))
      refine wpQuiet_nil ?_
      intro w5 hw5
      have hb5 : Below W.heap.size W w5 := by
        obtain ⟨p, rfl⟩ := hw5
        exact below_regrown _ _ _
      clear hw5 q1 A1 A2 A3
      have HB5 := Lib.hid (HB2.out.trans (hb5.mono HB2.out.size))
      go_wp2_with fail
      go_ret
      exact ⟨by first | rfl | simp, HB5.out⟩
end Go.Proofs.Ytelhcjjdhlhfbab
