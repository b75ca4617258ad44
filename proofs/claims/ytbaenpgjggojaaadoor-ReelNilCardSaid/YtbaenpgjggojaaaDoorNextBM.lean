/-
seam.blank: are all bytes noughts? Condition: the bytes are there.
seam.Next: what the frame that bytes begin with has, or the error. Conditions: the seed fits 32 bits, the bytes are there.
seam.Next, its check: an error of the sum, or the bytes. Conditions: as in Next.
-/
import Derived.Test.YtbaenpgjggojaaaDoorSeamCM
import Derived.Test.YtbaenpgjggojaaaDoorAppM
namespace Go.Proofs.YtbaenpgjggojaaaDoor
open Go.RowKit

/-- Are all bytes noughts? -/
def isBlank (l : List UInt8) : Bool := l.all (fun u => decide (u.toNat = 0))
def IdxPost (l : List UInt8) (w : World) (e : Ending) (w' : World) : Prop := ∃ r : Int, e = .returned (.int .i64 r) ∧ decide (0 ≤ r) = !isBlank l ∧ w = w'

theorem isBlank_hit {l : List UInt8} {k : Nat} (hk : k < l.length) (h : (l[k]).toNat ≠ 0) : isBlank l = false := by
  unfold isBlank
  rw [List.all_eq_false]
  exact ⟨l[k], List.getElem_mem hk, by simpa using h⟩
theorem isBlank_all {l : List UInt8} (h : ∀ j (hj : j < l.length), (l[j]).toNat = 0) : isBlank l = true := by
  unfold isBlank
  rw [List.all_eq_true]
  intro u hu
  obtain ⟨j, hj, rfl⟩ := List.getElem_of_mem hu
  simpa using h j hj
def Noughts (l : List UInt8) (k : Nat) : Prop := ∀ j (hj : j < l.length), j < k → (l[j]).toNat = 0

set_option maxHeartbeats 400000 in
theorem blankIdx_any (A : Option Addr) (n c B : Nat) (l : List UInt8) (w : World) (hR : Rd w B A l) (hn : l.length = n) (hm : n ≤ maxLen) :
    Calls Tryd.prog 90 #[.slice A n c, .func (.func 89) #[] #[]] w (IdxPost l w) := by
  unfold maxLen at hm
  subst hn
  go_enter Tryd.func90, Tryd.ntmps90
  go_wp2
  go_loop [8] (fun i => ∃ k : Nat, k ≤ l.length ∧ i = .int .i64 k ∧ Noughts l k) (fun i => l.length - (intOf i).toNat)
  case atStart => exact ⟨0, Nat.zero_le _, rfl, fun _ _ h => absurd h (by omega)⟩
  case round =>
    obtain ⟨k, hk, rfl, hno⟩ := hrel
    by_cases hlt : k < l.length
    · obtain ⟨b, o, rfl, _, hc⟩ := hR.at_ hlt
      by_cases hz : (l[k]).toNat = 0
      · have hno' : Noughts l (k + 1) := fun j hj hjk => by
          rcases Nat.lt_or_ge j k with h | h
          · exact hno j hj h
          · obtain rfl : j = k := by omega
            exact hz
        rw [hz] at hc
        go_wp2_with (go_in)
        go_round
        case rel => exact ⟨k + 1, by omega, by go_num, hno'⟩
        case measure => simp [intOf]; omega
      · have HH := Lib.hid (isBlank_hit hlt hz)
        have hnz : ((l[k]).toNat : Int) ≠ 0 := by omega
        go_wp2_with (go_in)
        go_ret
        exact ⟨_, rfl, by rw [HH.out]; exact decide_eq_true (by omega), rfl⟩
    · have HH := Lib.hid (isBlank_all (l := l) (fun j hj => hno j hj (by omega)))
      go_wp2
      go_ret
      exact ⟨_, rfl, by rw [HH.out]; rfl, rfl⟩

theorem blankAny_any (A : Option Addr) (n c B : Nat) (l : List UInt8) (w : World) (hR : Rd w B A l) (hn : l.length = n) (hm : n ≤ maxLen) :
    Calls Tryd.prog 88 #[.slice A n c, .func (.func 89) #[] #[]] w fun e w' => e = .returned (.bool (!isBlank l)) ∧ w = w' := by
  have HN := Lib.hid hn
  clear hn
  go_enter Tryd.func88, Tryd.ntmps88
  go_wp2_with fail
  refine (blankIdx_any _ _ _ _ _ _ hR HN.out hm).mono ?_
  rintro e w1 ⟨r, rfl, hr, rfl⟩
  have HR := Lib.hid hr
  clear hr
  go_wp2_with fail
  go_ret
  exact ⟨by rw [← HR.out]; rfl, rfl⟩

theorem blank_any (A : Option Addr) (n c B : Nat) (l : List UInt8) (w : World) (hR : Rd w B A l) (hn : l.length = n) (hm : n ≤ maxLen) :
    Calls Tryd.prog 85 #[.slice A n c] w fun e w' => e = .returned (.bool (isBlank l)) ∧ w = w' := by
  have HN := Lib.hid hn
  clear hn
  have HC := Lib.hid (blankAny_any A n c B l w hR HN.out hm)
  cases hbl : isBlank l
  all_goals
    rw [hbl] at HC
    clear hbl
    go_enter Tryd.func85, Tryd.ntmps85
    go_wp2_with fail
    refine HC.out.mono ?_
    rintro e w1 ⟨rfl, rfl⟩
    go_wp2_with fail
    go_ret
    exact ⟨rfl, rfl⟩

/-- Where a slice begins with a word, and it is no blank, the word is there. -/
theorem isBlank_nil : isBlank [] = true := rfl
end Go.Proofs.YtbaenpgjggojaaaDoor
namespace Go.Proofs.YtbaenpgjggojaaaDoor
open Go.RowKit

/-- The number that bytes begin with. -/
def headOf (l : List UInt8) : Nat := valK l 4
/-- The error's number; 0: none. -/
def nxtErr (s : Nat) (l : List UInt8) : Nat :=
  if isBlank l then 3
  else if l.length < 8 ∨ l.length - 8 < headOf l then 2
  else if 100000 < headOf l then 4
  else if Crc.chk s (l.take (4 + headOf l)) ≠ headOf (l.drop (4 + headOf l)) then 5
  else 0
def nxtBody (l : List UInt8) : List UInt8 := (l.drop 4).take (headOf l)

/-- What Next hands back where it tells an error. -/
def NextNo (err : Nat) (w : World) (e : Ending) (w' : World) : Prop :=
  e = .returned (.tuple #[.slice Option.none 0 0, .int .i64 0, .iface 38 (.int .i64 err)]) ∧ Below w.heap.size w w'
def NextYes (m : Nat) (body : List UInt8) (w : World) (e : Ending) (w' : World) : Prop :=
  ∃ A c, e = .returned (.tuple #[.slice A m c, .int .i64 ((m : Int) + 8), .nilIface]) ∧ m ≤ c ∧ c ≤ maxLen ∧ Rd w' w'.heap.size A body ∧ body.length = m ∧ Below w.heap.size w w'

theorem Size0_any (w : World) : Calls Tryd.prog 56 #[.int .i64 0] w fun e w' => e = .returned (.int .i64 8) ∧ w = w' := Size_any 0 w (by decide)

section
variable (s : Nat) (A : Option Addr) (n c B : Nat) (l : List UInt8) (w : World)

set_option maxHeartbeats 1000000 in
theorem Next_blank (hR : Rd w B A l) (hn : l.length = n) (hm : n ≤ maxLen) (h : isBlank l = true) :
    Calls Tryd.prog 76 #[.int .u32 s, .slice A n c] w (NextNo 3 w) := by
  have HB := Lib.hid (blank_any A n c B l w hR hn hm)
  rw [h] at HB
  clear h hR hn
  go_enter Tryd.func76, Tryd.ntmps76
  go_wp2_with fail
  refine HB.out.mono ?_
  rintro e w1 ⟨rfl, rfl⟩
  go_wp2_with fail
  go_ret3
  exact ⟨rfl, Below.refl _ _⟩

set_option maxHeartbeats 1000000 in
theorem Next_short (hR : Rd w B A l) (hn : l.length = n) (hm : n ≤ maxLen) (h : isBlank l = false) (h8 : n < 8) :
    Calls Tryd.prog 76 #[.int .u32 s, .slice A n c] w (NextNo 2 w) := by
  have HB := Lib.hid (blank_any A n c B l w hR hn hm)
  rw [h] at HB
  clear h hR hn
  go_enter Tryd.func76, Tryd.ntmps76
  go_wp2_with fail
  refine HB.out.mono ?_
  rintro e w1 ⟨rfl, rfl⟩
  go_wp2_with fail
  refine (Size0_any _).mono ?_
  rintro e w1 ⟨rfl, rfl⟩
  go_wp2_with fail
  go_ret3
  exact ⟨rfl, Below.refl _ _⟩

set_option maxHeartbeats 1000000 in
theorem Next_part (hR : Rd w B A l) (hn : l.length = n) (hm : n ≤ maxLen) (h : isBlank l = false) (h8 : 8 ≤ n) (hp : n - 8 < headOf l) :
    Calls Tryd.prog 76 #[.int .u32 s, .slice A n c] w (NextNo 2 w) := by
  have HB := Lib.hid (blank_any A n c B l w hR hn hm)
  rw [h] at HB
  have HG := Lib.hid (get_any A n c B l w hR hn hm (by omega))
  have hv := valK_lt l 4
  unfold headOf at hp
  generalize valK l 4 = v at hp HG hv
  clear h hR hn
  unfold maxLen at hm
  go_enter Tryd.func76, Tryd.ntmps76
  go_wp2_with fail
  refine HB.out.mono ?_
  rintro e w1 ⟨rfl, rfl⟩
  go_wp2_with fail
  refine (Size0_any _).mono ?_
  rintro e w1 ⟨rfl, rfl⟩
  go_wp2_with fail
  refine HG.out.mono ?_
  rintro e w1 ⟨rfl, rfl⟩
  go_wp2_with fail
  refine (Size0_any _).mono ?_
  rintro e w1 ⟨rfl, rfl⟩
  go_wp2_with fail
  go_ret3
  exact ⟨rfl, Below.refl _ _⟩

set_option maxHeartbeats 1000000 in
theorem Next_long (hR : Rd w B A l) (hn : l.length = n) (hm : n ≤ maxLen) (h : isBlank l = false) (h8 : 8 ≤ n) (hp : headOf l ≤ n - 8) (hg : 100000 < headOf l) :
    Calls Tryd.prog 76 #[.int .u32 s, .slice A n c] w (NextNo 4 w) := by
  have HB := Lib.hid (blank_any A n c B l w hR hn hm)
  rw [h] at HB
  have HG := Lib.hid (get_any A n c B l w hR hn hm (by omega))
  have hv := valK_lt l 4
  unfold headOf at hp hg
  generalize valK l 4 = v at hp hg HG hv
  clear h hR hn
  unfold maxLen at hm
  go_enter Tryd.func76, Tryd.ntmps76
  go_wp2_with fail
  refine HB.out.mono ?_
  rintro e w1 ⟨rfl, rfl⟩
  go_wp2_with fail
  refine (Size0_any _).mono ?_
  rintro e w1 ⟨rfl, rfl⟩
  go_wp2_with fail
  refine HG.out.mono ?_
  rintro e w1 ⟨rfl, rfl⟩
  go_wp2_with fail
  refine (Size0_any _).mono ?_
  rintro e w1 ⟨rfl, rfl⟩
  go_wp2_with fail
  refine HG.out.mono ?_
  rintro e w1 ⟨rfl, rfl⟩
  go_wp2_with fail
  go_ret3
  exact ⟨rfl, Below.refl _ _⟩
end
end Go.Proofs.YtbaenpgjggojaaaDoor
namespace Go.Proofs.YtbaenpgjggojaaaDoor
open Go.RowKit

theorem toInt_len {n k : Nat} (h : k ≤ n) : ((n - k : Nat) : Int) = (n : Int) - (k : Int) := by omega

theorem headOf_lt (l : List UInt8) : headOf l < 4294967296 := valK_lt l 4
section
variable (A : Option Addr) (n c B : Nat) (l : List UInt8) (w : World)
theorem head_any (hR : Rd w B A l) (hn : l.length = n) (hm : n ≤ maxLen) (h4 : 4 ≤ n) :
    Calls Tryd.prog 86 #[.slice A n c] w fun e w' => e = .returned (.int .u32 (headOf l : Nat)) ∧ w = w' := get_any A n c B l w hR hn hm h4
theorem small_len {k : Nat} (h : k ≤ 140737488355328) : k ≤ maxLen := by unfold maxLen; omega

/-- The check of what stands ahead of the frame's end, in whatever world is alike. -/
theorem pre_check (s v b o : Nat) (hs : s < 4294967296) (hR : Rd w B (some ⟨b, o, none⟩) l) (hB : B ≤ w.heap.size) (hv : 4 + v ≤ l.length) (hl : l.length ≤ 140737488355328) (W : World) (hW : W.heap = w.heap) :
    Calls Tryd.prog 73 #[.int .u32 s, .slice (some ⟨b, o, none⟩) (4 + v) c] W fun e w' => e = .returned (.int .u32 (Crc.chk s (l.take (4 + v)) : Nat)) ∧ Below w.heap.size W w' := by
  have h1 : Rd W W.heap.size (some ⟨b, o, none⟩) l := (hR.keep (w' := W) (fun p _ => by simp [World.cell?, hW])).more (by rw [hW]; exact hB)
  rw [← hW]
  exact Check_any s _ _ _ W.heap.size _ W hs (h1.take _) (Nat.le_refl _) (by rw [List.length_take]; omega) (small_len (by omega))
/-- What stands in a check's place, behind the call. -/
theorem post_get (v b o : Nat) (hR : Rd w B (some ⟨b, o, none⟩) l) (hB : B ≤ w.heap.size) (hn : l.length = n) (hv : v + 8 ≤ n) (hm : n ≤ 140737488355328) (hc : n ≤ c) (W : World) (hb : Below w.heap.size w W) :
    Calls Tryd.prog 86 #[.slice (some ⟨b, o + (4 + v), none⟩) (n - (4 + v)) (c - (4 + v))] W fun e w' => e = .returned (.int .u32 (headOf (l.drop (4 + v)) : Nat)) ∧ W = w' := by
  have h1 := ((hR.more hB).below hb).cut (k := 4 + v) (cap := c) (by omega)
  rw [if_neg (by omega)] at h1
  have h2 : Rd W w.heap.size (some ⟨b, o + (4 + v), none⟩) (l.drop (4 + v)) := by simpa [go_sem] using h1
  exact head_any _ _ _ _ _ W h2 (by rw [List.length_drop]; omega) (small_len (by omega)) (by omega)
theorem mid_clone (v b o : Nat) (hR : Rd w B (some ⟨b, o, none⟩) l) (hB : B ≤ w.heap.size) (hn : l.length = n) (hv : v + 8 ≤ n) (hm : n ≤ 140737488355328) (hc : n ≤ c) (W : World) (hb : Below w.heap.size w W) :
    Calls Tryd.prog 44 #[.slice (some ⟨b, o + 4, none⟩) v (c - 4)] W (CutPost W.heap.size W ((l.drop 4).take v)) := by
  have h1 := ((hR.more hB).below hb).cut (k := 4) (cap := c) (by omega)
  rw [if_neg (by omega)] at h1
  have h2 : Rd W w.heap.size (some ⟨b, o + 4, none⟩) (l.drop 4) := by simpa [go_sem] using h1
  exact Clone_any _ _ _ _ _ W (h2.take v) (by rw [List.length_take, List.length_drop]; omega) (by omega) hb.size
end

section
variable (s : Nat) (A : Option Addr) (n c B : Nat) (l : List UInt8) (w : World)

set_option maxHeartbeats 2000000 in
theorem Next_sum (hs : s < 4294967296) (hR : Rd w B A l) (hB : B ≤ w.heap.size) (hn : l.length = n) (hm : n ≤ 140737488355328) (hnc : n ≤ c) (_hc : c ≤ maxLen) (h : isBlank l = false) (h8 : 8 ≤ n) (hp : headOf l ≤ n - 8) (hg : headOf l ≤ 100000)
    (hck : Crc.chk s (l.take (4 + headOf l)) ≠ headOf (l.drop (4 + headOf l))) :
    Calls Tryd.prog 76 #[.int .u32 s, .slice A n c] w (NextNo 5 w) := by
  obtain ⟨b, o, rfl, _, hx⟩ := hR.at_ (k := 0) (by omega)
  clear hx
  have HB := Lib.hid (blank_any _ n c B l w hR hn (small_len hm))
  rw [h] at HB
  have HG := Lib.hid (head_any _ n c B l w hR hn (small_len hm) (by omega))
  have hv := headOf_lt l
  generalize headOf l = v at hp hg hck HG hv
  have HCk := Lib.hid (pre_check c B l w s v b o hs hR hB (by omega) (by omega))
  have HG2 := Lib.hid (post_get n c B l w v b o hR hB hn (by omega) hm hnc)
  generalize Crc.chk s (l.take (4 + v)) = C at HCk hck
  generalize headOf (l.drop (4 + v)) = D at HG2 hck
  have hbne : (((C : Nat) : Int) != ((D : Nat) : Int)) = true := by rw [bne_iff_ne]; omega
  clear h hR hn hck
  have b1 : (0 : Int) ≤ 4 + (v : Int) := by omega
  have b2 : 4 + (v : Int) ≤ (n : Int) := by omega
  have b2' : 4 + (v : Int) ≤ (c : Int) := by omega
  have b3 : (4 + (v : Int)).toNat = 4 + v := by omega
  have b4 : ¬ (c = 4 + v) := by omega
  go_enter Tryd.func76, Tryd.ntmps76
  go_wp2_with fail
  refine HB.out.mono ?_
  rintro e w1 ⟨rfl, rfl⟩
  go_wp2_with fail
  refine (Size0_any _).mono ?_
  rintro e w1 ⟨rfl, rfl⟩
  go_wp2_with fail
  refine HG.out.mono ?_
  rintro e w1 ⟨rfl, rfl⟩
  go_wp2_with fail
  refine (Size0_any _).mono ?_
  rintro e w1 ⟨rfl, rfl⟩
  go_wp2_with fail
  refine HG.out.mono ?_
  rintro e w1 ⟨rfl, rfl⟩
  go_wp2_with fail
  go_region_held3 (fun w' => True) (trivial)
    (first
      | (go_at_call 73; refine (HCk.out w.drew rfl).mono ?_; rintro e w3 ⟨rfl, hb3⟩)
      | (go_at_call 86; go_must (refine (HG2.out _ ((Below.refl _ w).drew.trans hb3)).mono ?_); rintro e w4 ⟨rfl, rfl⟩))
  go_wp2_with fail
  go_ret3
  exact ⟨rfl, (Below.refl _ w).drew.trans hb3⟩

set_option maxHeartbeats 2000000 in
theorem Next_ok (hs : s < 4294967296) (hR : Rd w B A l) (hB : B ≤ w.heap.size) (hn : l.length = n) (hm : n ≤ 140737488355328) (hnc : n ≤ c) (_hc : c ≤ maxLen) (h : isBlank l = false) (h8 : 8 ≤ n) (hp : headOf l ≤ n - 8) (hg : headOf l ≤ 100000)
    (hck : Crc.chk s (l.take (4 + headOf l)) = headOf (l.drop (4 + headOf l))) :
    Calls Tryd.prog 76 #[.int .u32 s, .slice A n c] w (NextYes (headOf l) (nxtBody l) w) := by
  obtain ⟨b, o, rfl, _, hx⟩ := hR.at_ (k := 0) (by omega)
  clear hx
  have HB := Lib.hid (blank_any _ n c B l w hR hn (small_len hm))
  rw [h] at HB
  have HG := Lib.hid (head_any _ n c B l w hR hn (small_len hm) (by omega))
  have hv := headOf_lt l
  unfold nxtBody
  generalize headOf l = v at hp hg hck HG hv ⊢
  have HCl := Lib.hid (mid_clone n c B l w v b o hR hB hn (by omega) hm hnc)
  have HBL : Hid (((l.drop 4).take v).length = v) := Lib.hid (by rw [List.length_take, List.length_drop]; omega)
  generalize (l.drop 4).take v = body at HCl HBL ⊢
  have HCk := Lib.hid (pre_check c B l w s v b o hs hR hB (by omega) (by omega))
  have HG2 := Lib.hid (post_get n c B l w v b o hR hB hn (by omega) hm hnc)
  generalize Crc.chk s (l.take (4 + v)) = C at HCk hck
  generalize headOf (l.drop (4 + v)) = D at HG2 hck
  have hbne : (((C : Nat) : Int) != ((D : Nat) : Int)) = false := by rw [hck]; simp
  clear h hR hn hck
  have b1 : (0 : Int) ≤ 4 + (v : Int) := by omega
  have b2 : 4 + (v : Int) ≤ (n : Int) := by omega
  have b2' : 4 + (v : Int) ≤ (c : Int) := by omega
  have b3 : (4 + (v : Int)).toNat = 4 + v := by omega
  have b4 : ¬ (c = 4 + v) := by omega
  go_enter Tryd.func76, Tryd.ntmps76
  go_wp2_with fail
  refine HB.out.mono ?_
  rintro e w1 ⟨rfl, rfl⟩
  go_wp2_with fail
  refine (Size0_any _).mono ?_
  rintro e w1 ⟨rfl, rfl⟩
  go_wp2_with fail
  refine HG.out.mono ?_
  rintro e w1 ⟨rfl, rfl⟩
  go_wp2_with fail
  refine (Size0_any _).mono ?_
  rintro e w1 ⟨rfl, rfl⟩
  go_wp2_with fail
  refine HG.out.mono ?_
  rintro e w1 ⟨rfl, rfl⟩
  go_wp2_with fail
  go_region_held3 (fun w' => True) (trivial)
    (first
      | (go_at_call 73; refine (HCk.out w.drew rfl).mono ?_; rintro e w3 ⟨rfl, hb3⟩)
      | (go_at_call 86; go_must (refine (HG2.out _ ((Below.refl _ w).drew.trans hb3)).mono ?_); rintro e w4 ⟨rfl, rfl⟩))
  have hb4 := (Below.refl w.heap.size w).drew.trans hb3
  clear hb3
  have c1 : (4 : Int) ≤ 4 + (v : Int) := by omega
  have c2 : ¬ (c = 4) := by omega
  have c3 : 4 + v - 4 = v := by omega
  have HG8 := Lib.hid hg
  clear hp hg hm hnc h8 hv hs hB hbne
  go_wp2_with fail
  refine (HCl.out _ hb4).mono ?_
  rintro e w5 ⟨A5, c5, rfl, h5a, h5b, h5r, h5w⟩
  rw [HBL.out] at h5a ⊢
  have hb5 := hb4.trans (h5w.mono hb4.size)
  have H5r := Lib.hid h5r
  clear h5r
  go_wp2_with fail
  refine (Size_any v _ (by have := HG8.out; omega)).mono ?_
  rintro e w6 ⟨rfl, rfl⟩
  go_wp2_with fail
  go_ret3
  exact ⟨A5, c5, rfl, h5a, h5b, H5r.out, HBL.out, hb5⟩
end
end Go.Proofs.YtbaenpgjggojaaaDoor
