/-
What Next tells of a frame; Next for any bytes; the packages' own example. Conditions: sizes.
The reel's small functions: halves, places, marks, four bytes and their number, pages. No condition but sizes.
-/
import Derived.Test.YtbaenpgjggojaaaDoorNextBM
import Derived.Test.YtbaenpgjggojaaaDoorDrumXM
namespace Go.Proofs.YtbaenpgjggojaaaDoor
open Go.RowKit

theorem headOf_wrd (x : Nat) (m : List UInt8) (hx : x < 4294967296) : headOf (Crc.wrd x ++ m) = x := by
  have e0 : (Crc.wrd x ++ m).getD 0 0 = UInt8.ofNat x := rfl
  have e1 : (Crc.wrd x ++ m).getD 1 0 = UInt8.ofNat (x / 256) := rfl
  have e2 : (Crc.wrd x ++ m).getD 2 0 = UInt8.ofNat (x / 65536) := rfl
  have e3 : (Crc.wrd x ++ m).getD 3 0 = UInt8.ofNat (x / 16777216) := rfl
  simp only [headOf, valK, e0, e1, e2, e3, Crc.ofNat_toNat]
  omega
/-- The check of a frame's bytes. -/
def sumOf (s : Nat) (l : List UInt8) : Nat := Crc.chk s (Crc.wrd l.length ++ l)
theorem frm_eq (s : Nat) (l : List UInt8) : Crc.frm s l = (Crc.wrd l.length ++ l) ++ Crc.wrd (sumOf s l) := rfl
theorem take_front {α : Type} (a b : List α) (k : Nat) (h : k = a.length) : (a ++ b).take k = a := by subst h; exact List.take_left
theorem drop_front {α : Type} (a b : List α) (k : Nat) (h : k = a.length) : (a ++ b).drop k = b := by subst h; exact List.drop_left
theorem frm_head (s : Nat) (l : List UInt8) (hl : l.length < 4294967296) : headOf (Crc.frm s l) = l.length := by
  rw [frm_eq, List.append_assoc]
  exact headOf_wrd _ _ hl
theorem frm_pre (s : Nat) (l : List UInt8) : (Crc.frm s l).take (4 + l.length) = Crc.wrd l.length ++ l := by
  rw [frm_eq]
  exact take_front _ _ _ (by rw [List.length_append, Crc.wrd_length])
theorem frm_post (s : Nat) (l : List UInt8) : (Crc.frm s l).drop (4 + l.length) = Crc.wrd (sumOf s l) := by
  rw [frm_eq]
  exact drop_front _ _ _ (by rw [List.length_append, Crc.wrd_length])
/-- What Next tells of a frame, with whatever behind it. -/
theorem nxt_frm (t s : Nat) (l m : List UInt8) (hl : l.length ≤ 100000) :
    nxtErr t (Crc.frm s l ++ m) = if isBlank (Crc.frm s l ++ m) then 3 else if sumOf t l ≠ sumOf s l then 5 else 0 := by
  have h1 : headOf (Crc.frm s l ++ m) = l.length := by
    rw [frm_eq, List.append_assoc, List.append_assoc]
    exact headOf_wrd _ _ (by omega)
  have h2 : (Crc.frm s l ++ m).length = l.length + 8 + m.length := by rw [List.length_append, Crc.frm_length]
  have h3 : (Crc.frm s l ++ m).take (4 + l.length) = Crc.wrd l.length ++ l := by
    rw [List.take_append_of_le_length (by rw [Crc.frm_length]; omega)]
    exact frm_pre s l
  have h4 : headOf ((Crc.frm s l ++ m).drop (4 + l.length)) = sumOf s l := by
    rw [List.drop_append_of_le_length (by rw [Crc.frm_length]; omega), frm_post]
    exact headOf_wrd _ _ (Crc.chk_lt _ _)
  unfold nxtErr
  rw [h1, h2, h3, h4]
  by_cases hb : isBlank (Crc.frm s l ++ m) = true
  · rw [if_pos hb, if_pos hb]
  · rw [if_neg hb, if_neg hb, if_neg (by omega), if_neg (by omega)]
    rfl
theorem nxt_frm_body (s : Nat) (l m : List UInt8) (hl : l.length ≤ 100000) : headOf (Crc.frm s l ++ m) = l.length ∧ nxtBody (Crc.frm s l ++ m) = l := by
  have h1 : headOf (Crc.frm s l ++ m) = l.length := by
    rw [frm_eq, List.append_assoc, List.append_assoc]
    exact headOf_wrd _ _ (by omega)
  refine ⟨h1, ?_⟩
  unfold nxtBody
  rw [h1, frm_eq, List.append_assoc, List.append_assoc, drop_front (Crc.wrd l.length) _ 4 rfl]
  exact take_front _ _ _ rfl

section
variable (s : Nat) (A : Option Addr) (n c B : Nat) (l : List UInt8) (w : World)
/-- Next, where it tells an error. -/
theorem Next_no (hs : s < 4294967296) (hR : Rd w B A l) (hB : B ≤ w.heap.size) (hn : l.length = n) (hm : n ≤ 140737488355328) (hnc : n ≤ c) (hc : c ≤ maxLen) (h : nxtErr s l ≠ 0) :
    Calls Tryd.prog 76 #[.int .u32 s, .slice A n c] w (NextNo (nxtErr s l) w) := by
  unfold nxtErr at h ⊢
  subst hn
  by_cases h1 : isBlank l = true
  · rw [if_pos h1]
    exact Next_blank s A _ c B l w hR rfl (small_len hm) h1
  have h1' : isBlank l = false := by simpa using h1
  rw [if_neg h1] at h ⊢
  by_cases h2 : l.length < 8
  · rw [if_pos (.inl h2)]
    exact Next_short s A _ c B l w hR rfl (small_len hm) h1' h2
  by_cases h3 : l.length - 8 < headOf l
  · rw [if_pos (.inr h3)]
    exact Next_part s A _ c B l w hR rfl (small_len hm) h1' (by omega) h3
  rw [if_neg (fun h => h.elim h2 h3)] at h ⊢
  by_cases h4 : 100000 < headOf l
  · rw [if_pos h4]
    exact Next_long s A _ c B l w hR rfl (small_len hm) h1' (by omega) (by omega) h4
  rw [if_neg h4] at h ⊢
  by_cases h5 : Crc.chk s (l.take (4 + headOf l)) ≠ headOf (l.drop (4 + headOf l))
  · rw [if_pos h5]
    exact Next_sum s A _ c B l w hs hR hB rfl hm hnc hc h1' (by omega) (by omega) (by omega) h5
  · rw [if_neg h5] at h
    exact absurd rfl h
/-- Next, where it tells bytes. -/
theorem Next_yes (hs : s < 4294967296) (hR : Rd w B A l) (hB : B ≤ w.heap.size) (hn : l.length = n) (hm : n ≤ 140737488355328) (hnc : n ≤ c) (hc : c ≤ maxLen) (h : nxtErr s l = 0) :
    Calls Tryd.prog 76 #[.int .u32 s, .slice A n c] w (NextYes (headOf l) (nxtBody l) w) := by
  unfold nxtErr at h
  subst hn
  by_cases h1 : isBlank l = true
  · rw [if_pos h1] at h
    exact absurd h (by decide)
  have h1' : isBlank l = false := by simpa using h1
  rw [if_neg h1] at h
  by_cases h2 : l.length < 8 ∨ l.length - 8 < headOf l
  · rw [if_pos h2] at h
    exact absurd h (by decide)
  rw [if_neg h2] at h
  by_cases h4 : 100000 < headOf l
  · rw [if_pos h4] at h
    exact absurd h (by decide)
  rw [if_neg h4] at h
  by_cases h5 : Crc.chk s (l.take (4 + headOf l)) = headOf (l.drop (4 + headOf l))
  · exact Next_ok s A _ c B l w hs hR hB rfl hm hnc hc h1' (by omega) (by omega) (by omega) h5
  · rw [if_pos h5] at h
    exact absurd h (by decide)
end

theorem chk_example : Crc.chk 0 [] = 558161692 := by decide +kernel
end Go.Proofs.YtbaenpgjggojaaaDoor
namespace Go.Proofs.YtbaenpgjggojaaaDoor
open Go.ChangeShapes Go.WideShapes Go.RowKit

def halfN (n : Nat) : Nat := (n - 2) / 2
def pagesN (n : Nat) : Nat := n / 254 + (n % 254 + 261) / 254
def markN (gen : Nat) : Nat := gen % 251 + 1

section
variable {w : World} {base d : Nat} {o : Nat → Prop} {fl : List (List UInt8)} {ws : List (Nat × List UInt8)} {left : Int}
theorem RSize_dr (h : Dr w base d o fl ws left) : Calls Tryd.prog 47 #[.pointer (some ⟨d, 0, none⟩)] w fun e w' => e = .returned (.int .i64 (fl.length : Int)) ∧ w' = w := by
  obtain ⟨f, g, V, cv, T, ls, h, hr, rfl⟩ := h
  obtain ⟨c0, -⟩ := dhead_cells h.head
  clear h hr
  go_enter Tryd.func47, Tryd.ntmps47
  go_wp2
  go_ret
  exact ⟨rfl, rfl⟩
theorem half_dr (h : Dr w base d o fl ws left) (h2 : 2 ≤ fl.length) : Calls Tryd.prog 41 #[.pointer (some ⟨d, 0, none⟩)] w fun e w' => e = .returned (.int .i64 (halfN fl.length : Nat)) ∧ w' = w := by
  have cS := RSize_dr h
  have hf := h.few
  clear h
  obtain ⟨n, hn⟩ : ∃ n, fl.length = n := ⟨_, rfl⟩
  rw [hn] at cS h2 hf ⊢
  have h3 : (2 : Int) ≤ (n : Int) := by omega
  have h4 : (n : Int) ≤ 8192 := by omega
  have e : ((n : Int) - 2).tdiv 2 = (halfN n : Nat) := by
    unfold halfN
    rw [Int.tdiv_eq_ediv_of_nonneg (by omega)]
    omega
  have e2 : ((n : Int) - 2) / 2 = (halfN n : Nat) := by unfold halfN; omega
  have hh : ((halfN n : Nat) : Int) ≤ 8192 := by unfold halfN; omega
  clear hn
  go_enter Tryd.func41, Tryd.ntmps41
  go_wp2_with fail
  refine cS.mono ?_
  rintro e w' ⟨rfl, rfl⟩
  go_wp2_with fail
  go_ret
  refine ⟨?_, rfl⟩
  first | rfl | (simp; done) | omega
end
theorem place_any (g : Nat) (w : World) : Calls Tryd.prog 69 #[.int .u32 (g : Int)] w fun e w' => e = .returned (.int .i64 ((g % 2 : Nat) : Int)) ∧ w' = w := by
  go_enter Tryd.func69, Tryd.ntmps69
  go_wp2
  go_ret
  refine ⟨?_, rfl⟩
  simp
theorem headMark_any (g : Nat) (w : World) : Calls Tryd.prog 78 #[.int .u32 (g : Int)] w fun e w' => e = .returned (.int .u8 (markN g : Nat)) ∧ w' = w := by
  go_enter Tryd.func78, Tryd.ntmps78
  go_wp2
  go_ret
  refine ⟨?_, rfl⟩
  unfold markN
  simp
theorem four_any (g : Nat) (hg : g < 4294967296) (w : World) : Calls Tryd.prog 74 #[.int .u32 (g : Int)] w fun e w' =>
    e = .returned (.slice (some ⟨w.heap.size, 0, none⟩) 4 4) ∧ Blk w' w.heap.size 5 ((Crc.wrd g).map enc8).toArray ∧ Below w.heap.size w w' := by
  go_enter Tryd.func74, Tryd.ntmps74
  go_wp2
  go_ret
  refine ⟨rfl, ?_, (Below.refl _ _).alloc (Nat.le_refl _) _⟩
  have e : ((Crc.wrd g).map enc8).toArray = #[.int .u8 ((g : Int) % 256), .int .u8 ((g : Int) / 256 % 256), .int .u8 ((g : Int) / 65536 % 256), .int .u8 ((g : Int) / 16777216)] := by
    unfold Crc.wrd enc8
    simp [UInt8.toNat_ofNat']
    omega
  rw [e]
  exact Blk.new w _ _
theorem Pages_any (n : Nat) (hn : n ≤ 4611686018427387904) (w : World) : Calls Tryd.prog 24 #[.int .i64 (n : Int)] w fun e w' => e = .returned (.int .i64 (pagesN n : Nat)) ∧ w' = w := by
  have h1 : (n : Int) ≤ 4611686018427387904 := by omega
  have h0 : (0 : Int) ≤ (n : Int) := by omega
  have cS := fun W => Size_any (n % 254) W (by omega)
  have e9 : pagesN n = n / 254 + (n % 254 + 261) / 254 := rfl
  obtain ⟨p, hp⟩ : ∃ p, pagesN n = p := ⟨_, rfl⟩
  rw [hp] at e9 ⊢
  obtain ⟨q, hq⟩ : ∃ q, n / 254 = q := ⟨_, rfl⟩
  obtain ⟨r, hr⟩ : ∃ r, n % 254 = r := ⟨_, rfl⟩
  obtain ⟨k, hk⟩ : ∃ k, (r + 261) / 254 = k := ⟨_, rfl⟩
  rw [hq, hr, hk] at e9
  rw [hr] at cS
  have q1 : (n : Int).tdiv 254 = (q : Int) := by rw [Int.tdiv_eq_ediv_of_nonneg h0]; omega
  have q2 : (n : Int) / 254 = (q : Int) := by omega
  have r1 : (n : Int).tmod 254 = (r : Int) := by rw [Int.tmod_eq_emod_of_nonneg h0]; omega
  have r2 : (n : Int) % 254 = (r : Int) := by omega
  have r3 : (r : Int) ≤ 253 := by omega
  have q3 : (q : Int) ≤ 4611686018427387904 := by omega
  have HE := Lib.hid (And.intro hk e9)
  have h8 : ((r + 8 : Nat) : Int) = (r : Int) + 8 := by omega
  rw [h8] at cS
  clear hp e9 hq hr hk hn h8
  go_enter Tryd.func24, Tryd.ntmps24
  go_wp2_with fail
  refine (cS _).mono ?_
  rintro e w' ⟨rfl, rfl⟩
  clear q1 q2 r1 r2 cS h0 h1
  obtain ⟨hk, e9⟩ := HE.out
  have r0 : (0 : Int) ≤ (r : Int) := by omega
  have k3 : ((r : Int) + 261).tdiv 254 = (k : Int) := by rw [Int.tdiv_eq_ediv_of_nonneg (by omega)]; omega
  have k4 : ((r : Int) + 261) / 254 = (k : Int) := by omega
  have k5 : (k : Int) ≤ 3 := by omega
  have k7 : (0 : Int) ≤ (k : Int) := by omega
  have q7 : (0 : Int) ≤ (q : Int) := by omega
  have k2 : (r : Int) + 8 + 254 - 1 = (r : Int) + 261 := by omega
  clear hk HE
  have HE := Lib.hid e9
  clear e9
  go_wp2_with fail
  go_ret
  refine ⟨?_, rfl⟩
  have e9 := HE.out
  first | rfl | (simp; omega) | omega
end Go.Proofs.YtbaenpgjggojaaaDoor
