/-
The reel's small functions: halves, places, marks, four bytes and their number, pages. No condition but sizes.
The reel's guards, and its sectors: fits, holds, number, marked. No condition but sizes.
-/
import Derived.Test.YtbaenpgjggojaaaDrumXZ9
import Derived.Test.YtbaenpgjggojaaaFrmZ9
namespace Go.Proofs.Ytbaenpgjggojaaa
open Go.ChangeShapes Go.WideShapes Go.RowKit

def halfN (n : Nat) : Nat := (n - 2) / 2
def pagesN (n : Nat) : Nat := n / 254 + (n % 254 + 261) / 254
def markN (gen : Nat) : Nat := gen % 251 + 1

section
variable {w : World} {base d : Nat} {o : Nat → Prop} {fl : List (List UInt8)} {ws : List (Nat × List UInt8)} {left : Int}
theorem RSize_dr (h : Dr w base d o fl ws left) : Calls Try.prog 31 #[.pointer (some ⟨d, 0, none⟩)] w fun e w' => e = .returned (.int .i64 (fl.length : Int)) ∧ w' = w := by
  obtain ⟨f, g, V, cv, T, ls, h, hr, rfl⟩ := h
  obtain ⟨c0, -⟩ := dhead_cells h.head
  clear h hr
  go_enter Try.func31, Try.ntmps31
  go_wp2
  go_ret
  exact ⟨rfl, rfl⟩
theorem half_dr (h : Dr w base d o fl ws left) (h2 : 2 ≤ fl.length) : Calls Try.prog 29 #[.pointer (some ⟨d, 0, none⟩)] w fun e w' => e = .returned (.int .i64 (halfN fl.length : Nat)) ∧ w' = w := by
  have cS := RSize_dr h
  have hf := h.few
  clear h
  obtain ⟨n, hn⟩ : ∃ n, fl.length = n := ⟨_, rfl⟩
  rw [hn] at cS h2 hf ⊢
  have h3 : (2 : Int) ≤ (n : Int) := by omega
  have h4 : (n : Int) ≤ 8192 := by omega
  have e : ((n : Int) - 2).tdiv 2 = (halfN n : Nat) := by
    unfold halfN
    rw [Int.tdiv_eq_ediv_of_nonneg (by omega)]
    omega
  have e2 : ((n : Int) - 2) / 2 = (halfN n : Nat) := by unfold halfN; omega
  have hh : ((halfN n : Nat) : Int) ≤ 8192 := by unfold halfN; omega
  clear hn
  go_enter Try.func29, Try.ntmps29
  go_wp2_with fail
  refine cS.mono ?_
  rintro e w' ⟨rfl, rfl⟩
  go_wp2_with fail
  go_ret
  refine ⟨?_, rfl⟩
  first | rfl | (simp; done) | omega
end
theorem place_any (g : Nat) (w : World) : Calls Try.prog 58 #[.int .u32 (g : Int)] w fun e w' => e = .returned (.int .i64 ((g % 2 : Nat) : Int)) ∧ w' = w := by
  go_enter Try.func58, Try.ntmps58
  go_wp2
  go_ret
  refine ⟨?_, rfl⟩
  simp
theorem headMark_any (g : Nat) (w : World) : Calls Try.prog 70 #[.int .u32 (g : Int)] w fun e w' => e = .returned (.int .u8 (markN g : Nat)) ∧ w' = w := by
  go_enter Try.func70, Try.ntmps70
  go_wp2
  go_ret
  refine ⟨?_, rfl⟩
  unfold markN
  simp
theorem four_any (g : Nat) (hg : g < 4294967296) (w : World) : Calls Try.prog 65 #[.int .u32 (g : Int)] w fun e w' =>
    e = .returned (.slice (some ⟨w.heap.size, 0, none⟩) 4 4) ∧ Blk w' w.heap.size 5 ((Crc.wrd g).map enc8).toArray ∧ Below w.heap.size w w' := by
  go_enter Try.func65, Try.ntmps65
  go_wp2
  go_ret
  refine ⟨rfl, ?_, (Below.refl _ _).alloc (Nat.le_refl _) _⟩
  have e : ((Crc.wrd g).map enc8).toArray = #[.int .u8 ((g : Int) % 256), .int .u8 ((g : Int) / 256 % 256), .int .u8 ((g : Int) / 65536 % 256), .int .u8 ((g : Int) / 16777216)] := by
    unfold Crc.wrd enc8
    simp [UInt8.toNat_ofNat']
    omega
  rw [e]
  exact Blk.new w _ _
theorem Pages_any (n : Nat) (hn : n ≤ 4611686018427387904) (w : World) : Calls Try.prog 55 #[.int .i64 (n : Int)] w fun e w' => e = .returned (.int .i64 (pagesN n : Nat)) ∧ w' = w := by
  have h1 : (n : Int) ≤ 4611686018427387904 := by omega
  have h0 : (0 : Int) ≤ (n : Int) := by omega
  have cS := fun W => Size_any (n % 254) W (by omega)
  have e9 : pagesN n = n / 254 + (n % 254 + 261) / 254 := rfl
  obtain ⟨p, hp⟩ : ∃ p, pagesN n = p := ⟨_, rfl⟩
  rw [hp] at e9 ⊢
  obtain ⟨q, hq⟩ : ∃ q, n / 254 = q := ⟨_, rfl⟩
  obtain ⟨r, hr⟩ : ∃ r, n % 254 = r := ⟨_, rfl⟩
  obtain ⟨k, hk⟩ : ∃ k, (r + 261) / 254 = k := ⟨_, rfl⟩
  rw [hq, hr, hk] at e9
  rw [hr] at cS
  have q1 : (n : Int).tdiv 254 = (q : Int) := by rw [Int.tdiv_eq_ediv_of_nonneg h0]; omega
  have q2 : (n : Int) / 254 = (q : Int) := by omega
  have r1 : (n : Int).tmod 254 = (r : Int) := by rw [Int.tmod_eq_emod_of_nonneg h0]; omega
  have r2 : (n : Int) % 254 = (r : Int) := by omega
  have r3 : (r : Int) ≤ 253 := by omega
  have q3 : (q : Int) ≤ 4611686018427387904 := by omega
  have HE := Lib.hid (And.intro hk e9)
  have h8 : ((r + 8 : Nat) : Int) = (r : Int) + 8 := by omega
  rw [h8] at cS
  clear hp e9 hq hr hk hn h8
  go_enter Try.func55, Try.ntmps55
  go_wp2_with fail
  refine (cS _).mono ?_
  rintro e w' ⟨rfl, rfl⟩
  clear q1 q2 r1 r2 cS h0 h1
  obtain ⟨hk, e9⟩ := HE.out
  have r0 : (0 : Int) ≤ (r : Int) := by omega
  have k3 : ((r : Int) + 261).tdiv 254 = (k : Int) := by rw [Int.tdiv_eq_ediv_of_nonneg (by omega)]; omega
  have k4 : ((r : Int) + 261) / 254 = (k : Int) := by omega
  have k5 : (k : Int) ≤ 3 := by omega
  have k7 : (0 : Int) ≤ (k : Int) := by omega
  have q7 : (0 : Int) ≤ (q : Int) := by omega
  have k2 : (r : Int) + 8 + 254 - 1 = (r : Int) + 261 := by omega
  clear hk HE
  have HE := Lib.hid e9
  clear e9
  go_wp2_with fail
  go_ret
  refine ⟨?_, rfl⟩
  have e9 := HE.out
  first | rfl | (simp; omega) | omega
end Go.Proofs.Ytbaenpgjggojaaa
namespace Go.Proofs.Ytbaenpgjggojaaa
open Go.ChangeShapes Go.WideShapes Go.RowKit

/-- What fits says of n bytes and so much room: the error's number; 0: none. -/
def fitsN (n : Nat) (room : Int) : Nat := if 100000 < n then 4 else if room < (pagesN n : Int) then 6 else 0
def errV (k : Nat) : Value := if k = 0 then .nilIface else .iface 54 (.int .i64 (k : Int))

theorem fits_any (A : Option Addr) (n c : Nat) (hn : n ≤ 140737488355328) (room : Int) (w : World) :
    Calls Try.prog 28 #[.slice A n c, .int .i64 room] w fun e w' => e = .returned (errV (fitsN n room)) ∧ w' = w := by
  have h1 : (n : Int) ≤ 140737488355328 := by omega
  have cP := fun W => Pages_any n (by omega) W
  unfold fitsN errV
  by_cases hl : 100000 < n
  · have hl2 : (100000 : Int) < (n : Int) := by omega
    rw [if_pos hl]
    clear hl cP
    go_enter Try.func28, Try.ntmps28
    go_wp2_with fail
    go_ret
    exact ⟨rfl, rfl⟩
  · have hl2 : ¬ (100000 : Int) < (n : Int) := by omega
    rw [if_neg hl]
    obtain ⟨p, hp⟩ : ∃ p, pagesN n = p := ⟨_, rfl⟩
    rw [hp] at cP ⊢
    clear hl hp
    by_cases hr : room < (p : Int)
    · rw [if_pos hr]
      go_enter Try.func28, Try.ntmps28
      go_wp2_with fail
      refine (cP _).mono ?_
      rintro e w' ⟨rfl, rfl⟩
      clear cP
      go_wp2_with fail
      go_ret
      exact ⟨rfl, rfl⟩
    · rw [if_neg hr]
      go_enter Try.func28, Try.ntmps28
      go_wp2_with fail
      refine (cP _).mono ?_
      rintro e w' ⟨rfl, rfl⟩
      clear cP
      go_wp2_with fail
      go_ret
      exact ⟨rfl, rfl⟩
theorem holds_nil (w : World) : Calls Try.prog 27 #[.pointer none] w fun e w' => e = .returned (errV 3) ∧ w' = w := by
  go_enter Try.func27, Try.ntmps27
  go_wp2
  go_ret
  exact ⟨rfl, rfl⟩
section
variable {w : World} {base d : Nat} {o : Nat → Prop} {fl : List (List UInt8)} {ws : List (Nat × List UInt8)} {left : Int}
theorem holds_dr (h : Dr w base d o fl ws left) : Calls Try.prog 27 #[.pointer (some ⟨d, 0, none⟩)] w fun e w' => e = .returned (errV (if fl.length < 6 then 1 else 0)) ∧ w' = w := by
  have cS := RSize_dr h
  have hf := h.few
  clear h
  obtain ⟨n, hn⟩ : ∃ n, fl.length = n := ⟨_, rfl⟩
  rw [hn] at cS hf ⊢
  clear hn
  have hm : (n : Int) ≤ 8192 := by omega
  clear hf
  by_cases h6 : n < 6
  · have h7 : (n : Int) < 6 := by omega
    rw [if_pos h6]
    clear h6
    go_enter Try.func27, Try.ntmps27
    go_wp2_with fail
    refine cS.mono ?_
    rintro e w' ⟨rfl, rfl⟩
    clear cS
    go_wp2_with fail
    go_ret
    exact ⟨rfl, rfl⟩
  · have h7 : ¬ (n : Int) < 6 := by omega
    rw [if_neg h6]
    clear h6
    go_enter Try.func27, Try.ntmps27
    go_wp2_with fail
    refine cS.mono ?_
    rintro e w' ⟨rfl, rfl⟩
    clear cS
    go_wp2_with fail
    go_ret
    exact ⟨rfl, rfl⟩
end
theorem or_sh (a b : Nat) (k : Nat) (P : Nat) (hP : 2 ^ k = P) (ha : a < P) (hb : b * P < 4294967296) (hk : P ≤ 4294967296) : bits .or .u32 (a : Int) ((b : Int) * (P : Int)) = ((a + b * P : Nat) : Int) := by
  have e : (b : Int) * (P : Int) = ((b * P : Nat) : Int) := by omega
  rw [e, Go.u32_or_nat a (b * P) (by omega) hb, Nat.or_comm, Go.nat_join k _ _ (by rw [hP]; exact Nat.mul_mod_left _ _) (by rw [hP]; exact ha)]
  omega
/-- number: of four bytes, the lowest first. -/
theorem number_any (A : Option Addr) (c B : Nat) (l : List UInt8) (w : World) (hR : Rd w B A l) (hn : l.length = 4) :
    Calls Try.prog 73 #[.slice A 4 c] w fun e w' => e = .returned (.int .u32 (valK l 4 : Nat)) ∧ Below w.heap.size w w' := by
  obtain ⟨a0, a1, a2, a3, rfl⟩ : ∃ a0 a1 a2 a3, l = [a0, a1, a2, a3] := by
    match l, hn with
    | [a0, a1, a2, a3], _ => exact ⟨a0, a1, a2, a3, rfl⟩
  obtain ⟨b, q, rfl, -, hc⟩ := hR (by simp)
  have c0 := hc 0 a0 rfl
  have c1 := hc 1 a1 rfl
  have c2 := hc 2 a2 rfl
  have c3 := hc 3 a3 rfl
  rw [Nat.add_zero] at c0
  have b0 := Crc.u8_lt a0
  have b1 := Crc.u8_lt a1
  have b2 := Crc.u8_lt a2
  have b3 := Crc.u8_lt a3
  obtain ⟨x0, e0⟩ : ∃ x, a0.toNat = x := ⟨_, rfl⟩
  obtain ⟨x1, e1⟩ : ∃ x, a1.toNat = x := ⟨_, rfl⟩
  obtain ⟨x2, e2⟩ : ∃ x, a2.toNat = x := ⟨_, rfl⟩
  obtain ⟨x3, e3⟩ : ∃ x, a3.toNat = x := ⟨_, rfl⟩
  have ev : valK [a0, a1, a2, a3] 4 = x0 + x1 * 256 + x2 * 65536 + x3 * 16777216 := by simp [valK, e0, e1, e2, e3]
  rw [e0] at c0 b0
  rw [e1] at c1 b1
  rw [e2] at c2 b2
  rw [e3] at c3 b3
  rw [ev]
  clear hc hn hR e0 e1 e2 e3 ev
  go_enter Try.func73, Try.ntmps73
  have o1 : bits .or .u32 (x0 : Int) ((x1 : Int) * 256) = ((x0 + x1 * 256 : Nat) : Int) := or_sh x0 x1 8 256 rfl b0 (by omega) (by decide)
  have o2 : bits .or .u32 ((x0 + x1 * 256 : Nat) : Int) ((x2 : Int) * 65536) = ((x0 + x1 * 256 + x2 * 65536 : Nat) : Int) := or_sh (x0 + x1 * 256) x2 16 65536 rfl (by omega) (by omega) (by decide)
  have o3 : bits .or .u32 ((x0 + x1 * 256 + x2 * 65536 : Nat) : Int) ((x3 : Int) * 16777216) = ((x0 + x1 * 256 + x2 * 65536 + x3 * 16777216 : Nat) : Int) := or_sh (x0 + x1 * 256 + x2 * 65536) x3 24 16777216 rfl (by omega) (by omega) (by decide)
  have HO := Lib.hid (And.intro o1 (And.intro o2 o3))
  clear o1 o2 o3
  go_wp2
  go_region
  go_wp2
  go_ret
  obtain ⟨o1, o2, o3⟩ := HO.out
  refine ⟨?_, (Below.refl _ _).drew⟩
  show Ending.returned (Value.int _ _) = _
  rw [o1, o2, o3]
/-- A sector: a mark at both ends, and bytes with noughts behind them between. -/
def sector (m : UInt8) (l : List UInt8) : List UInt8 := m :: (l.take 254 ++ List.replicate (254 - l.length) 0) ++ [m]
theorem sector_len (m : UInt8) (l : List UInt8) : (sector m l).length = 256 := by
  unfold sector
  simp
  omega
theorem sector_splice (m : UInt8) (l : List UInt8) :
    splice (enc8 m :: (List.replicate 254 (.int .u8 0) ++ [enc8 m])) 1 ((l.map enc8).take 254) = (sector m l).map enc8 := by
  unfold splice sector
  have h1 : ((l.map enc8).take 254).length = min 254 l.length := by simp
  have e0 : enc8 0 = .int .u8 0 := rfl
  rw [h1, Nat.add_comm 1, List.drop_succ_cons, List.drop_append_of_le_length (by rw [List.length_replicate]; omega), List.drop_replicate]
  rw [show 254 - min 254 l.length = 254 - l.length from by omega]
  simp only [List.take_succ_cons, List.take_zero, List.map_cons, List.map_append, List.map_replicate, e0, List.map_take, List.map_nil, List.cons_append, List.nil_append, List.append_assoc]
set_option maxRecDepth 20000 in
theorem cur256 (v : Value) : ((madeCells #[.int .u8 0] 256).setIfInBounds 0 v).setIfInBounds 255 v = (v :: (List.replicate 254 (.int .u8 0) ++ [v])).toArray := by
  apply Array.toList_inj.1
  rw [Array.toList_setIfInBounds, Array.toList_setIfInBounds, toList_madeCells_one]
  rw [show (256 : Nat) = 255 + 1 from rfl, List.replicate_succ, List.set_cons_zero, List.set_cons_succ, show (255 : Nat) = 254 + 1 from rfl, List.replicate_succ', List.set_append_right _ _ (by simp)]
  simp
theorem make256 (u : World) : (Instr.makeSlice 35 (.int .i64 256) (.int .i64 256)).run Try.prog u = .ok (.slice (some ⟨u.heap.size, 0, none⟩) 256 256) (u.alloc (.cells (madeCells #[.int .u8 0] 256) 5)) := makeB 248 (by decide) u
set_option maxRecDepth 20000 in
theorem marked_any (m : UInt8) (A : Option Addr) (n c B : Nat) (l : List UInt8) (w : World) (hR : Rd w B A l) (hB : B ≤ w.heap.size) (hn : l.length = n) (hm : n ≤ 1000000) :
    Calls Try.prog 43 #[.int .u8 (m.toNat : Int), .slice A n c] w fun e w' =>
      e = .returned (.slice (some ⟨w.heap.size, 0, none⟩) 256 256) ∧ Blk w' w.heap.size 5 ((sector m l).map enc8).toArray ∧ Below w.heap.size w w' := by
  obtain ⟨Z, hZ⟩ : ∃ Z, madeCells #[.int .u8 0] 256 = Z := ⟨_, rfl⟩
  have hz : ∀ i, i < 256 → Z[i]? = some (.int .u8 0) := fun i hi => by
    rw [← hZ, ← Array.getElem?_toList, toList_madeCells_one, List.getElem?_replicate, if_pos hi]
  have hmk := make256 w
  have hb1 := Blk.new w 5 Z
  have hw1 := (Below.refl _ w).alloc (Nat.le_refl _) (.cells Z 5)
  rw [hZ] at hmk
  obtain ⟨W1, hW1⟩ : ∃ W, w.alloc (.cells Z 5) = W := ⟨_, rfl⟩
  rw [hW1] at hmk hb1 hw1
  obtain ⟨g, hg⟩ : ∃ g, w.heap.size = g := ⟨_, rfl⟩
  rw [hg] at hmk hb1 hw1 hB ⊢
  have c0 := (hb1.cell 0).trans (hz 0 (by decide))
  have c255 := (hb1.cell 255).trans (hz 255 (by decide))
  have f0 := hb1.frozen 0
  have f255 := hb1.frozen 255
  have hlt := hb1.lt
  have HN := Lib.hid hn
  have HZ := Lib.hid hZ
  have HB1 := Lib.hid hb1
  have HW1 := Lib.hid hw1
  have HR := Lib.hid hR
  have HBB := Lib.hid hB
  have hv : (Value.int .u8 (m.toNat : Int)) = enc8 m := rfl
  obtain ⟨cur, hcur⟩ : ∃ cur, enc8 m :: (List.replicate 254 (.int .u8 0) ++ [enc8 m]) = cur := ⟨_, rfl⟩
  obtain ⟨X, hX⟩ : ∃ X, (l.map enc8).take 254 = X := ⟨_, rfl⟩
  have hb3 := (hb1.set_ 0 (.int .u8 (m.toNat : Int))).set_ 255 (.int .u8 (m.toNat : Int))
  rw [← hZ, hv, cur256, hcur] at hb3
  have HB3 := Lib.hid (show ((W1.setCell ⟨g, 0, none⟩ (.int .u8 (m.toNat : Int))).setCell ⟨g, 255, none⟩ (.int .u8 (m.toNat : Int))).heap[g]? = some (.cells cur.toArray 5 (0, 0)) from hb3)
  have hw3 := (hw1.setCell (Nat.le_refl g) (.int .u8 (m.toNat : Int)) (p := ⟨g, 0, none⟩)).setCell (Nat.le_refl g) (.int .u8 (m.toNat : Int)) (p := ⟨g, 255, none⟩)
  have HW3 := Lib.hid hw3
  have HXL : Hid (X.length = min 254 n) := Lib.hid (by rw [← hX, ← hn]; simp)
  have HCL : Hid (cur.length = 256) := Lib.hid (by rw [← hcur, List.length_cons, List.length_append, List.length_replicate]; rfl)
  have HX1 : Hid (∀ u ∈ X, u.oneCell' = true) := Lib.hid (by rw [← hX]; exact fun u hu => enc8_one l u (List.mem_of_mem_take hu))
  have hR3 := (hR.more hB).below hw3
  have HLR : Hid (0 < X.length → ∃ ad, A = some ad ∧ ∀ (j : Nat) v, X[j]? = some v → (((W1.setCell ⟨g, 0, none⟩ (.int .u8 (m.toNat : Int))).setCell ⟨g, 255, none⟩ (.int .u8 (m.toNat : Int))).cell? (ad.add j) = some v)) := Lib.hid (by
    rw [← hX]
    intro h0
    obtain ⟨ad, e, h⟩ := list_rd hR3 (by simp at h0 ⊢; omega)
    refine ⟨ad, e, fun j v hj => h j v ?_⟩
    rw [List.getElem?_take] at hj
    split at hj
    · exact hj
    · cases hj)
  have HCX := Lib.hid (And.intro hcur hX)
  clear hn hZ hb1 hw1 hW1 hR hB hz hg hb3 hw3 hR3 hcur hX hv HB1 HW1 HR HBB
  go_enter Try.func43, Try.ntmps43
  go_wp2_with (with_reducible refine wpList_copy_splice (o := ⟨some 16, _, _, _, _, _⟩) rfl (.tmp 14) (.tmp 15) 35 35 rfl 5 Try.underlying35 sizeB (some ⟨g, 1, none⟩) A 254 255 n c ?ha ?hb g 1 cur 5 HB3.out X ?hc ?hd ?he HX1.out g w HW3.out (Nat.le_refl _) ?_)
  case ha => rfl
  case hb => rfl
  case hc => exact HXL.out.trans (Nat.min_comm _ _)
  case hd => exact HLR.out
  case he => rw [HXL.out, HCL.out]; omega
  intro w2 hb2 hbw2
  go_wp2
  go_ret
  refine ⟨rfl, ?_, hbw2⟩
  have h := hb2.out
  rw [← HCX.out.1, ← HCX.out.2, sector_splice] at h
  exact h
end Go.Proofs.Ytbaenpgjggojaaa
