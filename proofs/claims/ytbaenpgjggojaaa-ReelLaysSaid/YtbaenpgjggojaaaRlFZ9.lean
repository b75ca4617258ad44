/-
clean and wipe. Conditions: a drum that isn't armed; sectors that there are; room for the writes.
The reel's places: start, end, Room, seed. Conditions: a reel in memory, its drum of two sectors at least.
-/
import Derived.Test.YtbaenpgjggojaaaRlDZ9
namespace Go.Proofs.Ytbaenpgjggojaaa
open Go.ChangeShapes Go.WideShapes Go.RowKit

/-- The write that lays noughts, one after the other, where there are none. -/
def wipeW (fl : List (List UInt8)) (ws : List (Nat × List UInt8)) (a : Nat) : Nat → List (Nat × List UInt8)
  | 0 => ws
  | k + 1 => if now fl (wipeW fl ws a k) (a + k) = zeros then wipeW fl ws a k else wipeW fl ws a k ++ [(a + k, zeros)]
theorem wipeW_len (fl : List (List UInt8)) (ws : List (Nat × List UInt8)) (a k : Nat) : ws.length ≤ (wipeW fl ws a k).length ∧ (wipeW fl ws a k).length ≤ ws.length + k := by
  induction k with
  | zero => simp [wipeW]
  | succ k ih =>
    unfold wipeW
    split
    · omega
    · simp; omega
theorem full_nil : full [] = zeros := rfl
theorem now_add (fl : List (List UInt8)) (ws : List (Nat × List UInt8)) (i j : Nat) (s : List UInt8) (hi : i < fl.length) : now fl (ws ++ [(i, s)]) j = if i = j then s else now fl ws j := by
  unfold now
  rw [app_add, List.getD_eq_getElem?_getD, List.getD_eq_getElem?_getD, List.getElem?_set]
  dsimp only
  by_cases h : i = j
  · subst h
    rw [if_pos rfl, if_pos rfl, if_pos (by rw [app_length]; exact hi)]
    rfl
  · rw [if_neg h, if_neg h]
/-- What wipe leaves: noughts where it went, all else as it was. -/
theorem wipeW_now (fl : List (List UInt8)) (ws : List (Nat × List UInt8)) (a k : Nat) (h : a + k ≤ fl.length) (j : Nat) :
    now fl (wipeW fl ws a k) j = if a ≤ j ∧ j < a + k then zeros else now fl ws j := by
  induction k with
  | zero => rw [if_neg (by omega)]; rfl
  | succ k ih =>
    have ih := ih (by omega)
    unfold wipeW
    by_cases hz : now fl (wipeW fl ws a k) (a + k) = zeros
    · rw [if_pos hz]
      by_cases hj : j = a + k
      · rw [hj, hz, if_pos (by omega)]
      · rw [ih]
        by_cases h1 : a ≤ j ∧ j < a + k
        · rw [if_pos h1, if_pos (by omega)]
        · rw [if_neg h1, if_neg (by omega)]
    · rw [if_neg hz, now_add _ _ _ _ _ (by omega)]
      by_cases hj : a + k = j
      · rw [if_pos hj, if_pos (by omega)]
      · rw [if_neg hj, ih]
        by_cases h1 : a ≤ j ∧ j < a + k
        · rw [if_pos h1, if_pos (by omega)]
        · rw [if_neg h1, if_neg (by omega)]
/-- A drum that isn't armed, behind acts on it: what isn't its own is as it was. -/
def DrK (w0 : World) (o0 : Nat → Prop) (base d : Nat) (fl : List (List UInt8)) (ws : List (Nat × List UInt8)) (w' : World) : Prop :=
  ∃ o', Dr w' base d o' fl ws (-1) ∧ Kept o0 w0 w' ∧ ∀ i, i < w0.heap.size → o' i → o0 i
section
variable {w w' w0 : World} {base d : Nat} {o o0 : Nat → Prop} {fl fl' : List (List UInt8)} {ws ws' : List (Nat × List UInt8)}
theorem Dr.drk (h : Dr w base d o fl ws (-1)) : DrK w o base d fl ws w := ⟨o, h, Kept.refl _ _, fun _ _ h => h⟩
theorem DrK.below (h : DrK w0 o0 base d fl ws w) (hb : Below w.heap.size w w') : DrK w0 o0 base d fl ws w' := by
  obtain ⟨o', h1, h2, h3⟩ := h
  exact ⟨o', h1.below hb, h2.trans (Kept.of_below (own := o0) hb) (fun _ _ h => h), h3⟩
theorem DrK.trans (h : Kept o0 w0 w) (ho : ∀ i, i < w0.heap.size → o i → o0 i) (k : DrK w o base d fl' ws' w') : DrK w0 o0 base d fl' ws' w' := by
  obtain ⟨o', h1, h2, h3⟩ := k
  exact ⟨o', h1, h.trans h2 ho, fun i hi hj => ho i hi (h3 i (Nat.lt_of_lt_of_le hi h.size) hj)⟩
theorem rdk_nil (o : Nat → Prop) (w : World) (A : Option Addr) : RdK o w A [] := fun h => absurd h (by simp)

set_option maxHeartbeats 1000000 in
theorem wipe_dr (h : Dr w base d o fl ws (-1)) (a n : Nat) (hn : a + n ≤ fl.length) (hws : ws.length + n ≤ 999999) :
    Calls Try.prog 30 #[.pointer (some ⟨d, 0, none⟩), .int .i64 (a : Int), .int .i64 ((a + n : Nat) : Int)] w fun e w' => e = .returned .nilIface ∧ DrK w o base d fl (wipeW fl ws a n) w' := by
  have hf := h.few
  have b1 : (a : Int) ≤ 8192 := by omega
  have b2 : ((a + n : Nat) : Int) ≤ 8192 := by omega
  obtain ⟨m, hm⟩ : ∃ m, a + n = m := ⟨_, rfl⟩
  have H0 := Lib.hid h.drk
  rw [hm] at b2 ⊢
  have HM := Lib.hid hm
  clear h hm
  go_enter Try.func30, Try.ntmps30
  go_wp2
  go_loopw [7, 8] (fun i _ wr => ∃ k : Nat, k ≤ n ∧ i = .int .i64 ((a + k : Nat) : Int) ∧ DrK w o base d fl (wipeW fl ws a k) wr) (fun i _ _ => m - (intOf i).toNat)
  case atStart => exact ⟨0, Nat.zero_le _, rfl, H0.out⟩
  case round =>
    obtain ⟨k, hk, rfl, hdk⟩ := hrel
    obtain ⟨o1, hd1, hk1, ho1⟩ := hdk
    by_cases hlt : k < n
    · have hlm : ((a + k : Nat) : Int) < (m : Int) := by have := HM.out; omega
      have cC := Clean_dr hd1 (a + k) (by omega)
      have hwl := wipeW_len fl ws a k
      have cW := Write_dr hd1 (by decide) (by decide) (a + k) 0 (by omega) (rdk_nil o1 wr none) rfl (by decide) (by omega)
      rw [show less (-1) = -1 from rfl, full_nil] at cW
      have e9 : wipeW fl ws a (k + 1) = if now fl (wipeW fl ws a k) (a + k) = zeros then wipeW fl ws a k else wipeW fl ws a k ++ [(a + k, zeros)] := rfl
      have HK1 := Lib.hid hk1
      have HO1 := Lib.hid ho1
      have HD1 := Lib.hid hd1
      have hak : (((a + k : Nat) : Int)) + 1 = ((a + (k + 1) : Nat) : Int) := by omega
      have hb8 : ((a + k : Nat) : Int) ≤ 8192 := by omega
      clear hk1 ho1 hd1 hwl
      by_cases hz : now fl (wipeW fl ws a k) (a + k) = zeros
      · rw [if_pos hz] at e9
        rw [decide_eq_true hz] at cC
        have HE := Lib.hid e9
        clear hz e9 cW
        obtain ⟨j, hj⟩ : ∃ j, a + k = j := ⟨_, rfl⟩
        rw [hj] at cC hlm hak hb8 ⊢
        have HJ := Lib.hid hj
        clear hj
        go_wp2_with fail
        refine cC.mono ?_
        rintro e w' ⟨rfl, rfl⟩
        clear cC
        go_wp2_with fail
        go_roundw
        case rel => exact ⟨k + 1, by omega, by congr 1, by rw [HE.out]; exact ⟨o1, HD1.out, HK1.out, HO1.out⟩⟩
        case measure => simp [intOf]; omega
      · rw [if_neg hz] at e9
        rw [decide_eq_false hz] at cC
        have HE := Lib.hid e9
        clear hz e9
        obtain ⟨j, hj⟩ : ∃ j, a + k = j := ⟨_, rfl⟩
        rw [hj] at cC cW hlm hak hb8 ⊢
        have HJ := Lib.hid hj
        clear hj
        go_wp2_with fail
        refine cC.mono ?_
        rintro e w' ⟨rfl, rfl⟩
        clear cC
        go_wp2_with fail
        refine cW.mono ?_
        rintro e w2 ⟨rfl, o2, hd2, hk2, ho2⟩
        have HF : Hid (DrK w o base d fl (wipeW fl ws a (k + 1)) w2) := Lib.hid (by
          rw [HE.out, HJ.out]
          exact ⟨o2, hd2, HK1.out.trans hk2 HO1.out, fun i hi hj => HO1.out i hi (ho2 i (Nat.lt_of_lt_of_le hi HK1.out.size) hj)⟩)
        clear cW hd2 hk2 ho2
        go_wp2_with fail
        go_roundw
        case rel => exact ⟨k + 1, by omega, by congr 1, HF.out⟩
        case measure => simp [intOf]; omega
    · have hkn : k = n := by omega
      subst hkn
      have hlm : ¬ ((a + k : Nat) : Int) < (m : Int) := by have := HM.out; omega
      have HF := Lib.hid (show DrK w o base d fl (wipeW fl ws a k) wr from ⟨o1, hd1, hk1, ho1⟩)
      clear hd1 hk1 ho1
      obtain ⟨j, hj⟩ : ∃ j, a + k = j := ⟨_, rfl⟩
      rw [hj] at hlm ⊢
      clear hj
      go_wp2_with fail
      go_ret
      exact ⟨rfl, HF.out⟩
end
end Go.Proofs.Ytbaenpgjggojaaa
namespace Go.Proofs.Ytbaenpgjggojaaa
open Go.ChangeShapes Go.WideShapes Go.RowKit

/-- A reel's four cells. -/
def rhead (d g : Nat) (R : Option Addr) (n c u : Nat) : Array Value := #[.pointer (some ⟨d, 0, none⟩), .int .u32 (g : Int), .slice R n c, .int .i64 (u : Int)]
section
variable {w : World} {base d r g n c u : Nat} {R : Option Addr} {o : Nat → Prop} {fl : List (List UInt8)} {ws : List (Nat × List UInt8)} {left : Int}
theorem rhead_cells (h : Blk w r 62 (rhead d g R n c u)) :
    w.cell? ⟨r, 0, none⟩ = some (.pointer (some ⟨d, 0, none⟩)) ∧ w.cell? ⟨r, 1, none⟩ = some (.int .u32 (g : Int)) ∧ w.cell? ⟨r, 2, none⟩ = some (.slice R n c) ∧ w.cell? ⟨r, 3, none⟩ = some (.int .i64 (u : Int)) :=
  ⟨h.cell 0, h.cell 1, h.cell 2, h.cell 3⟩
def startN (n g : Nat) : Nat := 2 + halfN n * (g % 2)
theorem start_dr (hr : Blk w r 62 (rhead d g R n c u)) (h : Dr w base d o fl ws left) (h2 : 2 ≤ fl.length) :
    Calls Try.prog 38 #[.pointer (some ⟨r, 0, none⟩)] w fun e w' => e = .returned (.int .i64 (startN fl.length g : Nat)) ∧ ∃ m, w' = w.drewN m := by
  have cH := fun W (hW : Below w.heap.size w W) => half_dr (h.below hW) h2
  have hf := h.few
  obtain ⟨c0, c1, -, -⟩ := rhead_cells hr
  obtain ⟨N, hN⟩ : ∃ N, halfN fl.length = N := ⟨_, rfl⟩
  have hN2 : N ≤ 8192 := by rw [← hN]; unfold halfN; omega
  obtain ⟨S, hS⟩ : ∃ S, startN fl.length g = S := ⟨_, rfl⟩
  have hS2 : S = 2 + N * (g % 2) := by rw [← hS, ← hN]; rfl
  rw [hN] at cH
  rw [hS]
  have HS := Lib.hid hS2
  clear h hr hf hN hS hS2
  have hx : (N : Int) ≤ 8192 := by omega
  have hy : (0 : Int) ≤ (N : Int) := by omega
  go_enter Try.func38, Try.ntmps38
  go_wp2_with fail
  go_quiet (first | (go_at_call 29; refine Calls.quiet_of_same (cH _ (below_drewN (Below.refl _ _) _))))
  go_wp2_with fail
  go_ret
  refine ⟨?_, _, rfl⟩
  have e := HS.out
  have e2 : wrap64 (2 + wrap64 ((N : Int) * ((g : Int) % 2))) = (S : Int) := by
    rcases Nat.mod_two_eq_zero_or_one g with h | h
    · rw [h] at e
      rw [show (g : Int) % 2 = 0 from by omega, Int.mul_zero]
      unfold wrap64
      omega
    · rw [h] at e
      rw [show (g : Int) % 2 = 1 from by omega, Int.mul_one]
      unfold wrap64
      omega
  show Ending.returned (Value.int _ _) = _
  rw [e2]
theorem end_dr (hr : Blk w r 62 (rhead d g R n c u)) (h : Dr w base d o fl ws left) (h2 : 2 ≤ fl.length) :
    Calls Try.prog 57 #[.pointer (some ⟨r, 0, none⟩)] w fun e w' => e = .returned (.int .i64 (startN fl.length g + halfN fl.length : Nat)) ∧ ∃ m, w' = w.drewN m := by
  have cS := fun W (hW : Below w.heap.size w W) => start_dr (hr.below hW hr.lt) (h.below hW) h2
  have cH := fun W (hW : Below w.heap.size w W) => half_dr (h.below hW) h2
  have hf := h.few
  obtain ⟨c0, c1, -, -⟩ := rhead_cells hr
  obtain ⟨N, hN⟩ : ∃ N, halfN fl.length = N := ⟨_, rfl⟩
  have hN2 : N ≤ 8192 := by rw [← hN]; unfold halfN; omega
  obtain ⟨S, hS⟩ : ∃ S, startN fl.length g = S := ⟨_, rfl⟩
  have hS2 : S ≤ 2 + N := by
    rw [← hS, ← hN]
    unfold startN
    rcases Nat.mod_two_eq_zero_or_one g with h | h <;> rw [h] <;> omega
  rw [hN] at cH
  rw [hS] at cS
  rw [hS, hN]
  clear h hr hf hN hS
  have hx : (N : Int) ≤ 8192 := by omega
  have hy : (0 : Int) ≤ (N : Int) := by omega
  have hx2 : (S : Int) ≤ 8194 := by omega
  have hy2 : (0 : Int) ≤ (S : Int) := by omega
  clear hN2 hS2
  go_enter Try.func57, Try.ntmps57
  go_wp2_with fail
  go_quiet (first | (go_at_call 38; refine Calls.quiet_of (cS _ (below_drewN (Below.refl _ _) _))) | (go_at_call 29; refine Calls.quiet_of_same (cH _ (below_drewN (Below.refl _ _) _))))
  go_wp2_with fail
  go_ret
  refine ⟨?_, _, rfl⟩
  have e2 : wrap64 ((S : Int) + (N : Int)) = ((S + N : Nat) : Int) := by
    unfold wrap64
    omega
  show Ending.returned (Value.int _ _) = _
  first | rfl | rw [e2] | simp
theorem Room_dr (hr : Blk w r 62 (rhead d g R n c u)) (h : Dr w base d o fl ws left) (h2 : 2 ≤ fl.length) (hu : u ≤ 8192) :
    Calls Try.prog 18 #[.pointer (some ⟨r, 0, none⟩)] w fun e w' => e = .returned (.int .i64 ((halfN fl.length : Nat) - (u : Int))) ∧ ∃ m, w' = w.drewN m := by
  have cH := fun W (hW : Below w.heap.size w W) => half_dr (h.below hW) h2
  have hf := h.few
  obtain ⟨c0, -, -, c3⟩ := rhead_cells hr
  obtain ⟨N, hN⟩ : ∃ N, halfN fl.length = N := ⟨_, rfl⟩
  have hN2 : N ≤ 8192 := by rw [← hN]; unfold halfN; omega
  rw [hN] at cH ⊢
  clear h hr hf hN
  have hx : (N : Int) ≤ 8192 := by omega
  have hy : (0 : Int) ≤ (N : Int) := by omega
  have hx2 : (u : Int) ≤ 8192 := by omega
  clear hN2 hu
  go_enter Try.func18, Try.ntmps18
  go_wp2_with fail
  go_quiet (first | (go_at_call 29; refine Calls.quiet_of_same (cH _ (below_drewN (Below.refl _ _) _))))
  go_wp2_with fail
  go_ret
  exact ⟨rfl, _, rfl⟩
/-- Bytes in a slot. -/
def byteF (L : List UInt8) : Flw := ⟨fun v w => ∃ A c, v = .slice A L.length c ∧ Rd w w.heap.size A L, fun ⟨A, c, h1, h2⟩ hb => ⟨A, c, h1, (h2.below hb).more hb.size⟩⟩
theorem enters9 {P : Program} {f : FuncId} {fn : Func} {c : Code} (hf : P.funcs[f]? = some fn) (hname : (fn.name == "runtime.NumGoroutine") = false) (hb : fn.body = some c) : ∀ args w, (callFunc f args).run P w = .ok (.enter f args) w := by
  intro args w
  have h1 : fn.name ≠ "runtime.NumGoroutine" := by simpa using hname
  simp [callFunc, hf, h1, hb, mark]
def seedN (g k : Nat) : Nat := Crc.chk g (Crc.wrd k)
set_option maxRecDepth 20000 in
set_option maxHeartbeats 2000000 in
theorem seed_any (hr : Blk w r 62 (rhead d g R n c u)) (hg : g < 4294967296) (hn : n < 4294967296) :
    Calls Try.prog 41 #[.pointer (some ⟨r, 0, none⟩)] w fun e w' => e = .returned (.int .u32 (seedN g n : Nat)) ∧ Below w.heap.size w w' := by
  have c4 := fun W => (four_any n hn W).mono fun e w' ⟨h1, h2, h3⟩ => (⟨_, h1, ⟨_, _, rfl, blk_rd h2⟩, h3⟩ : ToF (byteF (Crc.wrd n)) W e w')
  have cK := fun A q W (hq : Rd W W.heap.size A (Crc.wrd n)) => Check_any g A (Crc.wrd n).length q W.heap.size (Crc.wrd n) W hg hq (Nat.le_refl _) rfl (by rw [Crc.wrd_length]; decide)
  have L1 : ∀ W, Below w.heap.size w W → (Instr.loadAt 33 (.pointer (some ⟨r, 1, none⟩))).run Try.prog W = .ok (.int .u32 (g : Int)) W := fun W hb => by
    have c1 := (rhead_cells (hr.below hb hr.lt)).2.1
    go_simp
  have L2 : ∀ W, Below w.heap.size w W → (Instr.loadAt 22 (.pointer (some ⟨r, 2, none⟩))).run Try.prog W = .ok (.slice R n c) W := fun W hb => by
    have c2 := (rhead_cells (hr.below hb hr.lt)).2.2.1
    go_simp
  unfold seedN
  obtain ⟨S, hS⟩ : ∃ S, Crc.chk g (Crc.wrd n) = S := ⟨_, rfl⟩
  rw [hS]
  simp only [hS] at cK
  clear hr hS
  have hn2 : (n : Int) < 4294967296 := by omega
  have hn0 : (0 : Int) ≤ (n : Int) := by omega
  have hwn : IntKind.u32.wrap (n : Int) = (n : Int) := by rw [IntKind.wrap_u32]; omega
  go_enter Try.func41, Try.ntmps41
  go_wp2_with fail
  refine wp_region_flow [some 3, some 4, some 5, some 6, some 7, some 8, some 9, some 10, some 11, some 12, some 13, some 14, some 2] (fun i => ([.is (.pointer (some ⟨r, 0, none⟩)), .is (.pointer (some ⟨r, 0, none⟩)), .is (.pointer (some ⟨r, 1, none⟩)), .is (.int .u32 (g : Int)), .is (.pointer (some ⟨r, 0, none⟩)), .is (.pointer (some ⟨r, 0, none⟩)), .is (.pointer (some ⟨r, 2, none⟩)), .is (.slice R n c), .is (.int .i64 (n : Int)), .is (.int .u32 (n : Int)), byteF (Crc.wrd n), .is (.int .u32 (S : Nat)), .is (.int .u32 (S : Nat))] : List Flw).getD i .any) (by kernel_rfl) (by kernel_rfl) rfl ?_ ?_
  · skip
    refine ⟨step_free rfl (fun aF wF hs hb => ?_), ?_⟩
    · obtain ⟨x0, -⟩ := hs
      have e0 : aF.eval (.tmp 0) = .pointer (some ⟨r, 0, none⟩) := x0
      exact opC_move e0 ⟨rfl, below_same wF⟩
    refine ⟨step_free rfl (fun aF wF hs hb => ?_), ?_⟩
    · obtain ⟨x0, -⟩ := hs
      have e0 : aF.eval (.tmp 3) = .pointer (some ⟨r, 0, none⟩) := x0
      refine opC_value (v := .pointer (some ⟨r, 0, none⟩)) ?_ ⟨rfl, below_same wF⟩
      have t0 := ev_of e0
      simp [execOp, go_sem, t0]
    refine ⟨step_free rfl (fun aF wF hs hb => ?_), ?_⟩
    · obtain ⟨x0, -⟩ := hs
      have e0 : aF.eval (.tmp 4) = .pointer (some ⟨r, 0, none⟩) := x0
      refine opC_value (v := .pointer (some ⟨r, 1, none⟩)) ?_ ⟨rfl, below_same wF⟩
      have t0 := ev_of e0
      simp [execOp, go_sem, t0]
    refine ⟨step_free rfl (fun aF wF hs hb => ?_), ?_⟩
    · obtain ⟨x0, -⟩ := hs
      have e0 : aF.eval (.tmp 5) = .pointer (some ⟨r, 1, none⟩) := x0
      exact opC_load e0 (L1 wF hb) ⟨rfl, below_same wF⟩
    refine ⟨step_free rfl (fun aF wF hs hb => ?_), ?_⟩
    · obtain ⟨x0, -⟩ := hs
      have e0 : aF.eval (.tmp 0) = .pointer (some ⟨r, 0, none⟩) := x0
      exact opC_move e0 ⟨rfl, below_same wF⟩
    refine ⟨step_free rfl (fun aF wF hs hb => ?_), ?_⟩
    · obtain ⟨x0, -⟩ := hs
      have e0 : aF.eval (.tmp 7) = .pointer (some ⟨r, 0, none⟩) := x0
      refine opC_value (v := .pointer (some ⟨r, 0, none⟩)) ?_ ⟨rfl, below_same wF⟩
      have t0 := ev_of e0
      simp [execOp, go_sem, t0]
    refine ⟨step_free rfl (fun aF wF hs hb => ?_), ?_⟩
    · obtain ⟨x0, -⟩ := hs
      have e0 : aF.eval (.tmp 8) = .pointer (some ⟨r, 0, none⟩) := x0
      refine opC_value (v := .pointer (some ⟨r, 2, none⟩)) ?_ ⟨rfl, below_same wF⟩
      have t0 := ev_of e0
      simp [execOp, go_sem, t0]
    refine ⟨step_free rfl (fun aF wF hs hb => ?_), ?_⟩
    · obtain ⟨x0, -⟩ := hs
      have e0 : aF.eval (.tmp 9) = .pointer (some ⟨r, 2, none⟩) := x0
      exact opC_load e0 (L2 wF hb) ⟨rfl, below_same wF⟩
    refine ⟨step_free rfl (fun aF wF hs hb => ?_), ?_⟩
    · obtain ⟨x0, -⟩ := hs
      have e0 : aF.eval (.tmp 10) = .slice R n c := x0
      refine opC_value (v := .int .i64 (n : Int)) ?_ ⟨rfl, below_same wF⟩
      have t0 := ev_of e0
      simp [go_sem, t0]
    refine ⟨step_free rfl (fun aF wF hs hb => ?_), ?_⟩
    · obtain ⟨x0, -⟩ := hs
      have e0 : aF.eval (.tmp 11) = .int .i64 (n : Int) := x0
      refine opC_value (v := .int .u32 (n : Int)) ?_ ⟨rfl, below_same wF⟩
      have t0 := ev_of e0
      simp [execOp, go_sem, t0, hwn]
    refine ⟨step_free rfl (fun aF wF hs hb => ?_), ?_⟩
    · obtain ⟨x0, -⟩ := hs
      have e0 : aF.eval (.tmp 12) = .int .u32 (n : Int) := x0
      exact opC_callF (args := #[.int .u32 (n : Int)]) (enters9 Try.func65 (by kernel_rfl) rfl) (by simp [e0]) (c4 wF) (fun _ _ h1 h2 => ⟨h1, h2⟩)
    refine ⟨step_free rfl (fun aF wF hs hb => ?_), ?_⟩
    · obtain ⟨x0, x1, -⟩ := hs
      have e0 : aF.eval (.tmp 6) = .int .u32 (g : Int) := x0
      have y1 : (byteF (Crc.wrd n)).p (aF.eval (.tmp 13)) wF := x1
      obtain ⟨A, q, e1, hr1⟩ := y1
      exact opC_call (args := #[.int .u32 (g : Int), .slice A (Crc.wrd n).length q]) (enters9 Try.func64 (by kernel_rfl) rfl) (by simp [e0, e1]) (cK A q wF hr1) (fun _ h => ⟨rfl, h⟩)
    refine ⟨step_free rfl (fun aF wF hs hb => ?_), ?_⟩
    · obtain ⟨x0, -⟩ := hs
      have e0 : aF.eval (.tmp 14) = .int .u32 (S : Nat) := x0
      exact opC_assign e0 ⟨rfl, below_same wF⟩
    exact trivial
  · intro fv w6 hf hb6
    have hp : fv 12 = .int .u32 (S : Nat) := hf 12 2 rfl
    simp only [putF, Act.put, List.setIfInBounds_toArray, List.set_cons_zero, List.set_cons_succ]
    rw [hp]
    have HB := Lib.hid hb6
    clear hp hf hb6 L1 L2 c4 cK
    go_wp2_with fail
    go_ret
    exact ⟨rfl, HB.out⟩
end
end Go.Proofs.Ytbaenpgjggojaaa
