/-
terms.Dues of terms that are Right, at holidays that are Right, where each month has its day: month by month that day, and all that is due by it. Condition: the months' lengths are laid.
terms: each month of terms that are Right has its day; Dues whole. Condition: the months' lengths are laid.
-/
import Derived.Test.YtpnoecjpplaicaaGreatDoorTrmB
import Derived.Test.YtpnoecjpplaicaaGreatDoorHRight
import Derived.Test.YtpnoecjpplaicaaGreatDoorDRol
import Derived.Test.YtpnoecjpplaicaaGreatDoorLvlD
namespace Go.Proofs.YtpnoecjpplaicaaGreatDoor
open Go.RowKit Go.ChangeShapes Go.WideShapes Go.ChangeAt

def pcell (f : Int × Int) (i : Nat) : Value := if i = 0 then .int .i32 f.1 else .int .i64 f.2
def pairA (F : Nat → Int × Int) (n : Nat) : Array Value := Array.ofFn (n := n * 2) (fun j => pcell (F (j.val / 2)) (j.val % 2))
theorem pairA_get (F : Nat → Int × Int) (n j : Nat) : (pairA F n)[j]? = if j < n * 2 then some (pcell (F (j / 2)) (j % 2)) else Option.none := by
  unfold pairA
  rw [Array.getElem?_ofFn]
  split <;> rfl
theorem pairA_at (F : Nat → Int × Int) {n k : Nat} (h : k < n) : (pairA F n)[k * 2]? = some (.int .i32 (F k).1) ∧ (pairA F n)[k * 2 + 1]? = some (.int .i64 (F k).2) := by
  refine ⟨?_, ?_⟩ <;> rw [pairA_get, if_pos (by omega)]
  · rw [show k * 2 / 2 = k by omega, show k * 2 % 2 = 0 by omega]; rfl
  · rw [show (k * 2 + 1) / 2 = k by omega, show (k * 2 + 1) % 2 = 1 by omega]; rfl
theorem pairA_set (F : Nat → Int × Int) {n k : Nat} (h : k < n) (x y : Int) :
    ((pairA F n).setIfInBounds (k * 2) (.int .i32 x)).setIfInBounds (k * 2 + 1) (.int .i64 y) = pairA (fun i => if i = k then (x, y) else F i) n := by
  apply Array.ext_getElem?
  intro j
  have hs : (pairA F n).size = n * 2 := by simp [pairA]
  simp only [Array.getElem?_setIfInBounds, Array.size_setIfInBounds, hs, pairA_get]
  by_cases h1 : k * 2 + 1 = j
  · subst h1
    rw [if_pos rfl, if_pos (by omega), if_pos (by omega), show (k * 2 + 1) / 2 = k by omega, show (k * 2 + 1) % 2 = 1 by omega, if_pos rfl]; rfl
  · rw [if_neg h1]
    by_cases h0 : k * 2 = j
    · subst h0
      rw [if_pos rfl, if_pos (by omega), if_pos (by omega), show (k * 2) / 2 = k by omega, show (k * 2) % 2 = 0 by omega, if_pos rfl]; rfl
    · rw [if_neg h0]
      by_cases hj : j < n * 2
      · rw [if_pos hj, if_pos hj, if_neg (by omega)]
      · rw [if_neg hj, if_neg hj]
theorem pairA_ext {F G : Nat → Int × Int} {n : Nat} (h : ∀ i, i < n → F i = G i) : pairA F n = pairA G n := by
  apply Array.ext_getElem?
  intro j
  rw [pairA_get, pairA_get]
  by_cases hj : j < n * 2
  · rw [if_pos hj, if_pos hj, h _ (by omega)]
  · rw [if_neg hj, if_neg hj]
def partP (F : Nat → Int × Int) (k i : Nat) : Int × Int := if i < k then F i else (0, 0)
theorem partP_next (F : Nat → Int × Int) (k n : Nat) {x y : Int} (h : F k = (x, y)) : pairA (fun i => if i = k then (x, y) else partP F k i) n = pairA (partP F (k + 1)) n := by
  apply pairA_ext
  intro i _
  unfold partP
  by_cases hi : i = k
  · subst hi
    rw [if_pos rfl, if_pos (by omega), h]
  · rw [if_neg hi]
    by_cases hk : i < k
    · rw [if_pos hk, if_pos (by omega)]
    · rw [if_neg hk, if_neg (by omega)]
theorem infoDue : (Tryz.prog.info? 50).map (fun i => (i.zero, i.size, i.bytes)) = some (some (.agg #[.int .i32 0, .int .i64 0]), 2, 16) := by kernel_rfl
theorem makeDues (n : Nat) (hn : n ≤ 480) (u : World) :
    (Instr.makeSlice 40 (.int .i64 (n : Int)) (.int .i64 (n : Int))).run Tryz.prog u = .ok (.slice (some ⟨u.heap.size, 0, none⟩) n n) (u.alloc (.cells (pairA (fun _ => (0, 0)) n) 50)) := by
  obtain ⟨i0, hi, hz0, hz1, hz2⟩ := info_parts infoDue
  have h := run_make (P := Tryz.prog) u 40 50 i0 (.agg #[.int .i32 0, .int .i64 0]) Tryz.underlying40 hi hz0 .i64 .i64 (n : Int) (n : Int) (by omega) (Int.le_refl _) (by rw [hz2]; omega) (by omega)
  rw [Int.toNat_natCast, hz1, show Value.cells (.agg #[.int .i32 0, .int .i64 0]) = #[.int .i32 0, .int .i64 0] from rfl] at h
  have e : madeCells #[.int .i32 0, .int .i64 0] (n * 2) = pairA (fun _ => (0, 0)) n := by
    apply Array.ext_getElem?
    intro j
    rw [pairA_get]
    by_cases hj : j < n * 2
    · rw [if_pos hj]
      rcases (show j % 2 = 0 ∨ j % 2 = 1 by omega) with e | e <;> simp [madeCells, hj, e, pcell]
    · rw [if_neg hj]
      simp [madeCells, hj]
  rw [e] at h
  exact h
theorem pays_bd {F : Nat → Int × Int × Int} {n : Nat} (h : ∀ k, k < n → -1200000000000 ≤ (F k).1 + (F k).2.1 ∧ (F k).1 + (F k).2.1 ≤ 1200000000000) : ∀ k, k ≤ n → -(1200000000000 * (k : Int)) ≤ paysTo F k ∧ paysTo F k ≤ 1200000000000 * (k : Int)
  | 0, _ => by simp [paysTo]
  | k + 1, hk => by
    have h1 := pays_bd h k (by omega)
    have h2 := h k (by omega)
    rw [paysTo]
    omega
theorem row_bd {p y P n : Nat} (hy : mi p P ≤ y) (hP : P ≤ 1000000000000) (hp : p ≤ 1000000) (k : Nat) : -1200000000000 ≤ (rowF p y P n k).1 + (rowF p y P n k).2.1 ∧ (rowF p y P n k).1 + (rowF p y P n k).2.1 ≤ 1200000000000 := by
  have h1 := mit_le hy k P (Nat.le_refl _)
  have h2 := mit_le hy (k + 1) P (Nat.le_refl _)
  have h3 := mi_bd (Nat.le_trans h1 hP) hp
  unfold rowF
  dsimp only
  split <;> omega
theorem below_set2k {w w' : World} {B g : Nat} (h : Below B w w') (hg : B ≤ g) (o : Nat) (x y : Value) :
    Below B w ((w'.setCell ⟨g, o, none⟩ x).setCell ⟨g, o + 1, none⟩ y) := (h.setCell hg _).setCell hg _
theorem cY_max : cY 3600000 ≤ 9900 := by decide +kernel
theorem pT_bd {n k : Int} (h0 : 0 ≤ n) (h1 : n ≤ 3600000) (hk : k ≤ 480) : pT n k < 119988 := by
  have h2 := civ_in n h0 (by omega)
  have h3 : cY n ≤ 9900 := by
    rcases Int.lt_or_le (cY 3600000) (cY n) with h | h
    · have := (civ_lt (n := 3600000) (k := n) (by omega) (by omega) h0 (by omega)).2 (.inl h)
      omega
    · have := cY_max
      omega
  unfold pT mon
  omega
def DuesPost (M : Nat) (D Sm : Nat → Int) (w : World) (e : Ending) (w' : World) : Prop :=
  ∃ g, e = .returned (.tuple #[.slice (some ⟨g, 0, none⟩) M M, .nilIface]) ∧ w.heap.size ≤ g ∧ Below w.heap.size w w' ∧ Blk w' g 50 (pairA (fun k => (D k, Sm k)) M)
set_option maxRecDepth 100000 in
set_option maxHeartbeats 4000000 in
theorem Dues_at {K P R B M y : Nat} {S F G : Int} (h : Trm.Right ⟨K, P, R, B, M, S, F, G⟩) (hy : mi R P ≤ y) (hyb : y ≤ 9223372036854775807)
    (hU : ∀ W, Calls Tryz.prog 71 #[.int .u8 (K : Int), .int .i64 (P : Int), rv R B, .int .i64 (M : Int)] W (Ret (.tuple #[.int .i64 (y : Int), .nilIface]) W))
    (A : Option Addr) (n c : Nat) (l : List Int) (D : Nat → Int) (hD : ∀ k, k < M → nextD l (plainD S ((k : Int) + 1)) = some (D k)) (w : World) (hw : Lens w)
    (hR : Rv w w.heap.size A (l.map encH)) (hn : l.length = n) (hnc : n ≤ c) (hm : n ≤ 200) (hl : ∀ v ∈ l, -2147483648 ≤ v ∧ v ≤ 2147483647) (hrt : rightL l = true) :
    Calls Tryz.prog 12 #[.agg #[.int .u8 (K : Int), .int .i64 (P : Int), .int .u32 (R : Int), .int .u8 (B : Int), .int .i64 (M : Int), .int .i32 S, .int .i64 F, .int .i64 G], .slice A n c] w (DuesPost M D (fun k => paysTo (rowF R y P M) (k + 1)) w) := by
  have hT := fun W => TRight_true h W
  obtain ⟨hK, hRB, hP, hM, hS, hF, hG⟩ := h
  dsimp only at hK hRB hP hM hS hF hG
  unfold Trm.v at hT
  dsimp only at hT
  have hRows := fun W => Rows_yes (kd := K) hRB (by omega : P ≤ 1000000000000) (by omega : 1 ≤ M) (by omega : M ≤ 480) hy hyb hU W
  have hb1 := row_bd (n := M) hy (by omega : P ≤ 1000000000000) hRB.1
  obtain ⟨FF, hFF⟩ : ∃ FF, rowF R y P M = FF := ⟨_, rfl⟩
  unfold RowsPost at hRows
  rw [hFF] at hRows hb1 ⊢
  have hb2 := pays_bd (n := M) (fun k _ => hb1 k)
  have hSums := fun g W hW => Sums_any (F := FF) (n := M) g (by omega) W hW (fun k hk => by
    have h1 := hb1 k
    have h2 := hb2 (k + 1) hk
    omega)
  unfold SumsPost at hSums
  obtain ⟨Q, hQ⟩ : ∃ Q : Nat → Int, (fun k => paysTo FF (k + 1)) = Q := ⟨_, rfl⟩
  rw [hQ] at hSums ⊢
  have hmk := fun W => makeDues M (by omega) W
  have hHR := fun W (hW : Rv W W.heap.size A (l.map encH)) => HRight_any A n c W.heap.size l W hW hn (by omega) hl
  rw [hrt] at hHR
  have hRo := fun (k : Nat) (hk : k < M) W (hW : Lens W) (hRW : Rv W W.heap.size A (l.map encH)) => RolledOk A n c l S ((k : Int) + 1) (by omega) (by omega) (by omega) (by omega) (pT_bd (by omega) (by omega) (by omega)) W hW hRW hn hnc (by omega) hl
  unfold rv at *
  have HM := Lib.hid hM
  have HR := Lib.hid hR
  have HW := Lib.hid hw
  have HD := Lib.hid hD
  have HRo := Lib.hid hRo
  have HQ0 := Lib.hid (Blk.new w 28 #[.int .u8 (K : Int), .int .i64 (P : Int), .int .u32 (R : Int), .int .u8 (B : Int), .int .i64 (M : Int), .int .i32 S, .int .i64 F, .int .i64 G])
  have HB0 := Lib.hid (b_alloc w (.cells #[.int .u8 (K : Int), .int .i64 (P : Int), .int .u32 (R : Int), .int .u8 (B : Int), .int .i64 (M : Int), .int .i32 S, .int .i64 F, .int .i64 G] 28))
  clear hRo hD hw hR hb1 hb2 hQ hFF hU hrt hl hn hnc hy hyb hK hRB hP hS hF hG hm
  go_enter Tryz.func12, Tryz.ntmps12
  have e1 := (blk8 HQ0.out)
  obtain ⟨c0, c1, c2, c3, c4, c5, c6, c7⟩ := e1
  go_wp2_with fail
  refine (hT _).mono ?_
  rintro e w1 ⟨rfl, hb⟩
  have HQ1 := Lib.hid (HQ0.out.below hb HQ0.out.lt)
  have HB1 := Lib.hid (HB0.out.trans (hb.mono HB0.out.size))
  clear hb c0 c1 c2 c3 c4 c5 c6 c7 HQ0 HB0 hT
  have cH := hHR w1 (rv_later HR.out HB1.out)
  clear hHR
  go_wp2_with fail
  refine cH.mono ?_
  rintro e w1 ⟨rfl, rfl⟩
  obtain ⟨c0, c1, c2, c3, c4, c5, c6, c7⟩ := blk8 HQ1.out
  clear cH
  go_wp2_with fail
  refine (hRows _).mono ?_
  rintro e w2 ⟨gR, rfl, hgR, hb, hkR⟩
  have HQ2 := Lib.hid (HQ1.out.below hb HQ1.out.lt)
  have HB2 := Lib.hid (HB1.out.trans (hb.mono HB1.out.size))
  have HG2 := Lib.hid hkR
  have HGR := Lib.hid hgR
  clear hb hkR hgR hRows c0 c1 c2 c3 c4 c5 c6 c7 HQ1 HB1
  obtain ⟨c0, c1, c2, c3, c4, c5, c6, c7⟩ := blk8 HQ2.out
  go_wp2_with fail
  have HP3 := Lib.hid (Blk.new w2 50 (pairA (fun _ => (0, 0)) M))
  have HQ3 := Lib.hid (HQ2.out.alloc (.cells (pairA (fun _ => (0, 0)) M) 50))
  have HG3 := Lib.hid (HG2.out.alloc (.cells (pairA (fun _ => (0, 0)) M) 50))
  have HB3 := Lib.hid (HB2.out.alloc HB2.out.size (.cells (pairA (fun _ => (0, 0)) M) 50))
  have cS := hSums gR _ HG3.out
  have HZ : Hid (w.heap.size < w2.heap.size) := Lib.hid HQ2.out.lt
  clear hSums c0 c1 c2 c3 c4 c5 c6 c7 hmk
  refine cS.mono ?_
  rintro e w4 ⟨gS, rfl, hgS, hb, hkS⟩
  have HP4 := Lib.hid (HP3.out.below hb HP3.out.lt)
  have HQ4 := Lib.hid (HQ3.out.below hb HQ3.out.lt)
  have HB4 := Lib.hid (HB3.out.trans (hb.mono HB3.out.size))
  have HS4 := Lib.hid hkS
  have HSD : Hid (w2.heap.size < gS) := Lib.hid (by simp at hgS; omega)
  clear hb hkS hgS cS HP3 HQ3 HB3 HG3 HG2 HQ2 HB2 HGR
  obtain ⟨gD, hgD⟩ : ∃ g, w2.heap.size = g := ⟨_, rfl⟩
  obtain ⟨b, hb⟩ : ∃ b, w.heap.size = b := ⟨_, rfl⟩
  rw [hgD] at HP4 HZ HSD
  rw [hb] at HQ4 HZ
  rw [hgD, hb]
  have HBE := Lib.hid hb
  clear hgD hb
  go_wp2_with fail
  go_loopw [43] (fun i wr => ∃ (k : Nat), k ≤ M ∧ i = .int .i64 k ∧ Hid (Blk wr gD 50 (pairA (partP (fun k => (D k, Q k)) k) M)) ∧ Hid (Blk wr gS 22 (oneA Q M)) ∧ Hid (Blk wr b 28 #[.int .u8 (K : Int), .int .i64 (P : Int), .int .u32 (R : Int), .int .u8 (B : Int), .int .i64 (M : Int), .int .i32 S, .int .i64 F, .int .i64 G]) ∧ Hid (Below w.heap.size w wr)) (fun i _ => M - (intOf i).toNat)
  case atStart => exact ⟨0, Nat.zero_le _, rfl, Lib.hid (by have := HP4.out; rwa [pairA_ext (G := partP (fun k => (D k, Q k)) 0) (fun i _ => by unfold partP; rw [if_neg (by omega)])] at this), HS4, HQ4, HB4⟩
  case round =>
    obtain ⟨k, hk, rfl, HPk, HSk, HQk, HBk⟩ := hrel
    by_cases hlt : k < M
    · have d0 := (HSk.out.cell k).trans (oneA_at Q hlt)
      obtain ⟨c0, c1, c2, c3, c4, c5, c6, c7⟩ := blk8 HQk.out
      have z0 := HQk.out.lt
      have hM480 : M ≤ 480 := by have := HM.out; omega
      have cR := HRo.out k hlt _ (HW.out.below HBk.out) (rv_later HR.out HBk.out)
      obtain ⟨X, hX⟩ : ∃ X, D k = X := ⟨_, rfl⟩
      obtain ⟨Y, hY⟩ : ∃ Y, Q k = Y := ⟨_, rfl⟩
      have hDk := HD.out k hlt
      rw [hX] at hDk
      rw [hY] at d0
      unfold NxPost at cR
      have HXY : Hid ((D k, Q k) = (X, Y)) := Lib.hid (by rw [hX, hY])
      have HDk := Lib.hid hDk
      clear hX hY hDk
      go_wp2_with fail
      refine cR.mono ?_
      rintro e w5 ⟨hy1, -, hb5⟩
      have hy2 := hy1 X HDk.out
      subst hy2
      have HP5 := Lib.hid (HPk.out.below hb5 HPk.out.lt)
      have HS5 := Lib.hid (HSk.out.below hb5 HSk.out.lt)
      have HQ5 := Lib.hid (HQk.out.below hb5 HQk.out.lt)
      have HB5 := Lib.hid (HBk.out.trans (hb5.mono HBk.out.size))
      clear hy1 hb5 cR d0 c0 c1 c2 c3 c4 c5 c6 c7 z0 HPk HSk HQk HBk
      obtain ⟨g0, g1⟩ := pairA_at (partP (fun k => (D k, Q k)) k) hlt
      have d0 := (HP5.out.cell (k * 2)).trans g0
      have d1 := (HP5.out.cell (k * 2 + 1)).trans g1
      have f0 := HP5.out.frozen (k * 2)
      have f1 := HP5.out.frozen (k * 2 + 1)
      clear g0 g1
      go_wp2_with fail
      go_roundw
      case rel =>
        have hset := pairA_set (partP (fun k => (D k, Q k)) k) hlt X Y
        rw [partP_next _ _ _ HXY.out] at hset
        refine ⟨k + 1, by omega, by go_num, Lib.hid ?_, Lib.hid ((HS5.out.far (by have := HSD.out; show gS ≠ gD; omega) _).far (by have := HSD.out; show gS ≠ gD; omega) _), Lib.hid ((HQ5.out.far (by have := HZ.out; show b ≠ gD; omega) _).far (by have := HZ.out; show b ≠ gD; omega) _), Lib.hid (below_set2k HB5.out (by have := HBE.out; have := HZ.out; omega) _ _ _)⟩
        have h3 := (HP5.out.set_ (k * 2) (.int .i32 X)).set_ (k * 2 + 1) (.int .i64 Y)
        rwa [hset] at h3
      case measure => simp [intOf]; omega
    · have hkn : k = M := by omega
      subst hkn
      go_wp2_with fail
      go_ret2
      refine ⟨gD, rfl, by have := HBE.out; have := HZ.out; omega, HBk.out, ?_⟩
      have h3 := HPk.out
      rwa [pairA_ext (G := fun k => (D k, Q k)) (fun i hi => by unfold partP; rw [if_pos hi])] at h3
end Go.Proofs.YtpnoecjpplaicaaGreatDoor
namespace Go.Proofs.YtpnoecjpplaicaaGreatDoor
open Go.RowKit

theorem filter_less {p q : Int → Bool} {l : List Int} (h : ∀ a, p a = true → q a = true) {x : Int} (hx : x ∈ l) (hq : q x = true) (hp : p x = false) : (l.filter p).length < (l.filter q).length := by
  have hle : ∀ m : List Int, (m.filter p).length ≤ (m.filter q).length := by
    intro m
    induction m with
    | nil => simp
    | cons a m ih =>
      by_cases hpa : p a = true
      · simp [List.filter_cons, hpa, h a hpa, ih]
      · by_cases hqa : q a = true
        · simp [List.filter_cons, hpa, hqa]; omega
        · simp [List.filter_cons, hpa, hqa, ih]
  induction l with
  | nil => cases hx
  | cons a m ih =>
    rcases List.mem_cons.1 hx with rfl | hm
    · have := hle m
      simp [List.filter_cons, hp, hq]
      omega
    · have := ih hm
      by_cases hpa : p a = true
      · simp [List.filter_cons, hpa, h a hpa, this]
      · by_cases hqa : q a = true
        · simp [List.filter_cons, hpa, hqa]; omega
        · simp [List.filter_cons, hpa, hqa, this]
theorem open_near (l : List Int) : ∀ (c : Nat) (x : Int), (l.filter (fun a => decide (x ≤ a))).length ≤ c → ∃ y, x ≤ y ∧ y ≤ x + 3 * c + 2 ∧ openL l y = true := by
  intro c
  induction c with
  | zero =>
    intro x h
    obtain ⟨y, h1, h2, h3⟩ : ∃ y, x ≤ y ∧ y ≤ x + 2 ∧ y % 7 < 5 := by
      by_cases a : x % 7 < 5
      · exact ⟨x, by omega, by omega, a⟩
      · exact ⟨if x % 7 = 5 then x + 2 else x + 1, by split <;> omega, by split <;> omega, by split <;> omega⟩
    refine ⟨y, h1, by omega, ?_⟩
    unfold openL
    rw [decide_eq_true h3, Bool.true_and, Bool.not_eq_true']
    rw [← Bool.not_eq_true, List.contains_iff_mem]
    intro hm
    have : y ∈ l.filter (fun a => decide (x ≤ a)) := List.mem_filter.2 ⟨hm, by simpa using h1⟩
    have := List.length_pos_of_mem this
    omega
  | succ c ih =>
    intro x h
    obtain ⟨y, h1, h2, h3⟩ : ∃ y, x ≤ y ∧ y ≤ x + 2 ∧ y % 7 < 5 := by
      by_cases a : x % 7 < 5
      · exact ⟨x, by omega, by omega, a⟩
      · exact ⟨if x % 7 = 5 then x + 2 else x + 1, by split <;> omega, by split <;> omega, by split <;> omega⟩
    by_cases hm : y ∈ l
    · have hlt := filter_less (p := fun a => decide (y + 1 ≤ a)) (q := fun a => decide (x ≤ a)) (l := l) (fun a ha => by simp at ha ⊢; omega) hm (by simpa using h1) (decide_eq_false (by omega))
      obtain ⟨z, z1, z2, z3⟩ := ih (y + 1) (by omega)
      exact ⟨z, by omega, by omega, z3⟩
    · refine ⟨y, h1, by omega, ?_⟩
      unfold openL
      rw [decide_eq_true h3, Bool.true_and, Bool.not_eq_true']
      rw [← Bool.not_eq_true, List.contains_iff_mem]
      exact hm
theorem nextD_some (l : List Int) : ∀ (f : Nat) (x y : Int), (y - x).toNat = f → x ≤ y → y ≤ 3652058 → openL l y = true → ∃ z, nextD l x = some z := by
  intro f
  induction f with
  | zero =>
    intro x y h1 h2 h3 h4
    obtain rfl : x = y := by omega
    exact ⟨x, nextD_yes h3 h4⟩
  | succ f ih =>
    intro x y h1 h2 h3 h4
    cases ho : openL l x with
    | true => exact ⟨x, nextD_yes (by omega) ho⟩
    | false =>
      rw [nextD_no (by omega) ho]
      exact ih (x + 1) y (by omega) (by omega) h3 h4
theorem cY_top : 9900 < cY 3630000 := by decide +kernel
theorem plain_top {n k : Int} (h0 : 0 ≤ n) (h1 : n ≤ 3600000) (k0 : 0 ≤ k) (k1 : k ≤ 480) : 0 ≤ plainD n k ∧ plainD n k ≤ 3630000 := by
  have ht := pT_bd h0 h1 k1
  obtain ⟨p1, p2, p3, -, -⟩ := plain_in h0 (by omega) k0 ht
  refine ⟨p1, ?_⟩
  rcases Int.lt_or_le 3630000 (plainD n k) with h | h
  · have h5 := (civ_lt (n := 3630000) (k := plainD n k) (by omega) (by omega) p1 p2).1 h
    have h6 := cY_top
    have h7 : pT n k < 118800 := by
      have h2 := civ_in n h0 (by omega)
      have h3 : cY n ≤ 9859 := by
        rcases Int.lt_or_le (cY 3600000) (cY n) with h | h
        · have := (civ_lt (n := 3600000) (k := n) (by omega) (by omega) h0 (by omega)).2 (.inl h)
          omega
        · have : cY 3600000 ≤ 9859 := by decide +kernel
          omega
      unfold pT mon
      omega
    have h8 : mY (pT n k) ≤ 9900 := by unfold mY; omega
    omega
  · exact h
/-- The day of month k. -/
def dueD (l : List Int) (S : Int) (k : Nat) : Int := (nextD l (plainD S ((k : Int) + 1))).getD 0
theorem dueD_is {l : List Int} {S : Int} {k : Nat} (h0 : 0 ≤ S) (h1 : S ≤ 3600000) (hk : k < 480) (hl : l.length ≤ 200) : nextD l (plainD S ((k : Int) + 1)) = some (dueD l S k) := by
  have hp := plain_top h0 h1 (k := (k : Int) + 1) (by omega) (by omega)
  obtain ⟨y, y1, y2, y3⟩ := open_near l 200 (plainD S ((k : Int) + 1)) (Nat.le_trans (List.length_filter_le _ _) hl)
  obtain ⟨z, hz⟩ := nextD_some l _ _ y rfl y1 (by omega) y3
  unfold dueD
  rw [hz]
  rfl
/-- The sum of month k: of the least payment, or of interest only. -/
def LstK (K R M P y : Nat) : Prop := (K = 1 → Lst R M P y) ∧ (K = 2 → y = mi R P)
theorem lstK_any {K R M P : Nat} (hM : 0 < M) : ∃ y, LstK K R M P y := by
  by_cases h : K = 2
  · exact ⟨mi R P, fun e => by omega, fun _ => rfl⟩
  · obtain ⟨y, hy⟩ := lst_any (p := R) (n := M) (P := P) hM
    exact ⟨y, fun _ => hy, fun e => absurd e h⟩
theorem Dues_any {K P R B M y : Nat} {S F G : Int} (h : Trm.Right ⟨K, P, R, B, M, S, F, G⟩) (hy : LstK K R M P y)
    (A : Option Addr) (n c : Nat) (l : List Int) (w : World) (hw : Lens w)
    (hR : Rv w w.heap.size A (l.map encH)) (hn : l.length = n) (hnc : n ≤ c) (hl : ∀ v ∈ l, -2147483648 ≤ v ∧ v ≤ 2147483647) (hrt : rightL l = true) :
    Calls Tryz.prog 12 #[Trm.v ⟨K, P, R, B, M, S, F, G⟩, .slice A n c] w (DuesPost M (dueD l S) (fun k => paysTo (rowF R y P M) (k + 1)) w) := by
  have h9 := h
  obtain ⟨hK, hRB, hP, hM, hS, hF, hG⟩ := h
  dsimp only at hK hRB hP hM hS hF hG
  have hl200 : l.length ≤ 200 := by
    unfold rightL at hrt
    simp only [Bool.and_eq_true, decide_eq_true_eq] at hrt
    exact hrt.1
  have hmi := mi_bd (p := R) (Q := P) (by omega) hRB.1
  have hyy : mi R P ≤ y ∧ y ≤ 9223372036854775807 := by
    rcases hK with e | e
    · have h1 := (hy.1 e).gt (by omega)
      have h2 := (hy.1 e).high (by omega)
      have h3 := prt_bd (n := M) (P := P) (by omega) (by omega)
      omega
    · have := hy.2 e
      omega
  refine Dues_at h9 hyy.1 hyy.2 (fun W => ?_) A n c l (dueD l S) (fun k hk => dueD_is hS.1 hS.2 (by omega) hl200) w hw hR hn hnc (by omega) hl hrt
  rcases hK with e | e
  · subst e
    exact Usual_level hRB (by omega) (by omega) (by omega) (by omega) (hy.1 rfl) W
  · subst e
    rw [hy.2 rfl]
    exact Usual_only hRB (by omega) (by omega) (by omega) (by omega) W
end Go.Proofs.YtpnoecjpplaicaaGreatDoor
