/-
  ChartForms: the walk. Conditions: the legs and the bytes are there; errors.errorType is laid.
-/
import Derived.Test.YtdknhjnbkmcicaaDoorChFC
import Derived.Test.YtdknhjnbkmcicaaDoorChFD
import Derived.Test.YtdknhjnbkmcicaaDoorCodeC
import Derived.IntWalk
import Derived.Laws.Closers25b
namespace Go.Proofs.YtdknhjnbkmcicaaDoor
open Go.ChangeShapes Go.WideShapes Go.ChangeAt Go.RowKit

theorem rs_laterT {w w' : World} {A : Option Addr} {l : List (Nat × Int)} (h : Rs legT w w.heap.size A l) (hb : Below w.heap.size w w') : Rs legT w' w'.heap.size A l := (h.below hb).more hb.size
def legsT (l : List (Nat × Int)) : Flw := ⟨fun v w => ∃ A c, v = .slice A l.length c ∧ Rs legT w w.heap.size A l, fun ⟨A, c, h1, h2⟩ hb => ⟨A, c, h1, rs_laterT h2 hb⟩⟩
theorem own_rsT {e : TypeId} {w : World} {base n c : Nat} {A : Option Addr} {l : List (Nat × Int)} (h : OwnS legT e w base (.slice A n c) n l) : Rs legT w w.heap.size A l := by
  obtain ⟨_, A9, c9, he, _, _, hr9⟩ := h.form (by decide)
  injection he with e1
  rw [e1]
  exact hr9
theorem own_lowT {e : TypeId} {w : World} {b b' n : Nat} {v : Value} {l : List (Nat × Int)} (h : OwnS legT e w b v n l) (hb : b' ≤ b) : OwnS legT e w b' v n l := by
  unfold OwnS at h ⊢
  refine ⟨h.1, ?_⟩
  rcases h.2 with ⟨h1, h2⟩ | ⟨g, cap, cur, h1, h2, h3⟩
  · exact .inl ⟨h1, h2⟩
  · exact .inr ⟨g, cap, cur, h1, Nat.le_trans hb h2, h3⟩
def entT (y : Ky) (l : List (Nat × Int)) (base : Nat) : Flw := ⟨fun v w => ∃ A c, v = entV y (.slice A l.length c) ∧ OwnS legT 56 w base (.slice A l.length c) l.length l, fun ⟨A, c, h1, h2⟩ hb => ⟨A, c, h1, h2.below hb⟩⟩
theorem cFewT {A : Option Addr} {n c : Nat} {l l2 : List (Nat × Int)} {w : World} (hl2 : l.take 12 = l2) (hn : l.length = n) (hnc : n ≤ c) (hm : n ≤ maxLen) (hR : Rs legT w w.heap.size A l) : Calls Tryd.prog 7 #[.slice A n c] w (ToF (legsT l2) w) := by
  subst hl2
  refine (Few13_any A n c w.heap.size l w hR hn hnc hm (Nat.le_refl _)).mono ?_
  rintro e w' ⟨A', c', rfl, -, -, ho, hb⟩
  exact ⟨_, rfl, ⟨A', c', rfl, own_rsT ho⟩, hb⟩
theorem cMakeT {y : Ky} {l : List (Nat × Int)} {base : Nat} {w : World} (hw : base ≤ w.heap.size) (hm : l.length ≤ 1000) (hI : ∀ u ∈ l, LegIn u) {v : Value} (h : (legsT l).p v w) : Calls Tryd.prog 6 #[y.v, v] w (ToF (entT y (mkL l) base) w) := by
  obtain ⟨A, c, rfl, hr⟩ := h
  refine (Make_any y A l.length c w.heap.size l w hr rfl hm (Nat.le_refl _) hI).mono ?_
  rintro e w' ⟨A', c', rfl, ho, hb⟩
  exact ⟨_, rfl, ⟨A', c', rfl, own_lowT ho hw⟩, hb⟩
theorem key_loadK {w : World} {g : Nat} {y : Ky} (h : Blk w g 25 #[.int .u32 (y.a : Int), .int .i32 y.d, .int .u8 (y.k : Int), .int .u32 (y.s : Int)]) : (Instr.loadAt 25 (.pointer (some ⟨g, 0, none⟩))).run Tryd.prog w = .ok y.v w := by
  have x0 := h.cell 0
  have x1 := h.cell 1
  have x2 := h.cell 2
  have x3 := h.cell 3
  simp at x0 x1 x2 x3
  unfold Ky.v
  go_simp
theorem own_len {w : World} {base : Nat} {v : Value} {n : Nat} {l : List UInt8} (h : OwnB w base v n l) : l.length = n := by
  have := h.1
  simpa using this

set_option maxHeartbeats 1000000 in
theorem CutO_any (A : Option Addr) (n c B most : Nat) (l : List UInt8) (w : World) (hR : Rd w B A l) (hn : l.length = n) (hm : n ≤ 140737488355328) (hmost : most ≤ 140737488355328) (hB : B ≤ w.heap.size) :
    Calls Tryd.prog 5 #[.slice A n c, .int .i64 most] w (ClPost w (l.take most)) := by
  subst hn
  go_enter Tryd.func5, Tryd.ntmps5
  go_wp2
  go_loopw [5, 10] (fun v i wr => ∃ k : Nat, k ≤ l.length ∧ i = .int .i64 k ∧ OwnB wr w.heap.size v (min k most) (l.take (min k most)) ∧ Below w.heap.size w wr) (fun _ i _ => l.length - (intOf i).toNat)
  case atStart => exact ⟨0, Nat.zero_le _, rfl, by simpa using OwnB.nil_ _ _, Below.refl _ _⟩
  case round =>
    obtain ⟨k, hk, rfl, hown, hbl⟩ := hrel
    by_cases hlt : k < l.length
    · obtain ⟨b, o, rfl, hb, hc0⟩ := hR.at_ hlt
      have hc := (hbl.cell (p := ⟨b, o + k, none⟩) (by exact Nat.lt_of_lt_of_le hb hB)).trans hc0
      have hsz := hbl.size
      by_cases hmk : k < most
      · rw [Nat.min_eq_left (by omega : k ≤ most)] at hown
        have HO := Lib.hid (hown.alloc (.cells #[.int .u8 ((l[k]).toNat : Int)] 5))
        have HT := Lib.hid (show l.take k ++ [l[k]] = l.take (min (k + 1) most) from by rw [Nat.min_eq_left (by omega), List.take_succ_eq_append_getElem hlt])
        have HR1 := Lib.hid (rd_one wr l[k])
        clear hown
        go_wp2_with (with_reducible refine wpList_append_bytes (o := ⟨some 21, _, _, _, _, _⟩) rfl (.tmp 18) (.tmp 20) rfl w.heap.size _ k (l.take k) ?h1 HO.out (wr.heap.size + 1) (some ⟨wr.heap.size, 0, none⟩) 1 1 [l[k]] ?h2 HR1.out rfl ?h3 ?h4 ?_)
        case h1 => rfl
        case h2 => rfl
        case h3 => omega
        case h4 => simp; omega
        intro v' w1 hown' hg
        have hbl' := hg.below HO.out (hbl.alloc hsz _) (Nat.le_refl _) (by simp; omega)
        have HO' := Lib.hid hown'
        clear hown' hg
        go_wp2
        go_roundw
        case rel => exact ⟨k + 1, by omega, by go_num, by rw [Nat.min_eq_left (by omega)]; simpa using HO'.out, hbl'⟩
        case measure => simp [intOf]; omega
      · have e1 : min k most = most := Nat.min_eq_right (by omega)
        have e2 : min (k + 1) most = most := Nat.min_eq_right (by omega)
        have HE := Lib.hid e1
        have HE2 := Lib.hid e2
        have HO := Lib.hid hown
        clear hown e1 e2
        go_wp2
        go_roundw
        case rel => exact ⟨k + 1, by omega, by go_num, by rw [HE2.out]; have h := HO.out; rw [HE.out] at h; exact h, hbl⟩
        case measure => simp [intOf]; omega
    · have HO := Lib.hid hown
      clear hown
      go_wp2
      go_ret
      have h := HO.out
      have e : l.take (min k most) = l.take most := by
        obtain rfl : k = l.length := by omega
        rcases Nat.le_total l.length most with h1 | h1
        · rw [Nat.min_eq_left h1, List.take_of_length_le (Nat.le_refl _), List.take_of_length_le h1]
        · rw [Nat.min_eq_right h1]
      rw [e] at h
      have hl := own_len h
      exact ⟨_, rfl, by rw [hl]; exact h, hbl⟩


theorem BytesE {y : Ky} {l : List (Nat × Int)} (hy : y.In) (hE : entB y l = true) (hI : ∀ u ∈ l, LegIn u) {A : Option Addr} {c : Nat} {w : World} (hR : Rs legT w w.heap.size A l) : Calls Tryd.prog 8 #[entV y (.slice A l.length c)] w (DPost w (layE y l)) := by
  obtain ⟨a, d, k, s⟩ := y
  obtain ⟨h0, h1, h2⟩ := entB_in hE
  obtain ⟨D, rfl⟩ : ∃ D : Nat, d = (D : Int) := ⟨d.toNat, by have : 0 ≤ d := h0; omega⟩
  exact Bytes_ok a D k s hy.a hy.k hy.s A l.length c w.heap.size l w hR rfl (Nat.le_refl _) hI hE
theorem RBytesE {y : Ky} {l : List (Nat × Int)} (hy : y.In) (hE : entB y l = true) (hI : ∀ u ∈ l, LegIn u) {A : Option Addr} {c : Nat} {w : World} (hR : Rs legT w w.heap.size A l) : Calls Tryd.prog 12 #[entV y (.slice A l.length c)] w (ToF (bySF (layE y l)) w) := by
  obtain ⟨a, d, k, s⟩ := y
  obtain ⟨h0, h1, h2⟩ := entB_in hE
  obtain ⟨D, rfl⟩ : ∃ D : Nat, d = (D : Int) := ⟨d.toNat, by have : 0 ≤ d := h0; omega⟩
  exact RBytes_any a D k s hy.a (by have : ((D : Nat) : Int) ≤ 3652058 := h1; omega) hy.k hy.s A l.length c w.heap.size l w hR rfl h2 (Nat.le_refl _) hI
theorem layE_le300 {y : Ky} {l : List (Nat × Int)} (hy : y.In) (hE : entB y l = true) (hI : ∀ u ∈ l, LegIn u) : (layE y l).length ≤ 300 := by
  obtain ⟨a, d, k, s⟩ := y
  obtain ⟨h0, h1, h2⟩ := entB_in hE
  have e1 := hy.a
  have e2 := hy.k
  have e3 := hy.s
  dsimp only at h0 h1 e1 e2 e3
  have m1 := layN_le 0 a (by omega)
  have m2 := layN_le 0 d.toNat (by omega)
  have m3 := layN_le 0 k (by omega)
  have m4 := layN_le 0 s (by omega)
  have m5 := layN_le 0 l.length (by omega)
  have m6 := layGs_le l hI
  unfold layE layKy
  simp only [List.length_append, List.length_nil]
  omega
theorem layE_pos (y : Ky) (l : List (Nat × Int)) : 0 < (layE y l).length := by
  have h : 0 < (layN 0 y.a).length := by
    unfold layN
    simp
  unfold layE layKy
  simp only [List.length_append, List.length_nil]
  omega
theorem pr_lay {y : Ky} {l : List (Nat × Int)} (hy : y.In) (hE : entB y l = true) (hI : ∀ u ∈ l, LegIn u) : prY (layE y l) = y ∧ prL (layE y l) = l ∧ prB (layE y l) = true := by
  obtain ⟨h0, h1, h2⟩ := entB_in hE
  obtain ⟨e1, e2⟩ := parse_lay y l hy.a ⟨h0, h1⟩ hy.k hy.s h2 hI
  refine ⟨e1, ?_, ?_⟩
  · unfold prL
    rw [e2]
  · unfold prB prY prL
    rw [e1, e2, hE]
    simp
theorem pr_back {q : List UInt8} (h : prB q = true) : entB (prY q) (prL q) = true ∧ layE (prY q) (prL q) = q ∧ (prY q).In := by
  unfold prB at h
  rw [Bool.and_eq_true, decide_eq_true_eq] at h
  refine ⟨h.2, parse_one h.1, ?_, ?_, ?_, ?_⟩
  · have := uV_le 4294967295 (some q); show uV 4294967295 (some q) < _; omega
  · have := uV_le 3652058 (ky1 (some q)); show (-2147483648 : Int) ≤ (uV 3652058 (ky1 (some q)) : Nat) ∧ ((uV 3652058 (ky1 (some q)) : Nat) : Int) ≤ _; omega
  · have := uV_le 255 (ky2 (some q)); show uV 255 (ky2 (some q)) < _; omega
  · have := uV_le 4294967295 (ky3 (some q)); show uV 4294967295 (ky3 (some q)) < _; omega
theorem own_at {w : World} {base : Nat} {v : Value} {n : Nat} {l : List UInt8} (h : OwnB w base v n l) : ∃ A c, v = .slice A l.length c ∧ Rd w w.heap.size A l ∧ (A = none → l.length = 0 ∧ c = 0) := by
  obtain ⟨hl, A, c, g, rfl, h1, h2, h3, h4, h5, h6⟩ := own_rg h (max base w.heap.size) (Nat.le_max_left _ _)
  refine ⟨A, c, by rw [hl], h4.rd, fun e => ⟨by have := h5 e; omega, h5 e⟩⟩
theorem rd_laterF {w w' : World} {A : Option Addr} {l : List UInt8} (h : Rd w w.heap.size A l) (hb : Below w.heap.size w w') : Rd w' w'.heap.size A l := (h.below hb).more hb.size


theorem JoinP {A : Option Addr} {n c : Nat} {l : List UInt8} {w : World} (hr : Rd w w.heap.size A l) (hn : l.length = n) (hm : n ≤ 1000) :
    Calls Tryd.prog 15 #[.slice (some ⟨w.heap.size + 1, 0, none⟩) 2 2] ((w.alloc (.cells #[.int .u8 0] 5)).alloc (.cells #[.slice A n c, .slice (some ⟨w.heap.size, 0, none⟩) 1 1] 27)) fun e w' => ∃ A' c', e = .returned (.slice A' (l ++ [0]).length c') ∧ Rd w' w'.heap.size A' (l ++ [0]) ∧ (A' = none → (l ++ [0]).length = 0 ∧ c' = 0) ∧ Below w.heap.size w w' := by
  have hb := b_alloc w (.cells #[.int .u8 0] 5)
  have h := Join_two_own A (some ⟨w.heap.size, 0, none⟩) n 1 c 1 (w.alloc (.cells #[.int .u8 0] 5)).heap.size (w.alloc (.cells #[.int .u8 0] 5)).heap.size l [0] (w.alloc (.cells #[.int .u8 0] 5)) (rd_laterF hr hb) (Nat.le_refl _) (one_rd w 0 0 (by decide)) (Nat.le_refl _) hn rfl (by omega)
  rw [show (w.alloc (.cells #[.int .u8 0] 5)).heap.size = w.heap.size + 1 by simp] at h
  refine h.mono ?_
  rintro e w' ⟨v, rfl, ho, hb2⟩
  obtain ⟨A', c', rfl, hr', hz'⟩ := own_at ho
  exact ⟨A', c', rfl, hr', hz', hb.trans (hb2.mono (by simp))⟩
theorem Join1 {A : Option Addr} {n c : Nat} {l : List UInt8} {w : World} (hr : Rd w w.heap.size A l) (hn : l.length = n) (hm : n ≤ 1000) :
    Calls Tryd.prog 15 #[.slice (some ⟨w.heap.size, 0, none⟩) 1 1] (w.alloc (.cells #[.slice A n c] 27)) (OwnPost w.heap.size w l) := Join_one_own A n c w.heap.size l w hr (Nat.le_refl _) hn (by omega)
theorem own_put {w : World} {base n : Nat} {v : Value} {l : List UInt8} (h : OwnB w base v n l) {i : Nat} (hi : i < l.length) : ∃ g c, v = .slice (some ⟨g, 0, none⟩) l.length c ∧ base ≤ g ∧ g < w.heap.size ∧ (∃ u : UInt8, w.cell? ⟨g, i, none⟩ = some (.int .u8 (u.toNat : Int))) ∧ w.frozen? ⟨g, i, none⟩ = false ∧
    ∀ u1 : UInt8, ∃ l' : List UInt8, l'.length = l.length ∧ Rd (w.setCell ⟨g, i, none⟩ (.int .u8 (u1.toNat : Int))) (w.setCell ⟨g, i, none⟩ (.int .u8 (u1.toNat : Int))).heap.size (some ⟨g, 0, none⟩) l' := by
  have hl : l.length = n := by have := h.1; simpa using this
  have h' := h
  unfold OwnB at h'
  rcases h'.2 with ⟨rfl, rfl⟩ | ⟨g, cap, cur, rfl, hb, hg, hnc, hcm, _⟩
  · omega
  · have hk : Blk w g 5 cur := hg
    have hcs := World.ownsRow.cells h' (g := g) rfl
    have hcell : ∀ (j : Nat) u, l[j]? = some u → w.cell? ⟨g, j, none⟩ = some (.int .u8 (u.toNat : Int)) := fun j u hu => by
      have := hcs j (enc8 u) (by rw [List.getElem?_map, hu]; rfl)
      simpa [go_sem, enc8] using this
    have h0 := hcell i l[i] (List.getElem?_eq_getElem hi)
    refine ⟨g, cap, by rw [hl], hb, hk.lt, ⟨l[i], h0⟩, hk.frozen i, fun u1 => ⟨l.set i u1, by simp, fun _ => ⟨g, 0, rfl, by simpa [World.setCell] using hk.lt, fun j u hu => ?_⟩⟩⟩
    rw [Nat.zero_add]
    by_cases e : j = i
    · subst e
      rw [List.getElem?_set_self hi] at hu
      injection hu with hu
      subst hu
      have hlt : j < cur.size := by
        have := hk.cell j
        rw [h0] at this
        exact (Array.getElem?_eq_some_iff.1 this.symm).1
      rw [(hk.set_ j _).cell j]
      simp [hlt]
    · rw [List.getElem?_set_ne (fun e' => e e'.symm)] at hu
      rw [World.cell?_setCell_other w ⟨g, i, none⟩ ⟨g, j, none⟩ _ (by simp)]
      exact hcell j u hu
theorem xor_of (u : UInt8) (t : Nat) : ∃ u1 : UInt8, bits .xor .u8 (u.toNat : Int) (t : Int) = (u1.toNat : Int) := by
  have h0 := bits_lo_u8 .xor (u.toNat : Int) (t : Int)
  have h1 := bits_hi_u8 .xor (u.toNat : Int) (t : Int)
  refine ⟨UInt8.ofNat (bits .xor .u8 (u.toNat : Int) (t : Int)).toNat, ?_⟩
  rw [UInt8.toNat_ofNat']
  omega

theorem SameZ (w : World) : Calls Tryd.prog 14 #[.agg #[.int .u32 0, .int .i32 0, .int .u8 0, .int .u32 0, .slice Option.none 0 0], .agg #[.int .u32 0, .int .i32 0, .int .u8 0, .int .u32 0, .slice Option.none 0 0]] w (Ret (.bool true) w) := by
  have h := Same13_any ⟨0, 0, 0, 0⟩ ⟨0, 0, 0, 0⟩ none none 0 0 0 0 w.heap.size w.heap.size [] [] w (fun h => absurd h (by simp)) rfl (by decide) (Nat.le_refl _) (fun h => absurd h (by simp)) rfl (by decide) (Nat.le_refl _)
  rw [decide_eq_true (And.intro rfl rfl)] at h
  exact h
theorem SameB {A A' : Option Addr} {n c n' c' : Nat} {l m : List UInt8} {w : World} (hR : Rd w w.heap.size A l) (hn : l.length = n) (hm : n ≤ 1000) (hR' : Rd w w.heap.size A' m) (hn' : m.length = n') (hm' : n' ≤ 1000) (h : l = m) : Calls Tryd.prog 11 #[.slice A n c, .slice A' n' c'] w (Ret (.bool true) w) := by
  have hS := Same_any A A' n c w.heap.size n' c' w.heap.size l m w hR hn (by unfold maxLen; omega) hR' hn' (by unfold maxLen; omega)
  rw [decide_eq_true h] at hS
  exact hS.mono fun e w' h => below_all h
def Els (w : World) (R : Nat) : Prop := R < w.heap.size ∧ ∀ k : Nat, k < 3 → ∃ A n c q, w.cell? ⟨R, k, none⟩ = some (.slice A n c) ∧ Rd w w.heap.size A q ∧ q.length = n ∧ n ≤ 1000 ∧ (A = none → n = 0 ∧ c = 0)
theorem els_new {w : World} {T : TypeId} {A0 A1 A2 : Option Addr} {n0 n1 n2 c0 c1 c2 : Nat} {q0 q1 q2 : List UInt8} (r0 : Rd w w.heap.size A0 q0) (r1 : Rd w w.heap.size A1 q1) (r2 : Rd w w.heap.size A2 q2) (h0 : q0.length = n0 ∧ n0 ≤ 1000 ∧ (A0 = none → n0 = 0 ∧ c0 = 0)) (h1 : q1.length = n1 ∧ n1 ≤ 1000 ∧ (A1 = none → n1 = 0 ∧ c1 = 0)) (h2 : q2.length = n2 ∧ n2 ≤ 1000 ∧ (A2 = none → n2 = 0 ∧ c2 = 0)) :
    Els (w.alloc (.cells #[.slice A0 n0 c0, .slice A1 n1 c1, .slice A2 n2 c2] T)) w.heap.size := by
  have hb := b_alloc w (.cells #[.slice A0 n0 c0, .slice A1 n1 c1, .slice A2 n2 c2] T)
  have hk := Blk.new w T #[.slice A0 n0 c0, .slice A1 n1 c1, .slice A2 n2 c2]
  refine ⟨by simp, fun k hk3 => ?_⟩
  rcases k with _ | _ | _ | k
  · exact ⟨_, _, _, _, by rw [hk.cell]; rfl, rd_laterF r0 hb, h0⟩
  · exact ⟨_, _, _, _, by rw [hk.cell]; rfl, rd_laterF r1 hb, h1⟩
  · exact ⟨_, _, _, _, by rw [hk.cell]; rfl, rd_laterF r2 hb, h2⟩
  · omega

set_option maxRecDepth 100000 in
set_option maxHeartbeats 4000000 in
theorem CForms_any (y : Ky) (hy : y.In) (A : Option Addr) (n c : Nat) (l0 : List (Nat × Int)) (Ar : Option Addr) (nr cr : Nat) (lr : List UInt8) (ta tt : Nat) (hta : ta < 65536) (htt : tt < 256) (w : World) (hle : Laid w) (hR : Rs legT w w.heap.size A l0) (hn : l0.length = n) (hnc : n ≤ c) (hm : n ≤ maxLen) (hI0 : ∀ u ∈ l0, LegIn u) (hRr : Rd w w.heap.size Ar lr) (hnr : lr.length = nr) (hmr : nr ≤ 140737488355328) :
    Calls Tryd.prog 3 #[y.v, .slice A n c, .slice Ar nr cr, .int .u16 (ta : Int), .int .u8 (tt : Int)] w (Ret (.bool true) w) := by
  have HQ0 := Lib.hid (Blk.new w 25 #[.int .u32 (y.a : Int), .int .i32 y.d, .int .u8 (y.k : Int), .int .u32 (y.s : Int)])
  have HB0 := Lib.hid (b_alloc w (.cells #[.int .u32 (y.a : Int), .int .i32 y.d, .int .u8 (y.k : Int), .int .u32 (y.s : Int)] 25))
  have HR0 := Lib.hid (hR.below HB0.out)
  have HN := Lib.hid hn
  have HNC := Lib.hid hnc
  have HM := Lib.hid hm
  have HLE := Lib.hid hle
  have HRR0 := Lib.hid (hRr.below HB0.out)
  have HNR := Lib.hid (And.intro hnr hmr)
  have HTA := Lib.hid (And.intro hta htt)
  have HY := Lib.hid hy
  have hI1 : ∀ u ∈ l0.take 12, LegIn u := fun u hu => hI0 u (List.mem_of_mem_take hu)
  have hl1 : (l0.take 12).length ≤ 12 := by rw [List.length_take]; omega
  have HI1 := Lib.hid hI1
  have HL1 := Lib.hid hl1
  clear hR hn hnc hm hI0 hle hI1 hl1 hRr hnr hmr hta htt hy
  show Calls Tryd.prog 3 #[.agg #[.int .u32 (y.a : Int), .int .i32 y.d, .int .u8 (y.k : Int), .int .u32 (y.s : Int)], .slice A n c, .slice Ar nr cr, .int .u16 (ta : Int), .int .u8 (tt : Int)] w (Ret (.bool true) w)
  go_enter Tryd.func3, Tryd.ntmps3
  go_wp2_with fail
  refine (awake13 _).mono ?_
  rintro e W1 ⟨rfl, hb1⟩
  have HB1 := Lib.hid (HB0.out.trans (hb1.mono HB0.out.size))
  have HQ1 := Lib.hid (HQ0.out.below hb1 HQ0.out.lt)
  have HR1 := Lib.hid ((HR0.out.below (hb1.mono HB0.out.size)).more HB1.out.size)
  have HRR1 := Lib.hid (HRR0.out.below (hb1.mono HB0.out.size))
  clear hb1 HB0 HQ0 HR0 HRR0
  go_wp2_with fail
  refine (CutO_any Ar nr cr w.heap.size 60 lr W1 HRR1.out HNR.out.1 HNR.out.2 (by decide) HB1.out.size).mono ?_
  rintro e W ⟨vc, rfl, hoc, hbc⟩
  obtain ⟨A2, c2, rfl, hr2, hz2⟩ := own_at hoc
  obtain ⟨q2, hq2⟩ : ∃ q, lr.take 60 = q := ⟨_, rfl⟩
  have hq2l : q2.length ≤ 60 := by rw [← hq2, List.length_take]; omega
  rw [hq2] at hr2 hz2
  rw [hq2]
  have HRW2 := Lib.hid hr2
  have HZ2 := Lib.hid (And.intro hz2 hq2l)
  have HQ1' := HQ1.out.below hbc HQ1.out.lt
  have HR1' := rs_laterT HR1.out hbc
  have HB1' := HB1.out.trans (hbc.mono HB1.out.size)
  clear HQ1 HR1 HB1 HRR1 HNR hoc hbc hr2 hz2 hq2 hq2l
  have HQ1 := Lib.hid HQ1'
  have HR1 := Lib.hid HR1'
  have HB1 := Lib.hid HB1'
  clear HQ1' HR1' HB1'
  obtain ⟨l, hl⟩ : ∃ l, l0.take 12 = l := ⟨_, rfl⟩
  rw [hl] at HI1 HL1
  have HLT := Lib.hid hl
  clear hl
  go_wp2_with fail
  refine wp_region_flow_last (l := [_, _, _, _, _]) (ol := _) rfl [some 24, some 25, some 26, some 27, some 11] (fun i => ([.is (y.v), .is (.slice A n c), legsT l, entT y (mkL l) W.heap.size, boxF W.heap.size 32 #[.int .u32 0, .int .i32 0, .int .u8 0, .int .u32 0, .slice Option.none 0 0]] : List Flw).getD i .any) (by kernel_rfl) (by kernel_rfl) (by kernel_rfl) rfl rfl ?_ ?_
  · have hl13 : l.length ≤ 1000 := by have := HL1.out; omega
    have hI := HI1.out
    have HNn := HN.out
    have hnc := HNC.out
    have hm := HM.out
    have HRW : ∀ W', Below W.heap.size W W' → Rs legT W' W'.heap.size A l0 := fun W' hb => rs_laterT HR1.out hb
    have LK : ∀ W', Below W.heap.size W W' → (Instr.loadAt 25 (.pointer (some ⟨w.heap.size, 0, none⟩))).run Tryd.prog W' = .ok y.v W' := fun W' hb => key_loadK (HQ1.out.below hb HQ1.out.lt)
    have hlt9 := HLT.out
    clear HI1 HL1 HN HNC HM HR1 HQ1 HB1 HLE HLT HRW2 HZ2 HTA HY
    refine ⟨step_free rfl (fun aF wF hs hb => ?_), ?_⟩
    · obtain ⟨x0, -⟩ := hs
      have e0 : aF.eval (.tmp 5) = .pointer (some ⟨w.heap.size, 0, none⟩) := x0
      exact opC_load e0 (LK wF hb) ⟨rfl, below_same wF⟩
    refine ⟨step_free rfl (fun aF wF hs hb => ?_), ?_⟩
    · obtain ⟨x0, -⟩ := hs
      have e0 : aF.eval (.tmp 1) = .slice A n c := x0
      exact opC_move e0 ⟨rfl, below_same wF⟩
    refine ⟨step_free rfl (fun aF wF hs hb => ?_), ?_⟩
    · obtain ⟨x0, -⟩ := hs
      have e0 : aF.eval (.tmp 25) = .slice A n c := x0
      exact opC_callF (args := #[.slice A n c]) (enters_of Tryd.func7 (by kernel_rfl) rfl) (by simp [e0]) (cFewT hlt9 HNn hnc hm (HRW wF hb)) (fun _ _ h1 h2 => ⟨h1, h2⟩)
    refine ⟨step_free rfl (fun aF wF hs hb => ?_), ?_⟩
    · obtain ⟨x0, x1, -⟩ := hs
      have e0 : aF.eval (.tmp 24) = y.v := x0
      have y1 : (legsT l).p (aF.eval (.tmp 26)) wF := x1
      exact opC_callF (args := #[y.v, aF.eval (.tmp 26)]) (enters_of Tryd.func6 (by kernel_rfl) rfl) (by simp [e0]) (cMakeT hb.size hl13 hI y1) (fun _ _ h1 h2 => ⟨h1, h2⟩)
    refine ⟨step_free rfl (fun aF wF hs hb => ?_), ?_⟩
    · refine opC_alloc (cs := #[.int .u32 0, .int .i32 0, .int .u8 0, .int .u32 0, .slice Option.none 0 0]) (by go_simp) ⟨⟨wF.heap.size, rfl, ?_, ?_⟩, ?_⟩
      · exact hb.size
      · exact heap_alloc_new wF _
      · exact b_alloc wF _
    exact trivial
  · intro f w5 hf hb5
    obtain ⟨g5, e5, hg5, hk5⟩ : (boxF W.heap.size 32 #[.int .u32 0, .int .i32 0, .int .u8 0, .int .u32 0, .slice Option.none 0 0]).p (f 4) w5 := hf 4 11 rfl
    obtain ⟨A5, c5, e17, ho5⟩ : (entT y (mkL l) W.heap.size).p (f 3) w5 := hf 3 27 rfl
    have hIM := mkL_in l
    have hlM := mkL_len l
    obtain ⟨M, hM⟩ : ∃ M, mkL l = M := ⟨_, rfl⟩
    rw [hM] at e17 ho5 hIM hlM
    clear hM
    simp only [putF, Act.put, List.setIfInBounds_toArray, List.set_cons_zero, List.set_cons_succ]
    rw [e5, e17]
    have k0 := Blk.cell hk5 0
    have k1 := Blk.cell hk5 1
    have k2 := Blk.cell hk5 2
    have k3 := Blk.cell hk5 3
    have k4 := Blk.cell hk5 4
    have z0 := Blk.frozen hk5 0
    have z1 := Blk.frozen hk5 1
    have z2 := Blk.frozen hk5 2
    have z3 := Blk.frozen hk5 3
    have z4 := Blk.frozen hk5 4
    simp at k0 k1 k2 k3 k4
    unfold entV entC
    constructor
    go_simp
    have gr := grown_trans (grown_trans (grown_trans (grown_trans (grown_set w5 g5 0 (.int .u32 (y.a : Int))) (grown_set _ g5 1 (.int .i32 y.d))) (grown_set _ g5 2 (.int .u8 (y.k : Int)))) (grown_set _ g5 3 (.int .u32 (y.s : Int)))) (grown_set _ g5 4 (.slice A5 M.length c5))
    have b5 := ((((hb5.setCell hg5 (.int .u32 (y.a : Int)) (p := ⟨g5, 0, none⟩)).setCell hg5 (.int .i32 y.d) (p := ⟨g5, 1, none⟩)).setCell hg5 (.int .u8 (y.k : Int)) (p := ⟨g5, 2, none⟩)).setCell hg5 (.int .u32 (y.s : Int)) (p := ⟨g5, 3, none⟩)).setCell hg5 (.slice A5 M.length c5) (p := ⟨g5, 4, none⟩)
    have n7 := ((((Blk.set_ hk5 0 (.int .u32 (y.a : Int))).set_ 1 (.int .i32 y.d)).set_ 2 (.int .u8 (y.k : Int))).set_ 3 (.int .u32 (y.s : Int))).set_ 4 (.slice A5 M.length c5)
    have o5 := ho5.grown gr (.inl (fun e => ho5.ne_blk hk5 entNe e.symm))
    obtain ⟨V, hV⟩ : ∃ V, (((((w5.setCell ⟨g5, 0, none⟩ (.int .u32 (y.a : Int))).setCell ⟨g5, 1, none⟩ (.int .i32 y.d)).setCell ⟨g5, 2, none⟩ (.int .u8 (y.k : Int))).setCell ⟨g5, 3, none⟩ (.int .u32 (y.s : Int))).setCell ⟨g5, 4, none⟩ (.slice A5 M.length c5)) = V := ⟨_, rfl⟩
    rw [hV] at gr b5 n7 o5
    rw [hV]
    have HE := Lib.hid (show Blk V g5 32 #[.int .u32 (y.a : Int), .int .i32 y.d, .int .u8 (y.k : Int), .int .u32 (y.s : Int), .slice A5 M.length c5] by simpa using n7)
    have HB := Lib.hid (HB1.out.trans (b5.mono HB1.out.size))
    have HRW := Lib.hid (rd_laterF HRW2.out b5)
    have HRM := Lib.hid (own_rsT o5)
    have HIM := Lib.hid hIM
    have HLM := Lib.hid hlM
    clear hV gr b5 n7 o5 ho5 hk5 hg5 e5 e17 hf hb5 k0 k1 k2 k3 k4 z0 z1 z2 z3 z4 HQ1 HR1 HB1 hIM hlM HI1 HL1 HN HNC HM HLT HRW2
    simp only [comesC]
    cases hq : entB y M with
    | false =>
      have hBy := Bytes_no y A5 M.length c5 V.heap.size M V HRM.out rfl (by have := HLM.out; omega) (Nat.le_refl _) HIM.out hq
      have hRt : ∀ W', Below V.heap.size V W' → _ := fun W' (hb : Below V.heap.size V W') => Right_any13 y A5 M.length c5 W'.heap.size M W' (rs_laterT HRM.out hb) rfl (by have := HLM.out; omega) (Nat.le_refl _) HIM.out
      rw [hq] at hRt
      unfold entV entC at hBy hRt
      have HBY := Lib.hid hBy
      have HRT := Lib.hid hRt
      clear hBy hRt hq
      have n0 := HE.out.cell 0
      have n1 := HE.out.cell 1
      have n2 := HE.out.cell 2
      have n3 := HE.out.cell 3
      have n4 := HE.out.cell 4
      simp at n0 n1 n2 n3 n4
      go_wp2_with fail
      refine HBY.out.mono ?_
      rintro e w6 ⟨rfl, hb6⟩
      clear n0 n1 n2 n3 n4
      have HE6 := Lib.hid (HE.out.below hb6 HE.out.lt)
      have HR6 := Lib.hid (HRT.out w6 hb6)
      have HB6 := Lib.hid (HB.out.trans (hb6.mono HB.out.size))
      have HW6 := Lib.hid (rd_laterF HRW.out hb6)
      clear hb6 HBY HRT HE HB HRW
      have n0 := HE6.out.cell 0
      have n1 := HE6.out.cell 1
      have n2 := HE6.out.cell 2
      have n3 := HE6.out.cell 3
      have n4 := HE6.out.cell 4
      simp at n0 n1 n2 n3 n4
      go_wp2_with fail
      refine HR6.out.mono ?_
      rintro e w7 ⟨rfl, hb7⟩
      clear n0 n1 n2 n3 n4
      have HB7 := Lib.hid (HB6.out.trans (hb7.mono HB6.out.size))
      have HW7 := Lib.hid (rd_laterF HW6.out hb7)
      have HP7 : Hid (Rd w7 w7.heap.size none []) := Lib.hid Rd.nil_
      clear hb7 HR6 HB6 HW6 HE6
      go_wp2_with fail
      refine (JoinP (l := []) HP7.out rfl (by decide)).mono ?_
      rintro e w8 ⟨A8, c8, rfl, hr8, hz8, hb8⟩
      obtain ⟨q8, hq8⟩ : ∃ q, ([] ++ [0] : List UInt8) = q := ⟨_, rfl⟩
      have hl8 : q8.length ≤ 1000 := by rw [← hq8, List.length_append]; simp only [List.length_cons, List.length_nil]; have := True.intro; omega
      rw [hq8] at hr8 hz8
      rw [hq8]
      have HEL := Lib.hid (els_new (T := 27) (c0 := c2) (rd_laterF HW7.out hb8) (rd_laterF HW7.out hb8) hr8 ⟨rfl, by have := HZ2.out.2; omega, HZ2.out.1⟩ ⟨rfl, by have := HZ2.out.2; omega, HZ2.out.1⟩ ⟨rfl, hl8, hz8⟩)
      have HB8 := Lib.hid ((HB7.out.trans (hb8.mono HB7.out.size)).alloc (HB7.out.trans (hb8.mono HB7.out.size)).size (.cells #[.slice A2 q2.length c2, .slice A2 q2.length c2, .slice A8 q8.length c8] 27))
      clear hr8 hz8 hb8 hq8 hl8 HB7 HW7 HP7
      go_wp2_with fail
      obtain ⟨R, hRg⟩ : ∃ R, w8.heap.size = R := ⟨_, rfl⟩
      obtain ⟨w9, hw9⟩ : ∃ X, w8.alloc (.cells #[.slice A2 q2.length c2, .slice A2 q2.length c2, .slice A8 q8.length c8] 27) = X := ⟨_, rfl⟩
      have hEL := HEL.out
      have hB9 := HB8.out
      rw [hRg, hw9] at hEL
      rw [hw9] at hB9
      rw [hRg, hw9]
      have HEL9 := Lib.hid hEL
      have HB9 := Lib.hid hB9
      clear hEL hB9 hRg hw9 HEL HB8
      go_loopw [17, 18, 19, 83] (fun _ _ _ i wr => ∃ (k : Nat), k ≤ 3 ∧ i = .int .i64 k ∧ Hid (Below w9.heap.size w9 wr)) (fun _ _ _ i _ => 3 - (intOf i).toNat)
      case atStart => exact ⟨0, by omega, rfl, Lib.hid (Below.refl _ _)⟩
      case round =>
        obtain ⟨k, hk, rfl, HBk⟩ := hrel
        by_cases hlt : k < 3
        · obtain ⟨A9, n9, c9, q, hc9, hr9, hn9, hm9, hz9⟩ := HEL9.out.2 k hlt
          have hc9 := (HBk.out.cell (p := ⟨R, k, none⟩) HEL9.out.1).trans hc9
          have hr9 := rd_laterF hr9 HBk.out
          have hPa := Parse_any A9 n9 c9 wr.heap.size q wr hr9 hn9 (by omega) (Nat.le_refl _) hz9
          have HPA := Lib.hid hPa
          have HR9 := Lib.hid hr9
          have HN9 := Lib.hid (And.intro hn9 (And.intro hm9 hz9))
          clear hPa hr9 hn9 hm9 hz9
          go_wp2_with fail
          refine HPA.out.mono ?_
          rintro e w10 ⟨hp1, hp2, hb10⟩
          have HB10 := Lib.hid (HBk.out.trans (hb10.mono HBk.out.size))
          have HR10 := Lib.hid (rd_laterF HR9.out hb10)
          clear hb10 HBk HR9 HPA
          cases hp : prB q with
          | true =>
            obtain ⟨G, rfl, hrG⟩ := hp1 hp
            obtain ⟨hE', hL', hY'⟩ := pr_back hp
            have hI' := prL_in q
            clear hp1 hp2 hp
            obtain ⟨y', hy'⟩ : ∃ y', prY q = y' := ⟨_, rfl⟩
            obtain ⟨l', hl'⟩ : ∃ l', prL q = l' := ⟨_, rfl⟩
            rw [hy', hl'] at hE' hL'
            rw [hy'] at hY'
            rw [hl'] at hrG hI'
            rw [hy', hl']
            have hb11 := b_alloc w10 (.cells #[.int .u32 (y'.a : Int), .int .i32 y'.d, .int .u8 (y'.k : Int), .int .u32 (y'.s : Int), .slice (some ⟨G, 0, none⟩) l'.length l'.length] 32)
            have hBy := BytesE hY' hE' hI' (c := l'.length) (rs_laterT hrG hb11)
            rw [hL'] at hBy
            unfold entV entC at hBy ⊢
            have HBY := Lib.hid hBy
            have HB11 := Lib.hid (HB10.out.trans (hb11.mono HB10.out.size))
            have HR11 := Lib.hid (rd_laterF HR10.out hb11)
            clear hBy hb11 hrG hE' hL' hY' hI' hy' hl' HB10 HR10
            go_wp2_with fail
            refine HBY.out.mono ?_
            rintro e w12 ⟨⟨A', g', rfl, -, -, hrg⟩, hb12⟩
            have hSm := SameB (c := q.length) (c' := c9) hrg.rd rfl (by have := HN9.out.1; have := HN9.out.2.1; omega) (rd_laterF HR11.out hb12) HN9.out.1 HN9.out.2.1 rfl
            have HB12 := Lib.hid (HB11.out.trans (hb12.mono HB11.out.size))
            have HSM := Lib.hid hSm
            clear hSm hb12 hrg HR11 HB11 HBY
            go_wp2_with fail
            refine HSM.out.mono ?_
            rintro e w13 ⟨rfl, hb13⟩
            have HB13 := Lib.hid (HB12.out.trans (hb13.mono HB12.out.size))
            clear hb13 HSM HB12
            go_wp2_with fail
            go_roundw
            case rel => exact ⟨k + 1, by omega, by go_num, HB13⟩
            case measure => simp [intOf]; omega
          | false =>
            obtain rfl := hp2 hp
            clear hp1 hp2 hp
            have hb11 := b_alloc w10 (.cells #[.int .u32 0, .int .i32 0, .int .u8 0, .int .u32 0, .slice Option.none 0 0] 32)
            have hk11 := Blk.new w10 32 #[.int .u32 0, .int .i32 0, .int .u8 0, .int .u32 0, .slice Option.none 0 0]
            have HB11 := Lib.hid (HB10.out.trans (hb11.mono HB10.out.size))
            have hCo := Code_errno 2 _ (HLE.out.below (HB9.out.trans (HB11.out.mono HB9.out.size)))
            have HCO := Lib.hid hCo
            have HK11 := Lib.hid hk11
            obtain ⟨gx, hgx⟩ : ∃ g, w10.heap.size = g := ⟨_, rfl⟩
            have hk12 := HK11.out
            rw [hgx] at hk12
            have HKX := Lib.hid hk12
            have HGX := Lib.hid hgx
            clear hCo hb11 hk11 hk12 HK11 hgx HB10 HR10
            unfold zeroC5 eno
            go_wp2_with fail
            rw [HGX.out]
            refine HCO.out.mono ?_
            rintro e w12 ⟨rfl, hb12⟩
            have HK12 := Lib.hid (HKX.out.below hb12 HKX.out.lt)
            have HB12 := Lib.hid (HB11.out.trans (hb12.mono HB11.out.size))
            clear hb12 HB11 HKX HCO HGX
            have v0 := HK12.out.cell 0
            have v1 := HK12.out.cell 1
            have v2 := HK12.out.cell 2
            have v3 := HK12.out.cell 3
            have v4 := HK12.out.cell 4
            simp at v0 v1 v2 v3 v4
            go_wp2_with fail
            refine (SameZ _).mono ?_
            rintro e w13 ⟨rfl, hb13⟩
            have HB13 := Lib.hid (HB12.out.trans (hb13.mono HB12.out.size))
            clear hb13 HB12 v0 v1 v2 v3 v4 HK12
            go_wp2_with fail
            go_roundw
            case rel => exact ⟨k + 1, by omega, by go_num, HB13⟩
            case measure => simp [intOf]; omega
        · obtain rfl : k = 3 := by omega
          go_wp2_with fail
          go_ret
          exact ⟨rfl, HB9.out.trans (HBk.out.mono HB9.out.size)⟩
    | true =>
      have hYI := HY.out
      have hBy := BytesE hYI hq HIM.out HRM.out (c := c5)
      obtain ⟨e1, e2, e3⟩ := pr_lay hYI hq HIM.out
      have h300 := layE_le300 hYI hq HIM.out
      have hpos := layE_pos y M
      obtain ⟨_, _, hM8⟩ := entB_in hq
      obtain ⟨L, hL⟩ : ∃ L, layE y M = L := ⟨_, rfl⟩
      have hRB : ∀ (A' : Option Addr) (c' : Nat) W', Rs legT W' W'.heap.size A' M → _ := fun (A' : Option Addr) (c' : Nat) W' (hr : Rs legT W' W'.heap.size A' M) => RBytesE hYI hq HIM.out (c := c') hr
      have hRt : ∀ W', Below V.heap.size V W' → _ := fun W' (hb : Below V.heap.size V W') => Right_any13 y A5 M.length c5 W'.heap.size M W' (rs_laterT HRM.out hb) rfl (by omega) (Nat.le_refl _) HIM.out
      rw [hL] at hBy e1 e2 e3 h300 hpos
      simp only [hL] at hRB
      simp only [hq] at hRt
      unfold entV entC at hBy hRt
      have HBY := Lib.hid hBy
      have HRT := Lib.hid hRt
      have HRB := Lib.hid hRB
      have HPL := Lib.hid (And.intro e1 (And.intro e2 e3))
      have HLL := Lib.hid (And.intro hpos h300)
      have HM8 := Lib.hid hM8
      have hpos2 : decide (0 < L.length) = true := decide_eq_true hpos
      clear hBy hRt hRB hq e1 e2 e3 h300 hpos hM8 hL hYI
      have n0 := HE.out.cell 0
      have n1 := HE.out.cell 1
      have n2 := HE.out.cell 2
      have n3 := HE.out.cell 3
      have n4 := HE.out.cell 4
      simp at n0 n1 n2 n3 n4
      go_wp2_with fail
      refine HBY.out.mono ?_
      rintro e w6 ⟨⟨A6, g6, rfl, hz6, hg6, hrg6⟩, hb6⟩
      clear n0 n1 n2 n3 n4
      have HE6 := Lib.hid (HE.out.below hb6 HE.out.lt)
      have HR6 := Lib.hid (HRT.out w6 hb6)
      have HB6 := Lib.hid (HB.out.trans (hb6.mono HB.out.size))
      have HW6 := Lib.hid (rd_laterF HRW.out hb6)
      have HP6 := Lib.hid hrg6.rd
      have HPZ := Lib.hid hz6
      have HRM6 := Lib.hid (rs_laterT HRM.out hb6)
      clear hb6 hrg6 hg6 hz6 HBY HRT HE HB HRW HRM
      have n0 := HE6.out.cell 0
      have n1 := HE6.out.cell 1
      have n2 := HE6.out.cell 2
      have n3 := HE6.out.cell 3
      have n4 := HE6.out.cell 4
      simp at n0 n1 n2 n3 n4
      go_wp2_with fail
      refine HR6.out.mono ?_
      rintro e w7 ⟨rfl, hb7⟩
      clear n0 n1 n2 n3 n4
      have HE7 := Lib.hid (HE6.out.below hb7 HE6.out.lt)
      have HB7 := Lib.hid (HB6.out.trans (hb7.mono HB6.out.size))
      have HW7 := Lib.hid (rd_laterF HW6.out hb7)
      have HP7 := Lib.hid (rd_laterF HP6.out hb7)
      have HRM7 := Lib.hid (rs_laterT HRM6.out hb7)
      clear hb7 HR6 HB6 HW6 HE6 HP6 HRM6
      have hPa := Parse_any A6 L.length L.length w7.heap.size L w7 HP7.out rfl (by have := HLL.out.2; omega) (Nat.le_refl _) (fun e => ⟨HPZ.out e, HPZ.out e⟩)
      have HPA := Lib.hid hPa
      clear hPa
      go_wp2_with fail
      refine HPA.out.mono ?_
      rintro e w8 ⟨hp1, -, hb8⟩
      obtain ⟨G, rfl, hrG⟩ := hp1 HPL.out.2.2
      rw [HPL.out.2.1] at hrG
      rw [HPL.out.1, HPL.out.2.1]
      have HB8 := Lib.hid (HB7.out.trans (hb8.mono HB7.out.size))
      have HE8 := Lib.hid (HE7.out.below hb8 HE7.out.lt)
      have HW8 := Lib.hid (rd_laterF HW7.out hb8)
      have HP8 := Lib.hid (rd_laterF HP7.out hb8)
      have HRM8 := Lib.hid (rs_laterT HRM7.out hb8)
      have hb9 := b_alloc w8 (.cells #[.int .u32 (y.a : Int), .int .i32 y.d, .int .u8 (y.k : Int), .int .u32 (y.s : Int), .slice (some ⟨G, 0, none⟩) M.length M.length] 32)
      have hx9 := Blk.new w8 32 #[.int .u32 (y.a : Int), .int .i32 y.d, .int .u8 (y.k : Int), .int .u32 (y.s : Int), .slice (some ⟨G, 0, none⟩) M.length M.length]
      have he9 := HE8.out.below hb9 HE8.out.lt
      obtain ⟨gx, hgx⟩ : ∃ g, w8.heap.size = g := ⟨_, rfl⟩
      obtain ⟨w9, hw9⟩ : ∃ X, w8.alloc (.cells #[.int .u32 (y.a : Int), .int .i32 y.d, .int .u8 (y.k : Int), .int .u32 (y.s : Int), .slice (some ⟨G, 0, none⟩) M.length M.length] 32) = X := ⟨_, rfl⟩
      have HW9 := Lib.hid (And.intro hw9 hgx)
      have HB9 := Lib.hid (HB8.out.trans (hb9.mono HB8.out.size))
      have HW9r := Lib.hid (rd_laterF HW8.out hb9)
      have HP9 := Lib.hid (rd_laterF HP8.out hb9)
      have HRM9 := Lib.hid (rs_laterT HRM8.out hb9)
      have HRG9 := Lib.hid (rs_laterT hrG hb9)
      rw [hw9] at HB9 HW9r HP9 HRM9 HRG9 hx9 he9
      rw [hgx] at hx9
      have HX9 := Lib.hid hx9
      have HE9 := Lib.hid he9
      clear hx9 he9 hw9 hgx hb9 hb8 hrG hp1 HB8 HE8 HW8 HP8 HRM8 HB7 HE7 HW7 HP7 HRM7 HPA
      unfold entV entC
      go_upto_region 11 with (fail)
      rw [HW9.out.1, HW9.out.2]
      have hOw := Own_any y A5 M.length c5 w9.heap.size M w9 HRM9.out rfl (by have := HM8.out; omega) (Nat.le_refl _) HIM.out
      unfold entV entC at hOw
      have HOW := Lib.hid hOw
      clear hOw HW9
      have n0 := HE9.out.cell 0
      have n1 := HE9.out.cell 1
      have n2 := HE9.out.cell 2
      have n3 := HE9.out.cell 3
      have n4 := HE9.out.cell 4
      simp at n0 n1 n2 n3 n4
      go_wp2_with fail
      refine HOW.out.mono ?_
      rintro e w10 ⟨A10, c10, rfl, ho10, hb10⟩
      clear n0 n1 n2 n3 n4
      have hrb := HRB.out A10 c10 w10 (own_rsT ho10)
      unfold entV entC at hrb ⊢
      have HRBB := Lib.hid hrb
      have HB10 := Lib.hid (HB9.out.trans (hb10.mono HB9.out.size))
      have HX10 := Lib.hid (HX9.out.below hb10 HX9.out.lt)
      have HE10 := Lib.hid (HE9.out.below hb10 HE9.out.lt)
      have HW10 := Lib.hid (rd_laterF HW9r.out hb10)
      have HP10 := Lib.hid (rd_laterF HP9.out hb10)
      have HRM10 := Lib.hid (rs_laterT HRM9.out hb10)
      have HRG10 := Lib.hid (rs_laterT HRG9.out hb10)
      clear hrb hb10 ho10 HB9 HX9 HE9 HW9r HP9 HRM9 HRG9 HRB HOW
      go_wp2_with fail
      refine HRBB.out.mono ?_
      rintro e w11 ⟨v11, rfl, ⟨A11, c11, rfl, hr11⟩, hb11⟩
      have HB11 := Lib.hid (HB10.out.trans (hb11.mono HB10.out.size))
      have HX11 := Lib.hid (HX10.out.below hb11 HX10.out.lt)
      have HE11 := Lib.hid (HE10.out.below hb11 HE10.out.lt)
      have HW11 := Lib.hid (rd_laterF HW10.out hb11)
      have HP11 := Lib.hid (rd_laterF HP10.out hb11)
      have HRM11 := Lib.hid (rs_laterT HRM10.out hb11)
      have HRG11 := Lib.hid (rs_laterT HRG10.out hb11)
      have HSM := Lib.hid (SameB (c := L.length) (c' := c11) HP11.out rfl (by have := HLL.out.2; omega) hr11 rfl (by have := HLL.out.2; omega) rfl)
      clear hb11 hr11 HB10 HX10 HE10 HW10 HP10 HRM10 HRG10 HRBB
      go_wp2_with fail
      refine HSM.out.mono ?_
      rintro e w12 ⟨rfl, hb12⟩
      have HB12 := Lib.hid (HB11.out.trans (hb12.mono HB11.out.size))
      have HX12 := Lib.hid (HX11.out.below hb12 HX11.out.lt)
      have HE12 := Lib.hid (HE11.out.below hb12 HE11.out.lt)
      have HW12 := Lib.hid (rd_laterF HW11.out hb12)
      have HP12 := Lib.hid (rd_laterF HP11.out hb12)
      have hS2 := Same13_any y y (some ⟨G, 0, none⟩) A5 M.length M.length M.length c5 w12.heap.size w12.heap.size M M w12 (rs_laterT HRG11.out hb12) rfl (by have := HM8.out; omega) (Nat.le_refl _) (rs_laterT HRM11.out hb12) rfl (by have := HM8.out; omega) (Nat.le_refl _)
      rw [decide_eq_true (And.intro rfl rfl)] at hS2
      unfold entV entC at hS2
      have HS2 := Lib.hid hS2
      clear hb12 hS2 HB11 HX11 HE11 HW11 HP11 HRM11 HRG11 HSM
      have n0 := HE12.out.cell 0
      have n1 := HE12.out.cell 1
      have n2 := HE12.out.cell 2
      have n3 := HE12.out.cell 3
      have n4 := HE12.out.cell 4
      simp at n0 n1 n2 n3 n4
      have m0 := HX12.out.cell 0
      have m1 := HX12.out.cell 1
      have m2 := HX12.out.cell 2
      have m3 := HX12.out.cell 3
      have m4 := HX12.out.cell 4
      simp at m0 m1 m2 m3 m4
      go_wp2_with fail
      refine HS2.out.mono ?_
      rintro e w13 ⟨rfl, hb13⟩
      clear n0 n1 n2 n3 n4
      clear m0 m1 m2 m3 m4
      have HB13 := Lib.hid (HB12.out.trans (hb13.mono HB12.out.size))
      have HW13 := Lib.hid (rd_laterF HW12.out hb13)
      have HP13 := Lib.hid (rd_laterF HP12.out hb13)
      clear hb13 HB12 HX12 HE12 HW12 HP12 HS2
      have HJ := Lib.hid (Join1 (c := L.length) HP13.out rfl (by have := HLL.out.2; omega))
      go_wp2_with fail
      refine HJ.out.mono ?_
      rintro e w14 ⟨v14, rfl, ho14, hb14⟩
      obtain ⟨j, hj⟩ : ∃ j, ta % L.length = j := ⟨_, rfl⟩
      have hjl : j < L.length := by rw [← hj]; exact Nat.mod_lt _ HLL.out.1
      have hje : ((ta : Int)).tmod (L.length : Int) = (j : Int) := by
        rw [← hj]
        rfl
      obtain ⟨gb, cb, rfl, hgb, hgs, ⟨u, hu⟩, hfz, hput⟩ := own_put ho14 hjl
      obtain ⟨u1, hu1⟩ := xor_of u tt
      obtain ⟨l15, hl15, hr15⟩ := hput u1
      have ita : IntKind.i64.wrap (ta : Int) = (ta : Int) := by have := HTA.out.1; rw [IntKind.wrap_i64]; omega
      have hb15 := hb14.setCell hgb (.int .u8 (u1.toNat : Int)) (p := ⟨gb, j, none⟩)
      obtain ⟨w15, hw15⟩ : ∃ X, w14.setCell ⟨gb, j, none⟩ (.int .u8 (u1.toNat : Int)) = X := ⟨_, rfl⟩
      have hs15 : w14.heap.size = w15.heap.size := by rw [← hw15]; simp [World.setCell]
      have HS15 := Lib.hid hs15
      rw [hw15] at hb15 hr15
      clear hs15
      have HW15 := Lib.hid hw15
      have HB7 := Lib.hid (HB13.out.trans (hb15.mono HB13.out.size))
      have HW7 := Lib.hid (rd_laterF HW13.out hb15)
      have HP7 := Lib.hid (rd_laterF HP13.out hb15)
      have HBT := Lib.hid hr15
      have HL15 := Lib.hid hl15
      have HLN : Hid (L.length ≤ 1000) := Lib.hid (by have := HLL.out.2; omega)
      clear hb15 hw15 hr15 hput hl15 ho14 hb14 HB13 HW13 HP13 HJ hj hgb
      go_wp2_with fail
      rw [HW15.out, HS15.out]
      refine (JoinP (l := L) HP7.out rfl HLN.out).mono ?_
      rintro e w8 ⟨A8, c8, rfl, hr8, hz8, hb8⟩
      obtain ⟨q8, hq8⟩ : ∃ q, (L ++ [0] : List UInt8) = q := ⟨_, rfl⟩
      have hl8 : q8.length ≤ 1000 := by rw [← hq8, List.length_append]; simp only [List.length_cons, List.length_nil]; have := HLL.out.2; omega
      rw [hq8] at hr8 hz8
      rw [hq8]
      have HEL := Lib.hid (els_new (T := 27) (c0 := cb) (rd_laterF HBT.out hb8) (rd_laterF HW7.out hb8) hr8 ⟨HL15.out, HLN.out, fun e => nomatch e⟩ ⟨rfl, by have := HZ2.out.2; omega, HZ2.out.1⟩ ⟨rfl, hl8, hz8⟩)
      have HB8 := Lib.hid ((HB7.out.trans (hb8.mono HB7.out.size)).alloc (HB7.out.trans (hb8.mono HB7.out.size)).size (.cells #[.slice (some ⟨gb, 0, none⟩) L.length cb, .slice A2 q2.length c2, .slice A8 q8.length c8] 27))
      clear hr8 hz8 hb8 hq8 hl8 HB7 HW7 HP7
      go_wp2_with fail
      obtain ⟨R, hRg⟩ : ∃ R, w8.heap.size = R := ⟨_, rfl⟩
      obtain ⟨w9, hw9⟩ : ∃ X, w8.alloc (.cells #[.slice (some ⟨gb, 0, none⟩) L.length cb, .slice A2 q2.length c2, .slice A8 q8.length c8] 27) = X := ⟨_, rfl⟩
      have hEL := HEL.out
      have hB9 := HB8.out
      rw [hRg, hw9] at hEL
      rw [hw9] at hB9
      rw [hRg, hw9]
      have HEL9 := Lib.hid hEL
      have HB9 := Lib.hid hB9
      clear hEL hB9 hRg hw9 HEL HB8
      go_loopw [17, 18, 19, 83] (fun _ _ _ i wr => ∃ (k : Nat), k ≤ 3 ∧ i = .int .i64 k ∧ Hid (Below w9.heap.size w9 wr)) (fun _ _ _ i _ => 3 - (intOf i).toNat)
      case atStart => exact ⟨0, by omega, rfl, Lib.hid (Below.refl _ _)⟩
      case round =>
        obtain ⟨k, hk, rfl, HBk⟩ := hrel
        by_cases hlt : k < 3
        · obtain ⟨A9, n9, c9, q, hc9, hr9, hn9, hm9, hz9⟩ := HEL9.out.2 k hlt
          have hc9 := (HBk.out.cell (p := ⟨R, k, none⟩) HEL9.out.1).trans hc9
          have hr9 := rd_laterF hr9 HBk.out
          have hPa := Parse_any A9 n9 c9 wr.heap.size q wr hr9 hn9 (by omega) (Nat.le_refl _) hz9
          have HPA := Lib.hid hPa
          have HR9 := Lib.hid hr9
          have HN9 := Lib.hid (And.intro hn9 (And.intro hm9 hz9))
          clear hPa hr9 hn9 hm9 hz9
          go_wp2_with fail
          refine HPA.out.mono ?_
          rintro e w10 ⟨hp1, hp2, hb10⟩
          have HB10 := Lib.hid (HBk.out.trans (hb10.mono HBk.out.size))
          have HR10 := Lib.hid (rd_laterF HR9.out hb10)
          clear hb10 HBk HR9 HPA
          cases hp : prB q with
          | true =>
            obtain ⟨G, rfl, hrG⟩ := hp1 hp
            obtain ⟨hE', hL', hY'⟩ := pr_back hp
            have hI' := prL_in q
            clear hp1 hp2 hp
            obtain ⟨y', hy'⟩ : ∃ y', prY q = y' := ⟨_, rfl⟩
            obtain ⟨l', hl'⟩ : ∃ l', prL q = l' := ⟨_, rfl⟩
            rw [hy', hl'] at hE' hL'
            rw [hy'] at hY'
            rw [hl'] at hrG hI'
            rw [hy', hl']
            have hb11 := b_alloc w10 (.cells #[.int .u32 (y'.a : Int), .int .i32 y'.d, .int .u8 (y'.k : Int), .int .u32 (y'.s : Int), .slice (some ⟨G, 0, none⟩) l'.length l'.length] 32)
            have hBy := BytesE hY' hE' hI' (c := l'.length) (rs_laterT hrG hb11)
            rw [hL'] at hBy
            unfold entV entC at hBy ⊢
            have HBY := Lib.hid hBy
            have HB11 := Lib.hid (HB10.out.trans (hb11.mono HB10.out.size))
            have HR11 := Lib.hid (rd_laterF HR10.out hb11)
            clear hBy hb11 hrG hE' hL' hY' hI' hy' hl' HB10 HR10
            go_wp2_with fail
            refine HBY.out.mono ?_
            rintro e w12 ⟨⟨A', g', rfl, -, -, hrg⟩, hb12⟩
            have hSm := SameB (c := q.length) (c' := c9) hrg.rd rfl (by have := HN9.out.1; have := HN9.out.2.1; omega) (rd_laterF HR11.out hb12) HN9.out.1 HN9.out.2.1 rfl
            have HB12 := Lib.hid (HB11.out.trans (hb12.mono HB11.out.size))
            have HSM := Lib.hid hSm
            clear hSm hb12 hrg HR11 HB11 HBY
            go_wp2_with fail
            refine HSM.out.mono ?_
            rintro e w13 ⟨rfl, hb13⟩
            have HB13 := Lib.hid (HB12.out.trans (hb13.mono HB12.out.size))
            clear hb13 HSM HB12
            go_wp2_with fail
            go_roundw
            case rel => exact ⟨k + 1, by omega, by go_num, HB13⟩
            case measure => simp [intOf]; omega
          | false =>
            obtain rfl := hp2 hp
            clear hp1 hp2 hp
            have hb11 := b_alloc w10 (.cells #[.int .u32 0, .int .i32 0, .int .u8 0, .int .u32 0, .slice Option.none 0 0] 32)
            have hk11 := Blk.new w10 32 #[.int .u32 0, .int .i32 0, .int .u8 0, .int .u32 0, .slice Option.none 0 0]
            have HB11 := Lib.hid (HB10.out.trans (hb11.mono HB10.out.size))
            have hCo := Code_errno 2 _ (HLE.out.below (HB9.out.trans (HB11.out.mono HB9.out.size)))
            have HCO := Lib.hid hCo
            have HK11 := Lib.hid hk11
            obtain ⟨gx, hgx⟩ : ∃ g, w10.heap.size = g := ⟨_, rfl⟩
            have hk12 := HK11.out
            rw [hgx] at hk12
            have HKX := Lib.hid hk12
            have HGX := Lib.hid hgx
            clear hCo hb11 hk11 hk12 HK11 hgx HB10 HR10
            unfold zeroC5 eno
            go_wp2_with fail
            rw [HGX.out]
            refine HCO.out.mono ?_
            rintro e w12 ⟨rfl, hb12⟩
            have HK12 := Lib.hid (HKX.out.below hb12 HKX.out.lt)
            have HB12 := Lib.hid (HB11.out.trans (hb12.mono HB11.out.size))
            clear hb12 HB11 HKX HCO HGX
            have v0 := HK12.out.cell 0
            have v1 := HK12.out.cell 1
            have v2 := HK12.out.cell 2
            have v3 := HK12.out.cell 3
            have v4 := HK12.out.cell 4
            simp at v0 v1 v2 v3 v4
            go_wp2_with fail
            refine (SameZ _).mono ?_
            rintro e w13 ⟨rfl, hb13⟩
            have HB13 := Lib.hid (HB12.out.trans (hb13.mono HB12.out.size))
            clear hb13 HB12 v0 v1 v2 v3 v4 HK12
            go_wp2_with fail
            go_roundw
            case rel => exact ⟨k + 1, by omega, by go_num, HB13⟩
            case measure => simp [intOf]; omega
        · obtain rfl : k = 3 := by omega
          go_wp2_with fail
          go_ret
          exact ⟨rfl, HB9.out.trans (HBk.out.mono HB9.out.size)⟩
end Go.Proofs.YtdknhjnbkmcicaaDoor
