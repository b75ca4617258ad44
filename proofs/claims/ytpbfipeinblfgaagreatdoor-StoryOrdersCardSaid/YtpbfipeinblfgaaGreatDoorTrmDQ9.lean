/-



What the library's cut, replace, parse make of a number's text. Plain mathematics.
coin.Read of a number's own text. Conditions: the laid variables' cells.
A text of terms cut at its blanks is its eight words, and each number's word read is the number. Plain mathematics.
-/
import Derived.Test.YtpbfipeinblfgaaGreatDoorShelf
import Derived.Test.YtpbfipeinblfgaaGreatDoorCoinUQ9
import Derived.Test.YtpbfipeinblfgaaGreatDoorRefDecQ9
import Derived.Test.YtpbfipeinblfgaaGreatDoorTrmCQ9
import Derived.Lib.Split
namespace Go.Proofs.YtpbfipeinblfgaaGreatDoor
open Go.RowKit Go.Lib

/-- The rune is no digit. -/
def noDigit (r : Nat) : Bool := decide (r < 48) || decide (57 < r)

theorem noDigit_pred (w : World) : PredAt Tryz.prog 163 #[] encR noDigit w := fun W r _ => by
  unfold FnGives
  by_cases h1 : r < 48 <;> by_cases h2 : 57 < r
  all_goals
    have z1 : (r : Int) < 48 ↔ r < 48 := by omega
    have z2 : (57 : Int) < (r : Int) ↔ 57 < r := by omega
    go_enter Tryz.func163, Tryz.ntmps163
    go_wp2
    all_goals first | (exfalso; omega) | (go_ret; exact ⟨by simp [noDigit, h1, h2], 0, rfl⟩)

/-- What coin.digits tells of a text. -/
def digitsOf (s : ByteArray) : Bool := !s.toList.isEmpty && !decide (0 ≤ Lib.idxFunc noDigit true s)

set_option maxHeartbeats 4000000 in
set_option maxRecDepth 20000 in
theorem digits_any (w : World) (s : ByteArray) : Calls Tryz.prog 118 #[.string s] w fun e w' => e = .returned (.bool (digitsOf s)) ∧ Below w.heap.size w w' := by
  have cC := fun W => Tryz.strings_ContainsFunc 163 #[] (enters_of Tryz.func163 (by kernel_rfl) rfl) noDigit s W (noDigit_pred W)
  obtain ⟨I, hI⟩ : ∃ I, Lib.idxFunc noDigit true s = I := ⟨_, rfl⟩
  unfold digitsOf
  rw [hI] at cC ⊢
  go_enter Tryz.func118, Tryz.ntmps118
  by_cases hs : s.toList = []
  · rw [hs]
    go_wp2
    go_ret
    exact ⟨by simp, Below.refl _ w⟩
  · go_wp2_with (go_at_call 164; refine (cC _).mono ?_; rintro e w' ⟨rfl, hb⟩)
    go_ret
    exact ⟨rfl, hb⟩
end Go.Proofs.YtpbfipeinblfgaaGreatDoor
namespace Go.Proofs.YtpbfipeinblfgaaGreatDoor
open Go.RowKit Go.Lib

set_option maxHeartbeats 4000000 in
set_option maxRecDepth 20000 in
theorem isText_5 (w : World) (m : Int) (hm : w.cell? ⟨3, 0, none⟩ = some (.int .i64 m)) :
    Calls Tryz.prog 72 #[.string ⟨#[45, 48, 46, 48, 53]⟩] w fun e w' => e = .returned (.bool true) ∧ Below w.heap.size w w' := by
  have cP := fun W => Tryz.strings_CutPrefix ⟨#[45, 48, 46, 48, 53]⟩ ⟨#[45]⟩ W
  have e1 : (⟨(Lib.trimPrefix [45, 48, 46, 48, 53] [45]).toArray⟩ : ByteArray) = ⟨#[48, 46, 48, 53]⟩ := by kernel_rfl
  have e2 : Lib.hasPrefix [45, 48, 46, 48, 53] [45] = true := by kernel_rfl
  have cC := Tryz.strings_Cut ⟨#[48, 46, 48, 53]⟩ ⟨#[46]⟩ m w (show (4 : Nat) < 4294967281 by omega) hm
  have e3 : Lib.cut [48, 46, 48, 53] [46] = ([48], [48, 53], true) := by kernel_rfl
  replace cP : ∀ W, Calls Tryz.prog 116 #[.string ⟨#[45, 48, 46, 48, 53]⟩, .string ⟨#[45]⟩] W fun e w' => e = .returned (.tuple #[.string ⟨#[48, 46, 48, 53]⟩, .bool true]) ∧ w' = W := fun W => by
    have h := cP W
    dsimp only at h
    rw [e1, e2] at h
    exact h
  replace cC : Calls Tryz.prog 117 #[.string ⟨#[48, 46, 48, 53]⟩, .string ⟨#[46]⟩] w fun e w' => e = .returned (.tuple #[.string ⟨#[48]⟩, .string ⟨#[48, 53]⟩, .bool true]) ∧ ∃ n, w' = w.drewN n := by
    dsimp only at cC
    rw [e3] at cC
    exact cC
  have cD1 := fun W => digits_any W ⟨#[48]⟩
  have cD2 := fun W => digits_any W ⟨#[48, 53]⟩
  rw [show digitsOf ⟨#[48]⟩ = true by kernel_rfl] at cD1
  rw [show digitsOf ⟨#[48, 53]⟩ = true by kernel_rfl] at cD2
  clear e1 e2 e3
  go_enter Tryz.func72, Tryz.ntmps72
  go_wp2_with fail
  refine (cP _).mono ?_
  rintro e w' ⟨rfl, rfl⟩
  go_wp2_with fail
  refine cC.mono ?_
  rintro e w' ⟨rfl, n, rfl⟩
  clear cP cC
  go_wp2_with fail
  refine (cD1 _).mono ?_
  rintro e w1 ⟨rfl, hb1⟩
  clear cD1
  go_wp2_with fail
  refine (cD2 _).mono ?_
  rintro e w2 ⟨rfl, hb2⟩
  clear cD2
  go_wp2_with fail
  go_ret
  exact ⟨by kernel_rfl, Below.trans ((below_drewN (Below.refl _ _) n).trans hb1) (hb2.mono hb1.size)⟩
end Go.Proofs.YtpbfipeinblfgaaGreatDoor
namespace Go.Proofs.YtpbfipeinblfgaaGreatDoor
open Go.RowKit Go.Lib

set_option maxHeartbeats 4000000 in
set_option maxRecDepth 20000 in
theorem Read_5 (w : World) (m : Int) (hm : w.cell? ⟨3, 0, none⟩ = some (.int .i64 m)) (te : TypeId) (pe : Value) (hR : w.cell? ⟨0, 0, none⟩ = some (.iface te pe)) :
    Calls Tryz.prog 39 #[.string ⟨#[45, 48, 46, 48, 53]⟩] w fun e w' => e = .returned (.tuple #[.int .i64 (-5), .nilIface]) ∧ Below w.heap.size w w' := by
  have cT := isText_5 w m hm
  have cR := fun W (hm : W.cell? ⟨3, 0, none⟩ = some (.int .i64 m)) => Tryz.strings_Replace ⟨#[45, 48, 46, 48, 53]⟩ ⟨#[46]⟩ ⟨#[]⟩ 1 m W (show (5 : Nat) < 4294967281 by omega) hm (show 1 ≤ 1 by omega) (show 5 + Lib.countB ⟨#[45, 48, 46, 48, 53]⟩ ⟨#[46]⟩ * 0 ≤ 140737488355328 by omega)
  have e1 : (⟨(Lib.replace [45, 48, 46, 48, 53] [46] [] 1).toArray⟩ : ByteArray) = ⟨#[45, 48, 48, 53]⟩ := by kernel_rfl
  replace cR : ∀ W, W.cell? ⟨3, 0, none⟩ = some (.int .i64 m) → Calls Tryz.prog 74 #[.string ⟨#[45, 48, 46, 48, 53]⟩, .string ⟨#[46]⟩, .string ⟨#[]⟩, .int .i64 1] W fun e w' => e = .returned (.string ⟨#[45, 48, 48, 53]⟩) ∧ Below W.heap.size W w' := fun W hm => by
    have h := cR W hm
    dsimp only at h
    rw [e1] at h
    exact h
  have cP := fun W => Tryz.strconv_ParseInt_10_at64_ok ⟨#[45, 48, 48, 53]⟩ (show (4 : Nat) ≤ 9223372036854775806 by omega) (-5) (by kernel_rfl) W
  have cI : ∀ W, Calls Tryz.prog 75 #[.nilIface, .iface te pe] W fun e w' => e = .returned (.bool false) ∧ w' = W := fun W => by
    go_enter Tryz.func75, Tryz.ntmps75
    have hE : ∀ W, (binOp .eql 39 .nilIface (.iface te pe)).run Tryz.prog W = .ok (.bool false) W := fun W => by first | rfl | (go_simp; done) | (simp [binOp]; done)
    go_wp2
    go_returns
    exact ⟨rfl, rfl⟩
  go_enter Tryz.func39, Tryz.ntmps39
  go_wp2_with fail
  refine cT.mono ?_
  rintro e w1 ⟨rfl, hb1⟩
  clear cT
  go_wp2_with fail
  have hm1 := (hb1.cell (p := ⟨3, 0, none⟩) (block_lt_of_cell hm)).trans hm
  refine (cR w1 hm1).mono ?_
  rintro e w2 ⟨rfl, hb2⟩
  clear cR
  go_wp2_with fail
  refine (cP w2).mono ?_
  rintro e w3 ⟨rfl, hw3⟩
  clear cP
  have hb3 : Below w2.heap.size w2 w3 := by
    rcases hw3 with rfl | ⟨t, rfl⟩
    · exact Below.refl _ _
    · exact bytesWorld_below _ _ _
  have hb : Below w.heap.size w w3 := (hb1.trans (hb2.mono hb1.size)).trans (hb3.mono (Nat.le_trans hb1.size hb2.size))
  have hR3 := (hb.cell (p := ⟨0, 0, none⟩) (block_lt_of_cell hR)).trans hR
  go_wp2_with fail
  refine (cI _).mono ?_
  rintro e w4 ⟨rfl, rfl⟩
  go_wp2_with fail
  go_returns
  exact ⟨rfl, hb⟩
end Go.Proofs.YtpbfipeinblfgaaGreatDoor
namespace Go.Proofs.YtpbfipeinblfgaaGreatDoor
open Go.RowKit Go.Lib

theorem dig_dec (n : Nat) : ∀ b ∈ Lib.decDigits n, 48 ≤ b.toNat ∧ b.toNat ≤ 57 := by
  induction n using Nat.strongRecOn with
  | _ n ih =>
    rw [Lib.decDigits]
    split
    · intro b hb
      rw [List.mem_singleton.1 hb, ofNat_lt _ (by omega)]; omega
    · intro b hb
      rcases List.mem_append.1 hb with hb | hb
      · exact ih (n / 10) (by omega) b hb
      · rw [List.mem_singleton.1 hb, ofNat_lt _ (by omega)]; omega
theorem dig_two (r : Nat) (h : r < 100) : ∀ b ∈ two r, 48 ≤ b.toNat ∧ b.toNat ≤ 57 := by
  intro b hb
  unfold two at hb
  rcases List.mem_cons.1 hb with rfl | hb
  · rw [ofNat_lt _ (by omega)]; omega
  · rw [List.mem_singleton.1 hb, ofNat_lt _ (by omega)]; omega
theorem index_dot (R : List UInt8) : ∀ D : List UInt8, (∀ b ∈ D, b ≠ 46) → Lib.index (D ++ 46 :: R) [46] = (D.length : Int) := by
  intro D hD
  rw [Lib.index_one]
  induction D with
  | nil => simp [Lib.indexByte]
  | cons b D ih =>
    have h1 := ih (fun c hc => hD c (List.mem_cons_of_mem _ hc))
    have h2 : (b == 46) = false := by rw [beq_eq_false_iff_ne]; exact hD b List.mem_cons_self
    rw [List.cons_append, Lib.indexByte, h2, h1]
    have h3 : ((D.length : Int) == -1) = false := by rw [beq_eq_false_iff_ne]; omega
    rw [h3]
    simp
theorem cut_dot (R D : List UInt8) (hD : ∀ b ∈ D, b ≠ 46) : Lib.cut (D ++ 46 :: R) [46] = (D, R, true) := by
  unfold Lib.cut
  rw [index_dot R D hD, if_pos (by omega)]
  simp
theorem replace_dot (R X : List UInt8) (hX : ∀ b ∈ X, b ≠ 46) : Lib.replace (X ++ 46 :: R) [46] [] 1 = X ++ R := by
  have hi := index_dot R X hX
  have hc : 1 ≤ Lib.count (X ++ 46 :: R) [46] := by
    unfold Lib.count
    rw [Lib.countFrom, hi]
    have h3 : ((X.length : Int) == -1) = false := by rw [beq_eq_false_iff_ne]; omega
    rw [h3]
    simp
    try omega
  unfold Lib.replace
  rw [if_neg (by decide)]
  have hn : Lib.replaceNum (X ++ 46 :: R) [46] 1 = 1 := by
    unfold Lib.replaceNum
    rw [if_neg (by omega)]
    rfl
  rw [hn, Lib.replaceK_hit _ _ _ _ X.length hi]
  simp [Lib.replaceK]
def valA (acc : Nat) (l : List UInt8) : Nat := l.foldl (fun a b => 10 * a + (b.toNat - 48)) acc
theorem valA_ge (l : List UInt8) : ∀ acc, acc ≤ valA acc l := by
  induction l with
  | nil => exact fun acc => Nat.le_refl _
  | cons b l ih => exact fun acc => Nat.le_trans (by omega) (ih (10 * acc + (b.toNat - 48)))
theorem parse_dig : ∀ (l : List UInt8) (acc : Nat), (∀ b ∈ l, 48 ≤ b.toNat ∧ b.toNat ≤ 57) → valA acc l ≤ 18446744073709551615 → Lib.parseUintM (2 ^ 64 - 1) acc l = .ok (valA acc l)
  | [], acc, _, _ => rfl
  | c :: l, acc, hd, hv => by
    have hc := hd c List.mem_cons_self
    have hv2 : valA acc (c :: l) = valA (10 * acc + (c.toNat - 48)) l := rfl
    have hg := valA_ge l (10 * acc + (c.toNat - 48))
    rw [hv2] at hv ⊢
    have e : acc * 10 + (c.toNat - 48) = 10 * acc + (c.toNat - 48) := by omega
    rw [Lib.parseUintM, if_pos hc, if_neg (by omega), if_neg (by omega), e]
    exact parse_dig l _ (fun b hb => hd b (List.mem_cons_of_mem _ hb)) hv
theorem valA_text (N : Nat) : valA 0 (Lib.decDigits (N / 100) ++ two (N % 100)) = N := by
  have h := (valD_dec (N / 100)).1
  unfold valD at h
  unfold valA two
  rw [List.foldl_append, h]
  simp only [List.foldl_cons, List.foldl_nil]
  rw [ofNat_lt _ (by omega), ofNat_lt _ (by omega)]
  omega
end Go.Proofs.YtpbfipeinblfgaaGreatDoor
namespace Go.Proofs.YtpbfipeinblfgaaGreatDoor
open Go.RowKit Go.Lib

theorem idx_dig (s : ByteArray) (h : ∀ b ∈ s.data.toList, 48 ≤ b.toNat ∧ b.toNat ≤ 57) : ∀ f pos, Lib.idxFuncFrom noDigit true s f pos = -1
  | 0, _ => rfl
  | f + 1, pos => by
    unfold Lib.idxFuncFrom
    by_cases hp : pos < s.size
    · have hb := h (s[pos]'hp) (by
        have : s[pos]'hp = s.data.toList[pos]'(by simpa using hp) := by rfl
        rw [this]
        exact List.getElem_mem _)
      rw [if_pos hp, decode_ascii s pos hp (by omega)]
      have hn : noDigit (s[pos]'hp).toNat = false := by
        unfold noDigit
        rw [decide_eq_false (by omega), decide_eq_false (by omega)]
        rfl
      simp only [hn]
      exact idx_dig s h f _
    · rw [if_neg hp]
theorem digits_all {l : List UInt8} (h0 : l ≠ []) (h : ∀ b ∈ l, 48 ≤ b.toNat ∧ b.toNat ≤ 57) : digitsOf ⟨l.toArray⟩ = true := by
  unfold digitsOf Lib.idxFunc
  rw [idx_dig _ (by simpa using h)]
  cases l with
  | nil => exact absurd rfl h0
  | cons a l => simp [Lib.toList_data]
theorem dec_head : ∀ n, 1 ≤ n → ∃ d t, Lib.decDigits n = d :: t ∧ d ≠ 48 := by
  intro n
  induction n using Nat.strongRecOn with
  | _ n ih =>
    intro h1
    rw [Lib.decDigits]
    split
    · exact ⟨_, [], rfl, fun e => by
        have := congrArg UInt8.toNat e
        rw [ofNat_lt _ (by omega)] at this
        simp at this
        omega⟩
    · obtain ⟨d, t, e, hd⟩ := ih (n / 10) (by omega) (by omega)
      rw [e]
      exact ⟨d, t ++ _, rfl, hd⟩
theorem dec_zero : Lib.decDigits 0 = [48] := by decide +kernel
theorem dec_some (n : Nat) : ∃ d t, Lib.decDigits n = d :: t ∧ 48 ≤ d.toNat ∧ d.toNat ≤ 57 := by
  have hd := dig_dec n
  cases e : Lib.decDigits n with
  | nil =>
    rcases Nat.eq_zero_or_pos n with h | h
    · rw [h, dec_zero] at e; cases e
    · obtain ⟨d, t, e2, _⟩ := dec_head n h
      rw [e2] at e; cases e
  | cons d t =>
    rw [e] at hd
    exact ⟨d, t, rfl, hd d List.mem_cons_self⟩
theorem pre_neg (X : List UInt8) : Lib.hasPrefix (45 :: X) [45] = true ∧ Lib.trimPrefix (45 :: X) [45] = X := by
  have h : Lib.hasPrefix (45 :: X) [45] = true := by simp [Lib.hasPrefix, List.isPrefixOf]
  exact ⟨h, by rw [Lib.trimPrefix, if_pos h]; rfl⟩
theorem pre_pos {X : List UInt8} (h : ∃ d t, X = d :: t ∧ d ≠ 45) : Lib.hasPrefix X [45] = false ∧ Lib.trimPrefix X [45] = X := by
  obtain ⟨d, t, rfl, hd⟩ := h
  have h : Lib.hasPrefix (d :: t) [45] = false := by
    simp [Lib.hasPrefix, List.isPrefixOf]
    exact fun e => hd e.symm
  exact ⟨h, by rw [Lib.trimPrefix, if_neg (by rw [h]; decide)]⟩
theorem parse_text (a : Int) (ha : -9223372036854775808 ≤ a ∧ a ≤ 9223372036854775807) : Lib.parseIntB 64 (sgnL a ++ (Lib.decDigits (a.natAbs / 100) ++ two (a.natAbs % 100))) = .ok a := by
  obtain ⟨N, hN⟩ : ∃ N, a.natAbs = N := ⟨_, rfl⟩
  rw [hN]
  have hd : ∀ b ∈ Lib.decDigits (N / 100) ++ two (N % 100), 48 ≤ b.toNat ∧ b.toNat ≤ 57 := fun b hb => by
    rcases List.mem_append.1 hb with h | h
    · exact dig_dec _ b h
    · exact dig_two _ (by omega) b h
  have hp := parse_dig _ 0 hd (by rw [valA_text]; omega)
  rw [valA_text] at hp
  obtain ⟨d, t, e, hd1, hd2⟩ := dec_some (N / 100)
  rw [e] at hp ⊢
  have hu : Lib.parseUintB 64 ((d :: t) ++ two (N % 100)) = .ok N := by
    unfold Lib.parseUintB
    rw [if_neg (by simp)]
    exact hp
  by_cases h : a < 0
  · unfold sgnL
    rw [if_pos h]
    show Lib.parseIntB 64 (45 :: ((d :: t) ++ two (N % 100))) = _
    unfold Lib.parseIntB
    simp only []
    rw [if_pos (show UInt8.toNat 45 = 43 ∨ UInt8.toNat 45 = 45 from Or.inr (by decide)), hu]
    simp only []
    rw [if_neg (fun e => e.1 (by decide)), if_neg (by intro e; have := e.2; omega), if_pos (show UInt8.toNat 45 = 45 by decide)]
    congr 1
    omega
  · unfold sgnL
    rw [if_neg h, List.nil_append]
    show Lib.parseIntB 64 (d :: (t ++ two (N % 100))) = _
    have e2 : d :: (t ++ two (N % 100)) = (d :: t) ++ two (N % 100) := rfl
    unfold Lib.parseIntB
    simp only []
    rw [if_neg (by omega), e2, hu]
    simp only []
    rw [if_neg (by simp; omega), if_neg (by omega), if_neg (by omega)]
    congr 1
    omega
theorem nonzero_text {N : Nat} (h : 1 ≤ N) : ¬ Lib.decDigits (N / 100) ++ 46 :: two (N % 100) = [48, 46, 48, 48] := by
  intro e
  have hv := valA_text N
  have hl : (Lib.decDigits (N / 100)).length = 1 := by
    have := congrArg List.length e
    simp [two] at this
    omega
  have e1 : Lib.decDigits (N / 100) = [48] := by
    have := congrArg (List.take 1) e
    rw [List.take_append_of_le_length (by omega), List.take_of_length_le (by omega)] at this
    exact this
  have e2 : two (N % 100) = [48, 48] := by
    rw [e1] at e
    have := congrArg (List.drop 2) e
    simpa using this
  rw [e1, e2] at hv
  have : valA 0 ([48] ++ [48, 48]) = 0 := by decide
  omega
theorem text_len (N : Nat) (h : N ≤ 9223372036854775808) : (Lib.decDigits (N / 100)).length ≤ 25 := by
  rw [Lib.decDigits_length]
  rcases Nat.eq_zero_or_pos (N / 100) with h0 | h0
  · rw [h0, Lib.nDigits_small (by omega)]; omega
  · have := Lib.numDigits_eq (N / 100) h0 (by omega)
    split at this <;> omega

theorem idx_str (s : ByteArray) (d : UInt8) (h : s[0]? = some d) (W : World) : (Instr.index 9 (.string s) (.int .i64 0)).run Tryz.prog W = .ok (.int .u8 (d.toNat : Int)) W := by
  simp [Instr.index, run_underlying Tryz.underlying9, go_sem, h]
set_option maxHeartbeats 4000000 in
set_option maxRecDepth 20000 in
theorem isText_walk (S T DB RB : ByteArray) (neg : Bool) (d : UInt8) (w : World)
    (cP : ∀ W, Calls Tryz.prog 116 #[.string S, .string ⟨#[45]⟩] W fun e w' => e = .returned (.tuple #[.string T, .bool neg]) ∧ w' = W)
    (cC : Calls Tryz.prog 117 #[.string T, .string ⟨#[46]⟩] w fun e w' => e = .returned (.tuple #[.string DB, .string RB, .bool true]) ∧ ∃ n, w' = w.drewN n)
    (h1 : digitsOf DB = true) (h2 : digitsOf RB = true) (hR : RB.size = 2) (h0 : DB[0]? = some d) (hc : d ≠ 48 ∨ (d = 48 ∧ DB.size = 1)) (hn : neg = true → (T.toList == [48, 46, 48, 48]) = false) :
    Calls Tryz.prog 72 #[.string S] w fun e w' => e = .returned (.bool true) ∧ Below w.heap.size w w' := by
  have cD1 := fun W => digits_any W DB
  have cD2 := fun W => digits_any W RB
  rw [h1] at cD1
  rw [h2] at cD2
  have hI := fun W => idx_str DB d h0 W
  clear h1 h2 h0
  rcases hc with hc | ⟨rfl, hs⟩
  · have jd : ((d.toNat : Int) == 48) = false := by
      rw [beq_eq_false_iff_ne]
      intro e
      exact hc (UInt8.toNat_inj.1 (by simpa using (by omega : d.toNat = 48)))
    clear hc
    cases neg
    · clear hn
      go_enter Tryz.func72, Tryz.ntmps72
      go_wp2_with fail
      refine (cP _).mono ?_
      rintro e w' ⟨rfl, rfl⟩
      go_wp2_with fail
      refine cC.mono ?_
      rintro e w' ⟨rfl, n, rfl⟩
      clear cP cC
      go_wp2_with fail
      refine (cD1 _).mono ?_
      rintro e w1 ⟨rfl, hb1⟩
      clear cD1
      go_wp2_with fail
      refine (cD2 _).mono ?_
      rintro e w2 ⟨rfl, hb2⟩
      clear cD2
      go_wp2_with fail
      go_ret
      exact ⟨by first | rfl | simp, Below.trans ((below_drewN (Below.refl _ _) n).trans hb1) (hb2.mono hb1.size)⟩
    · have hn := hn rfl
      go_enter Tryz.func72, Tryz.ntmps72
      go_wp2_with fail
      refine (cP _).mono ?_
      rintro e w' ⟨rfl, rfl⟩
      go_wp2_with fail
      refine cC.mono ?_
      rintro e w' ⟨rfl, n, rfl⟩
      clear cP cC
      go_wp2_with fail
      refine (cD1 _).mono ?_
      rintro e w1 ⟨rfl, hb1⟩
      clear cD1
      go_wp2_with fail
      refine (cD2 _).mono ?_
      rintro e w2 ⟨rfl, hb2⟩
      clear cD2
      go_wp2_with fail
      go_ret
      exact ⟨by first | rfl | simp, Below.trans ((below_drewN (Below.refl _ _) n).trans hb1) (hb2.mono hb1.size)⟩
  · cases neg
    · clear hn
      go_enter Tryz.func72, Tryz.ntmps72
      go_wp2_with fail
      refine (cP _).mono ?_
      rintro e w' ⟨rfl, rfl⟩
      go_wp2_with fail
      refine cC.mono ?_
      rintro e w' ⟨rfl, n, rfl⟩
      clear cP cC
      go_wp2_with fail
      refine (cD1 _).mono ?_
      rintro e w1 ⟨rfl, hb1⟩
      clear cD1
      go_wp2_with fail
      refine (cD2 _).mono ?_
      rintro e w2 ⟨rfl, hb2⟩
      clear cD2
      go_wp2_with fail
      go_ret
      exact ⟨by first | rfl | simp, Below.trans ((below_drewN (Below.refl _ _) n).trans hb1) (hb2.mono hb1.size)⟩
    · have hn := hn rfl
      go_enter Tryz.func72, Tryz.ntmps72
      go_wp2_with fail
      refine (cP _).mono ?_
      rintro e w' ⟨rfl, rfl⟩
      go_wp2_with fail
      refine cC.mono ?_
      rintro e w' ⟨rfl, n, rfl⟩
      clear cP cC
      go_wp2_with fail
      refine (cD1 _).mono ?_
      rintro e w1 ⟨rfl, hb1⟩
      clear cD1
      go_wp2_with fail
      refine (cD2 _).mono ?_
      rintro e w2 ⟨rfl, hb2⟩
      clear cD2
      go_wp2_with fail
      go_ret
      exact ⟨by first | rfl | simp, Below.trans ((below_drewN (Below.refl _ _) n).trans hb1) (hb2.mono hb1.size)⟩
theorem text_lists (a : Int) : (textC a).data.toList = sgnL a ++ (Lib.decDigits (a.natAbs / 100) ++ 46 :: two (a.natAbs % 100)) := by
  rw [textC_list, List.append_assoc]
  rfl
theorem no_dot {l : List UInt8} (h : ∀ b ∈ l, 48 ≤ b.toNat ∧ b.toNat ≤ 57) : ∀ b ∈ l, b ≠ 46 := fun b hb e => by
  have := h b hb
  rw [e] at this
  exact absurd this.1 (by decide)
set_option maxHeartbeats 4000000 in
set_option maxRecDepth 20000 in
theorem isText_any (a : Int) (ha : -9223372036854775808 ≤ a ∧ a ≤ 9223372036854775807) (w : World) (m : Int) (hm : w.cell? ⟨3, 0, none⟩ = some (.int .i64 m)) :
    Calls Tryz.prog 72 #[.string (textC a)] w fun e w' => e = .returned (.bool true) ∧ Below w.heap.size w w' := by
  have hL := text_lists a
  obtain ⟨N, hN⟩ : ∃ N, a.natAbs = N := ⟨_, rfl⟩
  have hNl : N ≤ 9223372036854775808 := by omega
  rw [hN] at hL
  have hlen := text_len N hNl
  have hd := dig_dec (N / 100)
  have hr := dig_two (N % 100) (by omega)
  obtain ⟨d, t, e, e1, e2⟩ := dec_some (N / 100)
  have hT : (⟨(Lib.decDigits (N / 100) ++ 46 :: two (N % 100)).toArray⟩ : ByteArray).data.toList = Lib.decDigits (N / 100) ++ 46 :: two (N % 100) := by simp
  refine isText_walk (textC a) ⟨(Lib.decDigits (N / 100) ++ 46 :: two (N % 100)).toArray⟩ ⟨(Lib.decDigits (N / 100)).toArray⟩ ⟨(two (N % 100)).toArray⟩ (decide (a < 0)) d w (fun W => ?_) ?_ ?_ ?_ ?_ ?_ ?_ ?_
  · have h := Tryz.strings_CutPrefix (textC a) ⟨#[45]⟩ W
    rw [hL] at h
    by_cases hn : a < 0
    · rw [decide_eq_true hn]
      have hs : sgnL a = [45] := by unfold sgnL; rw [if_pos hn]
      rw [hs] at h
      obtain ⟨p1, p2⟩ := pre_neg (Lib.decDigits (N / 100) ++ 46 :: two (N % 100))
      rw [List.singleton_append] at h
      rw [show (⟨#[45]⟩ : ByteArray).data.toList = [45] from rfl, p1, p2] at h
      exact h
    · rw [decide_eq_false hn]
      have hs : sgnL a = [] := by unfold sgnL; rw [if_neg hn]
      rw [hs, List.nil_append] at h
      obtain ⟨p1, p2⟩ := pre_pos (X := Lib.decDigits (N / 100) ++ 46 :: two (N % 100)) ⟨d, t ++ 46 :: two (N % 100), by rw [e]; rfl, fun h45 => by rw [h45] at e1; exact absurd e1 (by decide)⟩
      rw [show (⟨#[45]⟩ : ByteArray).data.toList = [45] from rfl, p1, p2] at h
      exact h
  · have h := Tryz.strings_Cut ⟨(Lib.decDigits (N / 100) ++ 46 :: two (N % 100)).toArray⟩ ⟨#[46]⟩ m w (by
      have : (⟨(Lib.decDigits (N / 100) ++ 46 :: two (N % 100)).toArray⟩ : ByteArray).size = (Lib.decDigits (N / 100)).length + 3 := by simp [ByteArray.size, two]
      omega) hm
    rw [hT, show (⟨#[46]⟩ : ByteArray).data.toList = [46] from rfl, cut_dot _ _ (no_dot hd)] at h
    exact h
  · exact digits_all (by rw [e]; simp) hd
  · exact digits_all (by simp [two]) hr
  · simp [ByteArray.size, two]
  · rw [e]; rfl
  · rcases Nat.eq_zero_or_pos (N / 100) with hz | hz
    · right
      rw [hz, dec_zero] at e
      injection e with e3 e4
      subst e3
      refine ⟨rfl, ?_⟩
      rw [hz, dec_zero]
      rfl
    · left
      obtain ⟨d2, t2, e3, hne⟩ := dec_head _ hz
      rw [e] at e3
      injection e3 with e4 _
      rw [e4]
      exact hne
  · intro hneg
    have hn : a < 0 := of_decide_eq_true hneg
    rw [beq_eq_false_iff_ne, Lib.toList_data, hT]
    exact nonzero_text (by omega)
set_option maxHeartbeats 4000000 in
set_option maxRecDepth 20000 in
theorem Read_any (a : Int) (ha : -9223372036854775808 ≤ a ∧ a ≤ 9223372036854775807) (w : World) (m : Int) (hm : w.cell? ⟨3, 0, none⟩ = some (.int .i64 m)) (te : TypeId) (pe : Value) (hR : w.cell? ⟨0, 0, none⟩ = some (.iface te pe)) :
    Calls Tryz.prog 39 #[.string (textC a)] w fun e w' => e = .returned (.tuple #[.int .i64 a, .nilIface]) ∧ Below w.heap.size w w' := by
  have cT := isText_any a ha w m hm
  have hL := text_lists a
  obtain ⟨N, hN⟩ : ∃ N, a.natAbs = N := ⟨_, rfl⟩
  have hNl : N ≤ 9223372036854775808 := by omega
  have hpt := parse_text a ha
  rw [hN] at hL hpt
  have hlen := text_len N hNl
  have hd := dig_dec (N / 100)
  obtain ⟨Z, hZ⟩ : ∃ Z : ByteArray, (⟨(sgnL a ++ (Lib.decDigits (N / 100) ++ two (N % 100))).toArray⟩ : ByteArray) = Z := ⟨_, rfl⟩
  have hZl : Z.data.toList = sgnL a ++ (Lib.decDigits (N / 100) ++ two (N % 100)) := by rw [← hZ]
  have hsg : (sgnL a).length ≤ 1 := by unfold sgnL; split <;> simp
  have hss : (textC a).size ≤ 40 := by
    rw [Lib.size_eq, hL]
    simp [two]
    omega
  have hzs : Z.size ≤ 40 := by
    rw [Lib.size_eq, hZl]
    simp [two]
    omega
  have cR : ∀ W, W.cell? ⟨3, 0, none⟩ = some (.int .i64 m) → Calls Tryz.prog 74 #[.string (textC a), .string ⟨#[46]⟩, .string ⟨#[]⟩, .int .i64 1] W fun e w' => e = .returned (.string Z) ∧ Below W.heap.size W w' := fun W hm => by
    have h := Tryz.strings_Replace (textC a) ⟨#[46]⟩ ⟨#[]⟩ 1 m W (by omega) hm (show 1 ≤ 1 by omega) (by
      rw [show (⟨#[]⟩ : ByteArray).size = 0 from rfl, Nat.mul_zero]
      omega)
    have hX : ∀ b ∈ sgnL a ++ Lib.decDigits (N / 100), b ≠ 46 := fun b hb => by
      rcases List.mem_append.1 hb with h | h
      · unfold sgnL at h
        split at h
        · rw [List.mem_singleton.1 h]; decide
        · cases h
      · exact no_dot hd b h
    rw [hL, show (⟨#[46]⟩ : ByteArray).data.toList = [46] from rfl, show (⟨#[]⟩ : ByteArray).data.toList = [] from rfl, ← List.append_assoc, replace_dot _ _ hX, List.append_assoc, hZ] at h
    exact h
  have cP := fun W => Tryz.strconv_ParseInt_10_at64_ok Z (by omega) a (by rw [hZl]; exact hpt) W
  have cI : ∀ W, Calls Tryz.prog 75 #[.nilIface, .iface te pe] W fun e w' => e = .returned (.bool false) ∧ w' = W := fun W => by
    go_enter Tryz.func75, Tryz.ntmps75
    have hE : ∀ W, (binOp .eql 39 .nilIface (.iface te pe)).run Tryz.prog W = .ok (.bool false) W := fun W => by first | rfl | (go_simp; done) | (simp [binOp]; done)
    go_wp2
    go_returns
    exact ⟨rfl, rfl⟩
  obtain ⟨S, hS⟩ : ∃ S, textC a = S := ⟨_, rfl⟩
  rw [hS] at cT cR ⊢
  clear hL hpt hlen hd hZ hZl hsg hss hzs hN hNl hS ha
  go_enter Tryz.func39, Tryz.ntmps39
  go_wp2_with fail
  refine cT.mono ?_
  rintro e w1 ⟨rfl, hb1⟩
  clear cT
  go_wp2_with fail
  have hm1 := (hb1.cell (p := ⟨3, 0, none⟩) (block_lt_of_cell hm)).trans hm
  refine (cR w1 hm1).mono ?_
  rintro e w2 ⟨rfl, hb2⟩
  clear cR
  go_wp2_with fail
  refine (cP w2).mono ?_
  rintro e w3 ⟨rfl, hw3⟩
  clear cP
  have hb3 : Below w2.heap.size w2 w3 := by
    rcases hw3 with rfl | ⟨t, rfl⟩
    · exact Below.refl _ _
    · exact bytesWorld_below _ _ _
  have hb : Below w.heap.size w w3 := (hb1.trans (hb2.mono hb1.size)).trans (hb3.mono (Nat.le_trans hb1.size hb2.size))
  have hR3 := (hb.cell (p := ⟨0, 0, none⟩) (block_lt_of_cell hR)).trans hR
  go_wp2_with fail
  refine (cI _).mono ?_
  rintro e w4 ⟨rfl, rfl⟩
  go_wp2_with fail
  go_returns
  exact ⟨rfl, hb⟩
end Go.Proofs.YtpbfipeinblfgaaGreatDoor
namespace Go.Proofs.YtpbfipeinblfgaaGreatDoor
open Go.RowKit

theorem ib_blank (R : List UInt8) : ∀ D : List UInt8, (∀ b ∈ D, b ≠ 32) → Lib.index (D ++ 32 :: R) [32] = (D.length : Int) := by
  intro D hD
  rw [Lib.index_one]
  induction D with
  | nil => simp [Lib.indexByte]
  | cons b D ih =>
    have h1 := ih (fun c hc => hD c (List.mem_cons_of_mem _ hc))
    have h2 : (b == 32) = false := by rw [beq_eq_false_iff_ne]; exact hD b List.mem_cons_self
    rw [List.cons_append, Lib.indexByte, h2, h1]
    have h3 : ((D.length : Int) == -1) = false := by rw [beq_eq_false_iff_ne]; omega
    rw [h3]
    simp
theorem ib_none : ∀ D : List UInt8, (∀ b ∈ D, b ≠ 32) → Lib.index D [32] = -1 := by
  intro D hD
  rw [Lib.index_one]
  induction D with
  | nil => simp [Lib.indexByte]
  | cons b D ih =>
    have h1 := ih (fun c hc => hD c (List.mem_cons_of_mem _ hc))
    have h2 : (b == 32) = false := by rw [beq_eq_false_iff_ne]; exact hD b List.mem_cons_self
    rw [Lib.indexByte, h2, h1]
    simp
theorem join_two (x y : List UInt8) (r : List (List UInt8)) : Lib.join (x :: y :: r) [32] = x ++ 32 :: Lib.join (y :: r) [32] := by
  simp [Lib.join_cons, Lib.joinTail]
theorem split_join : ∀ (r : List (List UInt8)) (x : List UInt8) (k : Nat), (∀ y ∈ x :: r, ∀ b ∈ y, b ≠ 32) → r.length ≤ k → Lib.splitK [32] 0 k (Lib.join (x :: r) [32]) = x :: r
  | [], x, k, h, _ => by
    rw [Lib.join_one]
    cases k with
    | zero => rfl
    | succ k =>
      unfold Lib.splitK
      rw [ib_none x (h x List.mem_cons_self)]
      simp
  | y :: r, x, 0, _, hk => by simp at hk
  | y :: r, x, k + 1, h, hk => by
    have ih := split_join r y k (fun z hz => h z (List.mem_cons_of_mem _ hz)) (by simp at hk; omega)
    rw [join_two]
    unfold Lib.splitK
    rw [ib_blank _ x (h x List.mem_cons_self)]
    have h3 : ((x.length : Int) == -1) = false := by rw [beq_eq_false_iff_ne]; omega
    rw [h3]
    simp only [Bool.false_eq_true, if_false, Int.toNat_natCast, Nat.add_zero, List.length_cons, List.length_nil]
    rw [show (x ++ 32 :: Lib.join (y :: r) [32]).take x.length = x by simp, show (x ++ 32 :: Lib.join (y :: r) [32]).drop (x.length + (0 + 1)) = Lib.join (y :: r) [32] by simp [List.drop_append], ih]
theorem bytes_inj (a b : ByteArray) (h : a.data.toList = b.data.toList) : a = b := ByteArray.ext (Array.toList_inj.1 h)
theorem split_sps (x : ByteArray) (r : List ByteArray) (k : Nat) (h : ∀ y ∈ x :: r, ∀ b ∈ y.data.toList, b ≠ 32) (hk : r.length ≤ k) : Lib.splitB ⟨#[32]⟩ 0 k (sps (x :: r)) = x :: r := by
  have h1 := Lib.splitB_data ⟨#[32]⟩ 0 k (sps (x :: r))
  have h2 := split_join (r.map (·.data.toList)) x.data.toList k (fun y hy => by
    rw [← List.map_cons (f := fun z : ByteArray => z.data.toList)] at hy
    obtain ⟨z, hz, rfl⟩ := List.mem_map.1 hy
    exact h z hz) (by simpa using hk)
  have h3 : (sps (x :: r)).data.toList = Lib.join (x.data.toList :: r.map (·.data.toList)) [32] := by simp [sps]
  rw [h3] at h1
  have h4 : Lib.splitK (ByteArray.mk #[32]).data.toList 0 k (Lib.join (x.data.toList :: r.map (·.data.toList)) [32]) = (x :: r).map (·.data.toList) := h2
  rw [h4] at h1
  exact (List.map_inj_right bytes_inj).1 h1
/-! The eight words. -/
theorem noB {b : UInt8} (h : 45 ≤ b.toNat) : b ≠ 32 := fun e => by subst e; simp at h
theorem dec_ok (n : Nat) : ∀ b ∈ (dec n).data.toList, b ≠ 32 := fun b hb => noB (by
  have := dig_dec n b (by simpa [dec] using hb)
  omega)
theorem textC_ok (a : Int) : ∀ b ∈ (textC a).data.toList, b ≠ 32 := fun b hb => noB (by
  rw [text_lists] at hb
  rcases List.mem_append.1 hb with hb | hb
  · unfold sgnL at hb
    split at hb
    · rw [List.mem_singleton.1 hb]; decide
    · cases hb
  · rcases List.mem_append.1 hb with hb | hb
    · have := dig_dec _ b hb; omega
    · rcases List.mem_cons.1 hb with rfl | hb
      · decide
      · have := dig_two _ (by omega) b hb; omega)
theorem dgt_ge (n : Nat) : 45 ≤ (dgt n).toNat := by rw [dgt_nat]; omega
theorem day_ok (n : Int) : ∀ b ∈ (dayText n).data.toList, b ≠ 32 := fun b hb => noB (by
  unfold dayText textS textL pad4 pad2 at hb
  simp only [List.cons_append, List.nil_append, List.mem_cons, List.not_mem_nil, or_false] at hb
  rcases hb with rfl | rfl | rfl | rfl | rfl | rfl | rfl | rfl | rfl | rfl
  all_goals first | exact dgt_ge _ | decide)
theorem itS_dec (n : Nat) : itS (n : Int) = dec n := by unfold itS dec; rw [itoa_nat]
theorem name_ok {K : Nat} (h : K = 1 ∨ K = 2) : (∀ b ∈ (nameB K).data.toList, b ≠ 32) ∧ (nameB K).data.toList.length ≤ 30 ∧ kindB (nameB K) = K := by
  rcases h with rfl | rfl
  · refine ⟨?_, ?_, ?_⟩ <;> decide +kernel
  · refine ⟨?_, ?_, ?_⟩ <;> decide +kernel
theorem basis_ok {B : Nat} (h : B = 1 ∨ B = 2) : (∀ b ∈ (spanB (B : Int)).data.toList, b ≠ 32) ∧ (spanB (B : Int)).data.toList.length ≤ 30 ∧ basisB (spanB (B : Int)) = B := by
  rcases h with rfl | rfl
  · refine ⟨?_, ?_, ?_⟩ <;> decide +kernel
  · refine ⟨?_, ?_, ?_⟩ <;> decide +kernel
theorem dec_len (n : Nat) (h : n ≤ 4294967295) : (dec n).data.toList.length ≤ 30 := by
  have := text_len (100 * n) (by omega)
  rw [show 100 * n / 100 = n by omega] at this
  simp only [dec]
  omega
theorem textC_len (a : Int) (h : -9223372036854775808 ≤ a ∧ a ≤ 9223372036854775807) : (textC a).data.toList.length ≤ 30 := by
  rw [text_lists]
  have := text_len a.natAbs (by omega)
  unfold sgnL two
  split <;> simp <;> omega
theorem day_len (n : Int) : (dayText n).data.toList.length ≤ 30 := by
  show (10 : Nat) ≤ 30
  decide
theorem Trm.ok {t : Trm} (h : t.Right) : ∀ y ∈ t.l, (∀ b ∈ y.data.toList, b ≠ 32) ∧ y.data.toList.length ≤ 30 := by
  obtain ⟨K, P, R, B, M, S, F, G⟩ := t
  obtain ⟨hK, ⟨hR, hB⟩, hP, hM, hS, hF, hG⟩ := h
  dsimp only at hK hR hB hP hM hS hF hG
  have n1 := name_ok hK
  have n2 := basis_ok hB
  obtain ⟨m, rfl⟩ : ∃ m : Nat, M = m := ⟨M.toNat, by omega⟩
  obtain ⟨g, rfl⟩ : ∃ g : Nat, G = g := ⟨G.toNat, by omega⟩
  unfold Trm.l
  intro y hy
  simp only [List.mem_cons, List.not_mem_nil, or_false] at hy
  rcases hy with rfl | rfl | rfl | rfl | rfl | rfl | rfl | rfl
  · exact ⟨n1.1, n1.2.1⟩
  · exact ⟨textC_ok _, textC_len _ (by omega)⟩
  · exact ⟨dec_ok _, dec_len _ (by omega)⟩
  · exact ⟨n2.1, n2.2.1⟩
  · rw [itS_dec]; exact ⟨dec_ok _, dec_len _ (by omega)⟩
  · exact ⟨day_ok _, day_len _⟩
  · exact ⟨textC_ok _, textC_len _ (by omega)⟩
  · rw [itS_dec]; exact ⟨dec_ok _, dec_len _ (by omega)⟩
theorem Trm.len {t : Trm} (h : t.Right) : (Lib.join (t.l.map (·.data.toList)) [32]).length ≤ 300 := by
  have ho := t.ok h
  unfold Trm.l at ho ⊢
  simp only [List.mem_cons, List.not_mem_nil, or_false, forall_eq_or_imp, forall_eq] at ho
  obtain ⟨⟨-, a0⟩, ⟨-, a1⟩, ⟨-, a2⟩, ⟨-, a3⟩, ⟨-, a4⟩, ⟨-, a5⟩, ⟨-, a6⟩, ⟨-, a7⟩⟩ := ho
  simp only [List.map_cons, List.map_nil, Lib.join_cons, Lib.joinTail, List.flatten_cons, List.flatten_nil, List.length_append, List.length_cons, List.length_nil]
  omega
theorem Trm.size {t : Trm} (h : t.Right) : t.text.size ≤ 300 := by
  have := t.len h
  simpa [Trm.text, sps, ByteArray.size] using this
theorem Trm.split {t : Trm} (h : t.Right) (k : Nat) (hk : 7 ≤ k) : Lib.splitB ⟨#[32]⟩ 0 k t.text = t.l := by
  have ho := t.ok h
  exact split_sps _ _ k (fun y hy => (ho y hy).1) hk
theorem Trm.ge {t : Trm} : 7 ≤ t.text.size := by
  have : t.text.size = (Lib.join (t.l.map (·.data.toList)) [32]).length := by simp [Trm.text, sps, ByteArray.size]
  rw [this]
  unfold Trm.l
  simp only [List.map_cons, List.map_nil, Lib.join_cons, Lib.joinTail, List.flatten_cons, List.flatten_nil, List.length_append, List.length_cons, List.length_nil]
  omega
theorem decFrom_dig : ∀ (l : List UInt8) (acc : Nat), (∀ b ∈ l, 48 ≤ b.toNat ∧ b.toNat ≤ 57) → Lib.decFrom acc l = some (valA acc l)
  | [], acc, _ => rfl
  | c :: l, acc, hd => by
    have hc := hd c List.mem_cons_self
    have hv2 : valA acc (c :: l) = valA (10 * acc + (c.toNat - 48)) l := rfl
    have e : acc * 10 + (c.toNat - 48) = 10 * acc + (c.toNat - 48) := by omega
    rw [Lib.decFrom, Lib.digitVal, if_pos hc, hv2]
    simp only [e]
    exact decFrom_dig l _ (fun b hb => hd b (List.mem_cons_of_mem _ hb))
theorem val_dec (n : Nat) : valA 0 (Lib.decDigits n) = n := (valD_dec n).1
theorem atoi_dec (n : Nat) : Lib.atoi (dec n).data.toList = some (n : Int) := by
  have hd := decFrom_dig (Lib.decDigits n) 0 (dig_dec n)
  rw [val_dec] at hd
  show Lib.atoi (Lib.decDigits n) = _
  obtain ⟨d, t, e, h1, h2⟩ := dec_some n
  rw [e] at hd ⊢
  have c1 : (d == 45) = false := by rw [beq_eq_false_iff_ne]; rintro rfl; simp at h1
  have c2 : (d == 43) = false := by rw [beq_eq_false_iff_ne]; rintro rfl; simp at h1
  simp [Lib.atoi, c1, c2, Lib.decNat, hd]
theorem parse_dig32 : ∀ (l : List UInt8) (acc : Nat), (∀ b ∈ l, 48 ≤ b.toNat ∧ b.toNat ≤ 57) → valA acc l ≤ 4294967295 → Lib.parseUintM (2 ^ 32 - 1) acc l = .ok (valA acc l)
  | [], acc, _, _ => rfl
  | c :: l, acc, hd, hv => by
    have hc := hd c List.mem_cons_self
    have hv2 : valA acc (c :: l) = valA (10 * acc + (c.toNat - 48)) l := rfl
    have hg := valA_ge l (10 * acc + (c.toNat - 48))
    rw [hv2] at hv ⊢
    have e : acc * 10 + (c.toNat - 48) = 10 * acc + (c.toNat - 48) := by omega
    rw [Lib.parseUintM, if_pos hc, if_neg (by omega), if_neg (by omega), e]
    exact parse_dig32 l _ (fun b hb => hd b (List.mem_cons_of_mem _ hb)) hv
theorem parse_dec (n : Nat) (h : n ≤ 4294967295) : Lib.parseUintB 32 (dec n).data.toList = .ok n := by
  show Lib.parseUintB 32 (Lib.decDigits n) = _
  have hp := parse_dig32 (Lib.decDigits n) 0 (dig_dec n) (by rw [val_dec]; exact h)
  rw [val_dec] at hp
  unfold Lib.parseUintB
  obtain ⟨d, t, e, -, -⟩ := dec_some n
  rw [if_neg (by rw [e]; simp), hp]
end Go.Proofs.YtpbfipeinblfgaaGreatDoor
