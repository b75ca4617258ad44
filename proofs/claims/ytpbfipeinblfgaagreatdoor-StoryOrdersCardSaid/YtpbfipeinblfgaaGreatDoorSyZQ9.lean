/-
arrearslaw17.awake: the document's example. Conditions: the months' lengths, the powers of ten and two variables of the library are laid.
Of how many months the day has come, and what fees they bring: lists of days that never fall. No condition but that.
A story without events: what is owed behind so many days. Condition: the due days never fall, and lie behind the first day.
The document's rate and payment of terms. Conditions: terms that are Right.
A story's due days, told: a copy of the row. The law's own terms; a day's interest as the document has it. Conditions: the story is there.
StoryQuiet's walk, whole. Conditions: the months' lengths, the powers of ten and two variables of the library are laid.
-/
import Derived.Test.YtpbfipeinblfgaaGreatDoorSyWQ9
import Derived.Test.YtpbfipeinblfgaaGreatDoorSyKQ9
import Derived.Test.YtpbfipeinblfgaaGreatDoorTrmEQ9
import Derived.Test.YtpbfipeinblfgaaGreatDoorSyCQ9
import Derived.Test.YtpbfipeinblfgaaGreatDoorTrmAQ9
import Derived.Test.YtpbfipeinblfgaaGreatDoorTrmBQ9
import Derived.Test.YtpbfipeinblfgaaGreatDoorRefYQ9
import Derived.Lib.QuietBelow
import Derived.BigQuiet
import Derived.Test.YtpbfipeinblfgaaGreatDoorYldDQ9
namespace Go.Proofs.YtpbfipeinblfgaaGreatDoor
open Go.ChangeShapes Go.WideShapes Go.ChangeAt Go.RowKit Go.Shelf

def trm0 : Trm := ⟨1, 120000, 60000, 2, 12, 738915, 1500, 10⟩
theorem trm0_right : trm0.Right := by
  refine ⟨.inl rfl, ?_, ?_, ?_, ?_, ?_, ?_⟩
  · exact ⟨by decide, .inr rfl⟩
  all_goals (unfold trm0; dsimp only; omega)
theorem trm0_text : trm0.text = ⟨#[108, 101, 118, 101, 108, 32, 49, 50, 48, 48, 46, 48, 48, 32, 54, 48, 48, 48, 48, 32, 116, 104, 105, 114, 116, 121, 32, 49, 50, 32, 50, 48, 50, 52, 45, 48, 49, 45, 51, 49, 32, 49, 53, 46, 48, 48, 32, 49, 48]⟩ := by kernel_rfl
theorem trm0_v : trm0.v = .agg #[.int .u8 1, .int .i64 120000, .int .u32 60000, .int .u8 2, .int .i64 12, .int .i32 738915, .int .i64 1500, .int .i64 10] := rfl
theorem Ents.row {w : World} {b0 : Nat} {en : Value} {L : List En} (h : Ents w b0 en L) : ∃ A c V, en = .slice A L.length c ∧ L.length ≤ c ∧ c ≤ maxLen ∧ Rs enT w w.heap.size A V ∧ EntsV w b0 V L := by
  obtain ⟨V, h1, h2⟩ := h
  obtain ⟨h3, A, c, h4, h5, h6, h7⟩ := h1.form (show 0 < enT.k from (by decide : 0 < 5))
  exact ⟨A, c, V, h4, h5, h6, h7, h2⟩
set_option maxRecDepth 100000 in
set_option maxHeartbeats 8000000 in
theorem awake17 (w : World) (hw : Lens w) (hp : Pows w) (m : Int) (hm : w.cell? ⟨3, 0, none⟩ = some (.int .i64 m)) (te : TypeId) (pe : Value) (hR : w.cell? ⟨0, 0, none⟩ = some (.iface te pe)) :
    Calls Tryz.prog 6 #[] w (Ret (.bool true) w) := by
  have cR := TRead_text trm0_right w hw hp m hm te pe hR
  rw [trm0_text, trm0_v] at cR
  obtain ⟨y, hy⟩ := lstK_any (K := 1) (R := 60000) (M := 12) (P := 120000) (by omega)
  have cN := fun W hW => New_any (n := 3) (K := 1) (P := 120000) (R := 60000) (B := 2) (M := 12) (y := y) (S := 738915) (F := 1500) (G := 10) trm0_right hy W hW
  have hok := dealT_ok (n := 3) (K := 1) (P := 120000) (R := 60000) (B := 2) (M := 12) (y := y) (S := 738915) (F := 1500) (G := 10) trm0_right (by omega) (lst_mi (by omega) hy (.inl rfl))
  obtain ⟨o, ho⟩ : ∃ o, dealT 3 1 120000 60000 2 12 y 738915 1500 10 = o := ⟨_, rfl⟩
  have hS : o.S = 738915 := by rw [← ho]; rfl
  have hP : o.P = 120000 := by rw [← ho]; rfl
  rw [ho] at cN hok
  have cT := fun (q : Nat) (W : World) (s : Sto W W.heap.size q o) => Tell_any hok W s (.slice none 0 0) [] (fun V _ => told_nil q V) (fun e he => by cases he) (by simp) 738914 ⟨by omega, by omega⟩
  have hbeg : tellN o (738914 + 1 - o.S).toNat o.S (begM o) [] = begM o := by rw [hS]; rfl
  rw [hbeg] at cT
  have hq := fun W => Quote_any (x := begM o) ⟨Int.le_refl _, by show (0 : Int) ≤ _; omega⟩ ⟨Int.le_refl _, by show (0 : Int) ≤ _; omega⟩ (by show 0 ≤ o.P ∧ o.P ≤ _; omega) W
  have hst : stV (begM o) = .agg #[.int .i64 0, .int .i64 0, .int .i64 120000, .int .u64 0, .int .i64 0, .int .i64 0, .int .i64 0, .int .i64 0, .int .u8 1] := by
    unfold stV begM TS.add
    simp only [hP]
    rfl
  have hsum : (begM o).f + (begM o).i + (begM o).p = 120000 := by
    show (0 : Int) + 0 + o.P = _
    omega
  rw [hst, hsum] at hq
  have hlen : (begM o).L.length = 1 := rfl
  unfold NewPost at cN
  unfold TellPost at cT
  rw [hst] at cT
  have HCN := Lib.hid cN
  have HCT := Lib.hid cT
  have HQ := Lib.hid hq
  clear cN cT hq hy hok ho hS hP hbeg hst hsum
  go_enter Tryz.func6, Tryz.ntmps6
  go_wp2_with fail
  refine cR.mono ?_
  rintro e w1 ⟨rfl, hb1⟩
  have n1 := Blk.new w1 28 #[.int .u8 1, .int .i64 120000, .int .u32 60000, .int .u8 2, .int .i64 12, .int .i32 738915, .int .i64 1500, .int .i64 10]
  have b1 := hb1.alloc hb1.size (.cells #[.int .u8 1, .int .i64 120000, .int .u32 60000, .int .u8 2, .int .i64 12, .int .i32 738915, .int .i64 1500, .int .i64 10] 28)
  obtain ⟨m0, m1, m2, m3, m4, m5, m6, m7⟩ := blk8 n1
  have HB := Lib.hid b1
  have HE := Lib.hid n1
  have hl1 := hw.below b1
  have HLW := Lib.hid hl1
  simp at m0 m1 m2 m3 m4 m5 m6 m7
  clear cR hb1 b1 n1 hl1
  go_wp2_with fail
  refine (HCN.out _ HLW.out).mono ?_
  rintro e w3 ⟨q, rfl, hq1, hb3, hsto⟩
  have E3 := Lib.hid (HE.out.below hb3 HE.out.lt)
  obtain ⟨r0, r1, r2, r3, r4, r5, r6, r7⟩ := blk8 E3.out
  have B3 := Lib.hid (HB.out.trans (hb3.mono HB.out.size))
  have HS := Lib.hid hsto
  clear HE HB hb3 hsto m0 m1 m2 m3 m4 m5 m6 m7 HLW hq1
  go_wp2_with fail
  refine (HCT.out q w3 HS.out).mono ?_
  rintro e w4 ⟨en, rfl, hb4, hen⟩
  have B4 := Lib.hid (B3.out.trans (hb4.mono B3.out.size))
  obtain ⟨A, c, V, rfl, hc1, hc2, hrow, hV⟩ := hen.row
  obtain ⟨b9, o9, rfl, hlt9, hcell⟩ := hrow.at_ (k := 0) (by rw [hV.len, hlen]; omega)
  have h0V : 0 < V.length := by rw [hV.len, hlen]; omega
  have hy0 := (hV.y 0 V[0] (⟨o.n, o.S, 1, 0⟩, mkL [(2, o.P), (1, -o.P)]) (List.getElem?_eq_getElem h0V) rfl).1
  have kc := hcell 2 (.int .u8 ((V[0].y.k : Nat) : Int)) rfl
  rw [show V[0].y.k = 1 by rw [hy0]] at kc
  have hz : (0 : Nat) * enT.k + 2 = 2 := by simp
  rw [hz] at kc
  simp at kc
  rw [hlen] at hc1 ⊢
  have ht4 : ∀ W, Below w4.heap.size w4 W → W.cell? ⟨b9, o9 + 2, none⟩ = some (.int .u8 1) := fun W hW => (hW.cell (p := ⟨b9, _, none⟩) hlt9).trans kc
  obtain ⟨X, hX⟩ : ∃ X : Array Value, X = #[.int .i64 0, .int .i64 0, .int .i64 120000, .int .u64 0, .int .i64 0, .int .i64 0, .int .i64 0, .int .i64 0, .int .u8 1] := ⟨_, rfl⟩
  have hab := b_alloc w4 (.cells X 52)
  have hbk := Blk.new w4 52 X
  have kc5 := ht4 _ hab
  rw [hX] at hab hbk kc5
  have g0 := hbk.cell 0
  have g1 := hbk.cell 1
  have g2 := hbk.cell 2
  have g3 := hbk.cell 3
  have g4 := hbk.cell 4
  have g5 := hbk.cell 5
  have g6 := hbk.cell 6
  have g7 := hbk.cell 7
  have g8 := hbk.cell 8
  simp at g0 g1 g2 g3 g4 g5 g6 g7 g8
  have B5 := Lib.hid (B4.out.trans (hab.mono B4.out.size))
  clear hen hrow hV hcell h0V hy0 hz hc2 ht4 kc hab hbk hX hb4 hlt9 r0 r1 r2 r3 r4 r5 r6 r7 hlen HCN HCT HS E3 B3 B4
  go_wp2_with fail
  refine (HQ.out _).mono ?_
  rintro e w6 ⟨rfl, hb6⟩
  have B6 := Lib.hid (B5.out.trans (hb6.mono B5.out.size))
  clear hb6 g0 g1 g2 g3 g4 g5 g6 g7 g8 kc5 HQ
  go_wp2_with fail
  go_ret
  exact ⟨rfl, B6.out⟩
end Go.Proofs.YtpbfipeinblfgaaGreatDoor
namespace Go.Proofs.YtpbfipeinblfgaaGreatDoor
/-- Of how many months, from the first on, the day `t` has come, `g` days behind what is due. -/
def come (g t : Int) : List Int → Nat
  | [] => 0
  | d :: l => if d + g ≤ t then come g t l + 1 else 0
theorem come_le (g t : Int) : ∀ l : List Int, come g t l ≤ l.length
  | [] => Nat.le_refl _
  | d :: l => by
    have := come_le g t l
    unfold come
    split <;> simp <;> omega
theorem come_in {g t : Int} : ∀ {l : List Int} {k : Nat} {d : Int}, k < come g t l → l[k]? = some d → d + g ≤ t
  | [], k, d, h, _ => by simp [come] at h
  | x :: l, k, d, h, hd => by
    unfold come at h
    split at h
    · rename_i hx
      cases k with
      | zero => simp at hd; omega
      | succ k => exact come_in (g := g) (t := t) (l := l) (k := k) (by omega) (by simpa using hd)
    · omega
theorem come_out {g t : Int} : ∀ {l : List Int} {k : Nat} {d : Int}, l.Pairwise (· ≤ ·) → come g t l ≤ k → l[k]? = some d → t < d + g
  | [], k, d, _, _, hd => by simp at hd
  | x :: l, k, d, hp, h, hd => by
    obtain ⟨h1, h2⟩ := List.pairwise_cons.1 hp
    unfold come at h
    split at h
    · cases k with
      | zero => omega
      | succ k => exact come_out (g := g) (t := t) (l := l) (k := k) h2 (by omega) (by simpa using hd)
    · rename_i hx
      cases k with
      | zero => simp at hd; omega
      | succ k =>
        have hm : d ∈ l := List.mem_of_getElem? (i := k) (by simpa using hd)
        have := h1 d hm
        omega
theorem come_mono {g t u : Int} (h : t ≤ u) : ∀ l : List Int, come g t l ≤ come g u l
  | [] => Nat.le_refl _
  | d :: l => by
    have := come_mono (g := g) h l
    unfold come
    split <;> split <;> omega
/-- What a day's end asks of the month at hand: its day is this one just when it has come today. -/
theorem come_step {g t : Int} {l : List Int} {k : Nat} {d : Int} (hp : l.Pairwise (· ≤ ·)) (h1 : come g (t - 1) l ≤ k) (hd : l[k]? = some d) : d + g = t ↔ k < come g t l := by
  have ho := come_out hp h1 hd
  constructor
  · intro e
    by_cases h : k < come g t l
    · exact h
    · have := come_out hp (Nat.le_of_not_lt h) hd
      omega
  · intro h
    have := come_in h hd
    omega
/-- The fees of the first `k` months, of those whose sum is more than nothing. -/
def feesN (F : Int) (s : List Int) : Nat → Int
  | 0 => 0
  | k + 1 => feesN F s k + if 0 < (s[k]?).getD 0 then F else 0
/-- The fees of the first `k` months, of those whose day has come and whose sum is more than nothing. -/
def feesL (F g t : Int) (l s : List Int) : Nat → Int
  | 0 => 0
  | k + 1 => feesL F g t l s k + if (l[k]?).getD 0 + g ≤ t ∧ 0 < (s[k]?).getD 0 then F else 0
theorem fees_in {F g t : Int} {l s : List Int} : ∀ k : Nat, k ≤ come g t l → feesL F g t l s k = feesN F s k
  | 0, _ => rfl
  | k + 1, h => by
    have hk : k < l.length := by have := come_le g t l; omega
    have := come_in (g := g) (t := t) (l := l) (k := k) (d := l[k]) (by omega) (List.getElem?_eq_getElem hk)
    unfold feesL feesN
    rw [fees_in k (by omega), List.getElem?_eq_getElem hk]
    simp only [Option.getD_some, this, true_and]
theorem fees_out {F g t : Int} {l s : List Int} (hp : l.Pairwise (· ≤ ·)) : ∀ k : Nat, come g t l ≤ k → k ≤ l.length → feesL F g t l s k = feesN F s (come g t l)
  | k, h, hk => by
    by_cases e : k = come g t l
    · rw [e]; exact fees_in _ (Nat.le_refl _)
    · obtain ⟨j, rfl⟩ : ∃ j, k = j + 1 := ⟨k - 1, by omega⟩
      have hj : j < l.length := by omega
      have := come_out (g := g) (t := t) hp (k := j) (d := l[j]) (by omega) (List.getElem?_eq_getElem hj)
      unfold feesL
      rw [fees_out hp j (by omega) (by omega), List.getElem?_eq_getElem hj, if_neg (by simp only [Option.getD_some]; omega)]
      simp
theorem fees_all {F g t : Int} {l s : List Int} (hp : l.Pairwise (· ≤ ·)) : feesL F g t l s l.length = feesN F s (come g t l) := fees_out hp _ (come_le g t l) (Nat.le_refl _)
theorem feesN_bd {F : Int} (hF : 0 ≤ F) (s : List Int) : ∀ k : Nat, 0 ≤ feesN F s k ∧ feesN F s k ≤ F * (k : Int)
  | 0 => by simp [feesN]
  | k + 1 => by
    obtain ⟨h1, h2⟩ := feesN_bd hF s k
    have e : F * ((k + 1 : Nat) : Int) = F * (k : Int) + F := by rw [Int.natCast_add, Int.mul_add]; simp
    unfold feesN
    split <;> rw [e] <;> omega
/-- Days in a row: what each adds, and what is carried on; `f` is the day's part. -/
def runD (f : Int → Nat → Int × Nat) (d : Int) : Nat → Int × Nat
  | 0 => (0, 0)
  | k + 1 => ((runD f d k).1 + (f (d + k) (runD f d k).2).1, (f (d + k) (runD f d k).2).2)
theorem runD_bd {f : Int → Nat → Int × Nat} {d M : Int} {U : Nat} (hU : 0 < U) (hf : ∀ (e : Int) (c : Nat), c < U → 0 ≤ (f e c).1 ∧ (f e c).1 ≤ M ∧ (f e c).2 < U) : ∀ k : Nat, 0 ≤ (runD f d k).1 ∧ (runD f d k).1 ≤ M * (k : Int) ∧ (runD f d k).2 < U
  | 0 => by simp [runD, hU]
  | k + 1 => by
    obtain ⟨h1, h2, h3⟩ := runD_bd (d := d) hU hf k
    obtain ⟨g1, g2, g3⟩ := hf (d + k) _ h3
    have e : M * ((k + 1 : Nat) : Int) = M * (k : Int) + M := by rw [Int.natCast_add, Int.mul_add]; simp
    unfold runD
    exact ⟨by dsimp only; omega, by dsimp only; rw [e]; omega, g3⟩
end Go.Proofs.YtpbfipeinblfgaaGreatDoor
namespace Go.Proofs.YtpbfipeinblfgaaGreatDoor

def lstF (f : Nat → Int) (M : Nat) : List Int := (List.range M).map f
theorem lstF_at {f : Nat → Int} {M k : Nat} (h : k < M) : (lstF f M)[k]? = some (f k) := by simp [lstF, h]
theorem lstF_len (f : Nat → Int) (M : Nat) : (lstF f M).length = M := by simp [lstF]
theorem lstF_rise {f : Nat → Int} {M : Nat} (h : ∀ k, k + 1 < M → f k ≤ f (k + 1)) : (lstF f M).Pairwise (· ≤ ·) := by
  have g : ∀ j k, j ≤ k → k < M → f j ≤ f k := by
    intro j k
    induction k with
    | zero => intro h1 _; obtain rfl : j = 0 := by omega
              exact Int.le_refl _
    | succ k ih =>
      intro h1 h2
      rcases Nat.lt_or_ge k j with h3 | h3
      · obtain rfl : j = k + 1 := by omega
        exact Int.le_refl _
      · exact Int.le_trans (ih h3 (by omega)) (h k h2)
  unfold lstF
  rw [List.pairwise_map]
  refine List.Pairwise.imp_of_mem (fun {a c} ha hc hlt => ?_) List.pairwise_lt_range
  exact g a c (by omega) (by simpa using hc)
/-- A day's interest and what is carried on. -/
def dayF (P : Int) (R b : Nat) (day : Int) (c : Nat) : Int × Nat := ((((P.toNat * R * oneD b day + c) / unitN b : Nat) : Int), (P.toNat * R * oneD b day + c) % unitN b)
/-- How a quiet loan stands when so many days have been told. -/
structure Quiet (o : Deal) (j : Nat) (x : TS) : Prop where
  p : x.p = o.P
  d : x.d = 0
  h : x.h = 0
  s : x.s = 0
  r : x.r = 0
  t : x.t = 1
  m : x.m = come o.G (o.S + j - 1) (lstF o.D o.M)
  f : x.f = feesN o.F (lstF o.Sm o.M) x.m
  i : x.i = (runD (dayF o.P o.R o.b) o.S j).1
  c : x.c = (runD (dayF o.P o.R o.b) o.S j).2
theorem quiet_late {o : Deal} (hp : (lstF o.D o.M).Pairwise (· ≤ ·)) {t : Int} : ∀ (k : Nat) (x : TS), come o.G (t - 1) (lstF o.D o.M) ≤ x.m → x.m ≤ come o.G t (lstF o.D o.M) → come o.G t (lstF o.D o.M) ≤ x.m + k → x.d = 0 → x.f = feesN o.F (lstF o.Sm o.M) x.m →
    (lateN o.n o.F o.G o.M o.D o.Sm t k x).m = come o.G t (lstF o.D o.M) ∧ (lateN o.n o.F o.G o.M o.D o.Sm t k x).f = feesN o.F (lstF o.Sm o.M) (come o.G t (lstF o.D o.M)) ∧ (lateN o.n o.F o.G o.M o.D o.Sm t k x).p = x.p ∧ (lateN o.n o.F o.G o.M o.D o.Sm t k x).d = x.d ∧ (lateN o.n o.F o.G o.M o.D o.Sm t k x).h = x.h ∧ (lateN o.n o.F o.G o.M o.D o.Sm t k x).s = x.s ∧ (lateN o.n o.F o.G o.M o.D o.Sm t k x).r = x.r ∧ (lateN o.n o.F o.G o.M o.D o.Sm t k x).t = x.t ∧ (lateN o.n o.F o.G o.M o.D o.Sm t k x).i = x.i ∧ (lateN o.n o.F o.G o.M o.D o.Sm t k x).c = x.c
  | 0, x, h1, h2, h3, hd, hf => by
    have e : x.m = come o.G t (lstF o.D o.M) := by omega
    exact ⟨e, by rw [← e]; exact hf, rfl, rfl, rfl, rfl, rfl, rfl, rfl, rfl⟩
  | k + 1, x, h1, h2, h3, hd, hf => by
    have hl := come_le o.G t (lstF o.D o.M)
    rw [lstF_len] at hl
    unfold lateN
    by_cases hm : x.m < o.M
    · have hs := come_step (g := o.G) (t := t) hp h1 (lstF_at (f := o.D) hm)
      by_cases hc : x.m < come o.G t (lstF o.D o.M)
      · rw [if_pos ⟨hm, hs.2 hc⟩]
        have hd' : (lateM o.n o.F o.Sm t x).d = x.d := by unfold lateM; split <;> rfl
        have hf' : (lateM o.n o.F o.Sm t x).f = feesN o.F (lstF o.Sm o.M) (x.m + 1) := by
          unfold feesN
          rw [lstF_at hm, ← hf]
          simp only [Option.getD_some]
          unfold lateM
          rw [hd]
          split
          · rename_i h
            rw [if_pos h.1]
            rfl
          · rename_i h
            by_cases h0 : 0 < o.Sm x.m
            · have hF : o.F = 0 := by
                by_cases hF : o.F = 0
                · exact hF
                · exact absurd ⟨h0, hF⟩ h
              rw [if_pos h0, hF]
              simp
            · rw [if_neg h0]
              simp
        obtain ⟨g1, g2, g3, g4, g5, g6, g7, g8, g9, g10⟩ := quiet_late hp (t := t) k (lateM o.n o.F o.Sm t x) (by rw [late_m]; omega) (by rw [late_m]; omega) (by rw [late_m]; omega) (by rw [hd', hd]) (by rw [hf', late_m])
        refine ⟨g1, g2, g3.trans late_p, g4.trans hd', ?_, ?_, ?_, g8.trans late_t, ?_, ?_⟩
        · exact g5.trans (by unfold lateM; split <;> rfl)
        · exact g6.trans (by unfold lateM; split <;> rfl)
        · exact g7.trans (by unfold lateM; split <;> rfl)
        · exact g9.trans (by unfold lateM; split <;> rfl)
        · exact g10.trans (by unfold lateM; split <;> rfl)
      · rw [if_neg (fun h => hc (hs.1 h.2))]
        have e : x.m = come o.G t (lstF o.D o.M) := by omega
        exact ⟨e, by rw [← e]; exact hf, rfl, rfl, rfl, rfl, rfl, rfl, rfl, rfl⟩
    · rw [if_neg (fun h => hm h.1)]
      have e : x.m = come o.G t (lstF o.D o.M) := by omega
      exact ⟨e, by rw [← e]; exact hf, rfl, rfl, rfl, rfl, rfl, rfl, rfl, rfl⟩
theorem quiet_end {o : Deal} (hp : (lstF o.D o.M).Pairwise (· ≤ ·)) {j : Nat} {x : TS} (h : Quiet o j x) : Quiet o (j + 1) (endM o (o.S + j) x) := by
  obtain ⟨h1, h2, h3, h4, h5, h6, h7, h8, h9, h10⟩ := h
  have hl := come_le o.G (o.S + j) (lstF o.D o.M)
  rw [lstF_len] at hl
  obtain ⟨g1, g2, g3, g4, g5, g6, g7, g8, g9, g10⟩ := quiet_late hp (t := o.S + j) (o.M - x.m) x (by omega) (by rw [h7]; exact come_mono (by omega) _) (by omega) h2 h8
  have hr : runD (dayF o.P o.R o.b) o.S (j + 1) = ((runD (dayF o.P o.R o.b) o.S j).1 + (dayF o.P o.R o.b (o.S + j) (runD (dayF o.P o.R o.b) o.S j).2).1, (dayF o.P o.R o.b (o.S + j) (runD (dayF o.P o.R o.b) o.S j).2).2) := rfl
  unfold endM
  rw [if_pos h6]
  generalize lateN o.n o.F o.G o.M o.D o.Sm (o.S + j) (o.M - x.m) x = y at *
  constructor
  · exact g3.trans h1
  · exact g4.trans h2
  · exact g5.trans h3
  · exact g6.trans h4
  · exact g7.trans h5
  · exact g8.trans h6
  · show y.m = _
    rw [g1, show o.S + ((j + 1 : Nat) : Int) - 1 = o.S + j by omega]
  · show y.f = feesN _ _ y.m
    rw [g2, g1]
  · show y.i + _ = _
    rw [hr, g9, h9, g10, h10, g3, h1]
    rfl
  · show (y.p.toNat * o.R * oneD o.b (o.S + j) + y.c) % unitN o.b = _
    rw [hr, g10, h10, g3, h1]
    rfl
theorem quiet_beg {o : Deal} (h0 : 0 ≤ o.G) (hD : ∀ k, k < o.M → o.S < o.D k) : Quiet o 0 (begM o) := by
  constructor <;> try rfl
  · show 0 = come o.G (o.S + (0 : Nat) - 1) (lstF o.D o.M)
    rcases Nat.eq_zero_or_pos (come o.G (o.S + (0 : Nat) - 1) (lstF o.D o.M)) with h | h
    · exact h.symm
    · have hl := come_le o.G (o.S + (0 : Nat) - 1) (lstF o.D o.M)
      rw [lstF_len] at hl
      have := come_in (g := o.G) h (lstF_at (f := o.D) (M := o.M) (by omega))
      have := hD 0 (by omega)
      omega
theorem quiet_tell {o : Deal} (hp : (lstF o.D o.M).Pairwise (· ≤ ·)) : ∀ (k j : Nat) (x : TS), Quiet o j x → Quiet o (j + k) (tellN o k (o.S + j) x [])
  | 0, _, _, h => h
  | k + 1, j, x, h => by
    have := quiet_tell hp k (j + 1) _ (quiet_end hp h)
    rw [show j + 1 + k = j + (k + 1) by omega, show o.S + ((j + 1 : Nat) : Int) = o.S + j + 1 by omega] at this
    exact this
end Go.Proofs.YtpbfipeinblfgaaGreatDoor
namespace Go.Proofs.YtpbfipeinblfgaaGreatDoor
open Go.ChangeShapes Go.WideShapes Go.ChangeAt Go.RowKit

theorem q_load {w : World} {g : Nat} {a0 a1 a2 a3 a4 a5 a6 a7 : Value} (h : Blk w g 35 #[a0, a1, a2, a3, a4, a5, a6, a7]) : (Instr.loadAt 35 (.pointer (some ⟨g, 0, none⟩))).run Tryz.prog w = .ok (.agg #[a0, a1, a2, a3, a4, a5, a6, a7]) w := by
  obtain ⟨c0, c1, c2, c3, c4, c5, c6, c7⟩ := blk8 h
  go_simp
set_option maxRecDepth 100000 in
set_option maxHeartbeats 4000000 in
theorem RRate_one {K P R M : Nat} {S F G : Int} (w : World) : Calls Tryz.prog 18 #[.agg #[.int .u8 (K : Int), .int .i64 (P : Int), .int .u32 (R : Int), .int .u8 1, .int .i64 (M : Int), .int .i64 S, .int .i64 F, .int .i64 G]] w (Ret (rr R false) w) := by
  have HK := Blk.new (w.alloc (.cells #[.int .u8 (K : Int), .int .i64 (P : Int), .int .u32 (R : Int), .int .u8 1, .int .i64 (M : Int), .int .i64 S, .int .i64 F, .int .i64 G] 35)) 71 #[.int .u32 (R : Int), .bool false]
  have s0 := HK.cell 0
  have s1 := HK.cell 1
  simp at s0 s1
  clear HK
  unfold rr
  go_enter Tryz.func18, Tryz.ntmps18
  go_wp2_with fail
  exact bodyPost_ret (v := .agg #[.int .u32 (R : Int), .bool false]) (by simp [results, Tryz.results18, go_sem, Result.andThen]) rfl ⟨rfl, (b_alloc w _).alloc (by simp) _⟩
set_option maxRecDepth 100000 in
set_option maxHeartbeats 4000000 in
theorem RRate_two {K P R M : Nat} {S F G : Int} (w : World) : Calls Tryz.prog 18 #[.agg #[.int .u8 (K : Int), .int .i64 (P : Int), .int .u32 (R : Int), .int .u8 2, .int .i64 (M : Int), .int .i64 S, .int .i64 F, .int .i64 G]] w (Ret (rr R true) w) := by
  have HK := Blk.new (w.alloc (.cells #[.int .u8 (K : Int), .int .i64 (P : Int), .int .u32 (R : Int), .int .u8 2, .int .i64 (M : Int), .int .i64 S, .int .i64 F, .int .i64 G] 35)) 71 #[.int .u32 (R : Int), .bool true]
  have s0 := HK.cell 0
  have s1 := HK.cell 1
  simp at s0 s1
  clear HK
  unfold rr
  go_enter Tryz.func18, Tryz.ntmps18
  go_wp2_with fail
  exact bodyPost_ret (v := .agg #[.int .u32 (R : Int), .bool true]) (by simp [results, Tryz.results18, go_sem, Result.andThen]) rfl ⟨rfl, (b_alloc w _).alloc (by simp) _⟩
theorem RRate16 {K P R B M : Nat} {S F G : Int} (hB : B = 1 ∨ B = 2) (w : World) : Calls Tryz.prog 18 #[.agg #[.int .u8 (K : Int), .int .i64 (P : Int), .int .u32 (R : Int), .int .u8 (B : Int), .int .i64 (M : Int), .int .i64 S, .int .i64 F, .int .i64 G]] w (Ret (rr R (decide (B = 2))) w) := by
  rcases hB with rfl | rfl
  · exact RRate_one w
  · exact RRate_two w
end Go.Proofs.YtpbfipeinblfgaaGreatDoor
namespace Go.Proofs.YtpbfipeinblfgaaGreatDoor
open Go.ChangeShapes Go.WideShapes Go.ChangeAt Go.RowKit Go.Shelf

set_option maxRecDepth 20000 in
set_option maxHeartbeats 4000000 in
theorem own17_any {t : Trm} (hi : t.In) (w : World) : Calls Tryz.prog 8 #[t.v] w (Ret t.r w) := by
  obtain ⟨K, P, R, B, M, S, F, G⟩ := t
  have hs1 : -9223372036854775808 ≤ S := by have := hi.S; dsimp only at this; omega
  have hs2 : S ≤ 9223372036854775807 := by have := hi.S; dsimp only at this; omega
  unfold Trm.v Trm.r
  clear hi
  dsimp only at hs1 hs2 ⊢
  have HK := Blk.new (w.alloc (.cells #[.int .u8 (K : Int), .int .i64 P, .int .u32 (R : Int), .int .u8 (B : Int), .int .i64 M, .int .i32 S, .int .i64 F, .int .i64 G] 28)) 35 #[.int .u8 (K : Int), .int .i64 P, .int .u32 (R : Int), .int .u8 (B : Int), .int .i64 M, .int .i64 S, .int .i64 F, .int .i64 G]
  obtain ⟨s0, s1, s2, s3, s4, s5, s6, s7⟩ := blk8 HK
  simp at s0 s1 s2 s3 s4 s5 s6 s7
  clear HK
  go_enter Tryz.func8, Tryz.ntmps8
  go_wp2_with fail
  exact bodyPost_ret (v := .agg #[.int .u8 (K : Int), .int .i64 P, .int .u32 (R : Int), .int .u8 (B : Int), .int .i64 M, .int .i64 S, .int .i64 F, .int .i64 G]) (by simp [results, Tryz.results8, go_sem, Result.andThen]) rfl ⟨rfl, (b_alloc w _).alloc (by simp) _⟩
/-- The document's day. -/
theorem RDay17 {P R b c : Nat} {n : Int} (hP : P ≤ 1000000000000) (hR : R ≤ 1000000) (hb : b = 1 ∨ b = 2) (h0 : 0 ≤ n) (h1 : n < 3652058) (hc : c < unitN b) (w : World) :
    Calls Tryz.prog 17 #[rr R (decide (b = 2)), .int .i64 (P : Int), .int .i64 n, .int .u64 (c : Int)] w (Ret (.tuple #[.int .i64 (dayF P R b n c).1, .int .u64 (((dayF P R b n c).2 : Nat) : Int)]) w) := by
  obtain ⟨g, e⟩ := one_bd (b := b) h0 h1
  unfold dayF
  rw [Int.toNat_natCast]
  rcases hb with rfl | rfl
  · exact RDay_1 hP hR h0 h1 hc e g w
  · exact RDay_2 hP hR h0 h1 hc e g w
/-- A month's day and sum. -/
def dueT : Lies (Int × Int) := ⟨fun v => [.int .i32 v.1, .int .i64 v.2], 2, fun _ => rfl, fun d u hu => by
  simp at hu
  rcases hu with rfl | rfl <;> rfl⟩
theorem rowDue : RowOf dueT Tryz.prog 73 76 16 := RowOf.of (z := .agg #[.int .i32 0, .int .i64 0]) Tryz.underlying73 (by kernel_rfl) rfl (by decide)
def dueL (o : Deal) : List (Int × Int) := (List.range o.M).map fun k => (o.D k, o.Sm k)
theorem dueL_len (o : Deal) : (dueL o).length = o.M := by simp [dueL]
theorem dueL_at {o : Deal} {k : Nat} (h : k < o.M) : (dueL o)[k]? = some (o.D k, o.Sm k) := by simp [dueL, h]
theorem Sto.dues {w : World} {B q : Nat} {o : Deal} (h : Sto w B q o) : ∃ dq, Blk w q 89 #[.int .u32 (o.n : Int), .int .u8 (o.K : Int), .int .i64 o.P, .int .u32 (o.R : Int), .int .u8 (o.b : Int), .int .i64 (o.M : Int), .int .i32 o.S, .int .i64 o.F, .int .i64 o.G, .slice (some ⟨dq, 0, none⟩) o.M o.M] ∧ Rs dueT w B (some ⟨dq, 0, none⟩) (dueL o) := by
  obtain ⟨dq, ds, h1, h2, h3, h4⟩ := h.b
  refine ⟨dq, h1, fun _ => ⟨dq, 0, rfl, h3, fun j v hv i x hx => ?_⟩⟩
  have hj : j < o.M := by
    have := (List.getElem?_eq_some_iff.1 hv).1
    rwa [dueL_len] at this
  rw [dueL_at hj] at hv
  injection hv with hv
  subst hv
  obtain ⟨c0, c1⟩ := h4 j hj
  have e : dueT.cells (o.D j, o.Sm j) = [.int .i32 (o.D j), .int .i64 (o.Sm j)] := rfl
  rw [e] at hx
  have b0 := h2.cell (j * 2)
  have b1 := h2.cell (j * 2 + 1)
  match i, hx with
  | 0, hx =>
    injection hx with hx
    subst hx
    show w.cell? ⟨dq, 0 + (j * 2 + 0), none⟩ = _
    rw [Nat.zero_add, Nat.add_zero, b0]
    exact c0
  | 1, hx =>
    injection hx with hx
    subst hx
    show w.cell? ⟨dq, 0 + (j * 2 + 1), none⟩ = _
    rw [Nat.zero_add, b1]
    exact c1
  | i + 2, hx => simp at hx
def DuesT (o : Deal) (w : World) (e : Ending) (w' : World) : Prop := ∃ (A : Option Addr) (c : Nat), e = .returned (.slice A o.M c) ∧ o.M ≤ c ∧ c ≤ maxLen ∧ Rs dueT w' w'.heap.size A (dueL o) ∧ Below w.heap.size w w'
set_option maxRecDepth 20000 in
set_option maxHeartbeats 4000000 in
theorem CloneD_any (o : Deal) (b0 o0 n c B : Nat) (w : World) (hR : Rs dueT w B (some ⟨b0, o0, none⟩) (dueL o)) (hn : o.M = n) (hm : n ≤ 100000) (hB : B ≤ w.heap.size) :
    Calls Tryz.prog 37 #[.slice (some ⟨b0, o0, none⟩) n c] w (DuesT o w) := by
  have hn2 : (dueL o).length = n := by rw [dueL_len, hn]
  have HR := Lib.hid hR
  have HL := Lib.hid hn2
  have HN := Lib.hid hn
  clear hR hn hn2
  have hE : ∀ W, (binOp .eql 73 (.slice (some ⟨b0, o0, none⟩) n c) (.slice none 0 0)).run Tryz.prog W = .ok (.bool false) W := fun W => by kernel_rfl
  have HO0 := Lib.hid (OwnS.made (T := dueT) (e := 76) w (cap := 0) (cur := #[]) (b := w.heap.size) (Nat.le_refl _) (by decide) rfl)
  have HB0 := Lib.hid (b_alloc w (.cells #[] 76))
  have HR0 := Lib.hid (HR.out.below ((Below.refl _ _).alloc hB (.cells #[] 76)))
  go_enter Tryz.func37, Tryz.ntmps37
  go_wp2_with (with_reducible refine wpList_appendS (o := ⟨some 7, _, _, _, _, _⟩) rfl rowDue (.tmp 5) (.tmp 6) rfl w.heap.size _ 0 [] ?h1 HO0.out B (some ⟨b0, o0, none⟩) n c (dueL o) ?h2 HR0.out HL.out ?h3 ?h4 ?h5 ?_)
  try (case h1 => rfl)
  try (case h2 => rfl)
  try (case h3 => unfold maxLen; omega)
  try (case h4 => omega)
  try (case h5 => simp)
  intro v1 w1 ho1 hg1 _ _
  try simp only [Nat.zero_add, List.nil_append] at ho1
  have hb1 : Below w.heap.size w w1 := HB0.out.grown hg1 HB0.out.size (fun g hg => (HO0.out.lt g hg).1)
  obtain ⟨_, A1, c1, rfl, hc1, hm1, hr1⟩ := ho1.form (by decide)
  have HR1 := Lib.hid hr1
  have HB1 := Lib.hid hb1
  clear ho1 hb1 hg1 HO0 HB0 HR0 HR hr1
  go_wp2_with fail
  go_ret
  exact ⟨A1, c1, by rw [HN.out]; rfl, by rw [HN.out]; exact hc1, hm1, HR1.out, HB1.out⟩
set_option maxRecDepth 20000 in
set_option maxHeartbeats 4000000 in
theorem DuesS_any {o : Deal} (ho : o.Ok) {w : World} {q : Nat} (h : Sto w w.heap.size q o) :
    Calls Tryz.prog 19 #[.pointer (some ⟨q, 0, none⟩)] w (DuesT o w) := by
  obtain ⟨dq, h1, h2⟩ := h.dues
  have hM := ho.M
  have hC := CloneD_any o dq 0 o.M o.M w.heap.size w h2 rfl (by omega) (Nat.le_refl _)
  have c9 := h1.cell 9
  simp at c9
  have hE : ∀ W, (binOp .eql 37 (.pointer (some ⟨q, 0, none⟩)) (.pointer none)).run Tryz.prog W = .ok (.bool false) W := fun W => by kernel_rfl
  clear h1 h2 hM ho h
  go_enter Tryz.func19, Tryz.ntmps19
  go_wp2_with fail
  refine hC.mono ?_
  rintro e w1 ⟨A, c, rfl, h3, h4, h5, h6⟩
  have H5 := Lib.hid h5
  have H6 := Lib.hid h6
  clear h5 h6 c9 hC
  go_wp2_with fail
  go_ret
  exact ⟨A, c, rfl, h3, h4, H5.out, H6.out⟩
end Go.Proofs.YtpbfipeinblfgaaGreatDoor
namespace Go.Proofs.YtpbfipeinblfgaaGreatDoor
open Go.ChangeShapes Go.WideShapes Go.ChangeAt Go.RowKit Go.Shelf

theorem quiet_all {o : Deal} (hG : 0 ≤ o.G) (hp : ∀ k, k + 1 < o.M → o.D k ≤ o.D (k + 1)) (hD : ∀ k, k < o.M → o.S < o.D k) (k : Nat) {X : TS} (hX : tellN o (k + 1) o.S (begM o) [] = X) : X.p = o.P ∧ X.h = 0 ∧ X.t = 1 ∧ X.f = feesL o.F o.G (o.S + k) (lstF o.D o.M) (lstF o.Sm o.M) o.M ∧ X.i = (runD (dayF o.P o.R o.b) o.S (k + 1)).1 ∧ X.c = (runD (dayF o.P o.R o.b) o.S (k + 1)).2 := by
  have hq := quiet_tell (lstF_rise hp) (k + 1) 0 _ (quiet_beg hG hD)
  rw [Nat.zero_add, show o.S + ((0 : Nat) : Int) = o.S by omega, hX] at hq
  have e : o.S + ((k + 1 : Nat) : Int) - 1 = o.S + k := by omega
  refine ⟨hq.p, hq.h, hq.t, ?_, hq.i, hq.c⟩
  rw [hq.f, hq.m, e]
  have := fees_all (F := o.F) (g := o.G) (t := o.S + k) (l := lstF o.D o.M) (s := lstF o.Sm o.M) (lstF_rise hp)
  rw [lstF_len] at this
  exact this.symm
theorem days_bd {o : Deal} (ho : o.Ok) (j : Nat) (hj : j ≤ 200) : 0 ≤ (runD (dayF o.P o.R o.b) o.S j).1 ∧ (runD (dayF o.P o.R o.b) o.S j).1 ≤ 10000000000 * (j : Int) ∧ (runD (dayF o.P o.R o.b) o.S j).2 < unitN o.b := by
  have hU := unitN_bd o.b
  induction j with
  | zero => refine ⟨Int.le_refl _, by simp [runD], by show 0 < unitN o.b; omega⟩
  | succ j ih =>
    obtain ⟨h1, h2, h3⟩ := ih (by omega)
    have hS := ho.S
    obtain ⟨g, -⟩ := one_bd (b := o.b) (day := o.S + j) (by omega) (by omega)
    obtain ⟨a1, a2⟩ := accS_bd (p := o.P) (R := o.R) (D := oneD o.b (o.S + j)) (c := (runD (dayF o.P o.R o.b) o.S j).2) (b := o.b) ⟨by have := ho.P; omega, ho.P.2⟩ ho.R g h3
    obtain ⟨q, hq⟩ : ∃ q : Nat, (o.P.toNat * o.R * oneD o.b (o.S + j) + (runD (dayF o.P o.R o.b) o.S j).2) / unitN o.b = q := ⟨_, rfl⟩
    have e1 : (runD (dayF o.P o.R o.b) o.S (j + 1)).1 = (runD (dayF o.P o.R o.b) o.S j).1 + (q : Int) := by rw [← hq]; rfl
    rw [hq] at a1
    rw [e1]
    refine ⟨by omega, by omega, a2⟩
set_option maxRecDepth 100000 in
set_option maxHeartbeats 4000000 in
theorem Quiet_no {t : Trm} (hi : t.In) (h : ¬ t.Right) (n : Nat) (w : World) (hw : Lens w) (hp : Pows w) (m : Int) (hm : w.cell? ⟨3, 0, none⟩ = some (.int .i64 m)) (te : TypeId) (pe : Value) (hR : w.cell? ⟨0, 0, none⟩ = some (.iface te pe)) :
    Calls Tryz.prog 5 #[t.v, .int .u16 (n : Int)] w (Ret (.bool true) w) := by
  have cA := fun W (hb : Below w.heap.size w W) => awake17 W (hw.below hb) (hp.below hb) m ((hb.cell (p := ⟨_, 0, none⟩) (block_lt_of_cell hm)).trans hm) te pe ((hb.cell (p := ⟨_, 0, none⟩) (block_lt_of_cell hR)).trans hR)
  have cO := fun W => own17_any hi W
  have cQ := fun W => QRight_false hi h W
  obtain ⟨K, P, R, B, M, S, F, G⟩ := t
  unfold Trm.v Trm.r at *
  dsimp only at cO cQ ⊢
  have HB0 := Lib.hid (b_alloc w (.cells #[.int .u8 (K : Int), .int .i64 P, .int .u32 (R : Int), .int .u8 (B : Int), .int .i64 M, .int .i32 S, .int .i64 F, .int .i64 G] 28))
  have HQ0 := Lib.hid (Blk.new w 28 #[.int .u8 (K : Int), .int .i64 P, .int .u32 (R : Int), .int .u8 (B : Int), .int .i64 M, .int .i32 S, .int .i64 F, .int .i64 G])
  have cA1 := cA _ HB0.out
  clear cA hi h hR hm hw hp
  go_enter Tryz.func5, Tryz.ntmps5
  go_wp2_with fail
  refine cA1.mono ?_
  rintro e w1 ⟨rfl, hb⟩
  have HT1 := Lib.hid (HQ0.out.below hb HQ0.out.lt)
  have HB1 := Lib.hid (HB0.out.trans (hb.mono HB0.out.size))
  obtain ⟨c0, c1, c2, c3, c4, c5, c6, c7⟩ := blk8 HT1.out
  clear hb cA1 HQ0 HB0
  go_wp2_with fail
  refine (cO _).mono ?_
  rintro e w2 ⟨rfl, hb⟩
  have HB2 := Lib.hid (HB1.out.trans (hb.mono HB1.out.size))
  clear hb c0 c1 c2 c3 c4 c5 c6 c7 HT1 HB1 cO
  go_wp2_with fail
  refine (cQ _).mono ?_
  rintro e w3 ⟨rfl, hb⟩
  have HB3 := Lib.hid (HB2.out.trans (hb.mono HB2.out.size))
  clear hb HB2 cQ
  go_wp2_with fail
  go_ret
  exact ⟨rfl, HB3.out⟩
set_option maxRecDepth 100000 in
set_option maxHeartbeats 8000000 in
theorem Quiet_yes {K P R B M : Nat} {S F G : Int} (hi : Trm.In ⟨K, P, R, B, M, S, F, G⟩) (h : Trm.Right ⟨K, P, R, B, M, S, F, G⟩) (n : Nat) (w : World) (hw : Lens w) (hp : Pows w) (m : Int) (hm : w.cell? ⟨3, 0, none⟩ = some (.int .i64 m)) (te : TypeId) (pe : Value) (hR : w.cell? ⟨0, 0, none⟩ = some (.iface te pe)) :
    Calls Tryz.prog 5 #[.agg #[.int .u8 (K : Int), .int .i64 (P : Int), .int .u32 (R : Int), .int .u8 (B : Int), .int .i64 (M : Int), .int .i32 S, .int .i64 F, .int .i64 G], .int .u16 (n : Int)] w (Ret (.bool true) w) := by
  have cA := fun W (hb : Below w.heap.size w W) => awake17 W (hw.below hb) (hp.below hb) m ((hb.cell (p := ⟨_, 0, none⟩) (block_lt_of_cell hm)).trans hm) te pe ((hb.cell (p := ⟨_, 0, none⟩) (block_lt_of_cell hR)).trans hR)
  have cO := fun W => own17_any hi W
  have cQ := fun W => QRight_true hi h W
  have cR := fun W => RRate16 (K := K) (P := P) (R := R) (M := M) (S := S) (F := F) (G := G) h.R.2 W
  obtain ⟨y, hy⟩ := lstK_any (K := K) (R := R) (M := M) (P := P) (by have := h.M; dsimp only at this; omega)
  have cN := fun W hW => New_any (n := 1) h hy W hW
  have hok := dealT_ok (n := 1) h (by omega) (lst_mi (by have := h.P; dsimp only at this; omega) hy h.K)
  have hP := h.P
  have hM := h.M
  have hS := h.S
  have hF := h.F
  have hG := h.G
  have hRb := h.R.1
  have hBb := h.R.2
  dsimp only at hP hM hS hF hG hRb hBb
  have hdue := fun k (hk : k < M) => due_after (l := []) (k := k) hS.1 hS.2 (by omega) (by simp)
  have hrise := fun k (hk : k + 1 < M) => due_rise (l := []) (k := k) hS.1 hS.2 (by omega) (by simp)
  obtain ⟨k, hk⟩ : ∃ k, n % 130 = k := ⟨_, rfl⟩
  have hk2 : k < 130 := by omega
  obtain ⟨X, hX⟩ : ∃ X, tellN (dealT 1 K P R B M y S F G) (k + 1) S (begM (dealT 1 K P R B M y S F G)) [] = X := ⟨_, rfl⟩
  obtain ⟨x1, x2, x3, x4, x5, x6⟩ := quiet_all (o := dealT 1 K P R B M y S F G) hG.1 hrise hdue k hX
  have hdays := days_bd hok
  have hDb := hok.D
  have hSb := hok.Sm
  have cT := fun (q : Nat) (W : World) (s : Sto W W.heap.size q (dealT 1 K P R B M y S F G)) => Tell_any hok W s (.slice none 0 0) [] (fun V _ => told_nil q V) (fun e he => by cases he) (by simp) (S + k) ⟨by show S ≤ _; omega, by omega⟩
  rw [show (S + (k : Int) + 1 - (dealT 1 K P R B M y S F G).S).toNat = k + 1 by show (S + (k : Int) + 1 - S).toNat = _; omega] at cT
  have cT : ∀ (q : Nat) (W : World) (s : Sto W W.heap.size q (dealT 1 K P R B M y S F G)), Calls Tryz.prog 11 #[.pointer (some ⟨q, 0, none⟩), .slice none 0 0, .int .i32 (S + k)] W (TellPost X W) := fun q W s => by rw [← hX]; exact cT q W s
  have cD := fun (q : Nat) (W : World) (s : Sto W W.heap.size q (dealT 1 K P R B M y S F G)) => DuesS_any hok s
  have dl := fun j => dueL_at (o := dealT 1 K P R B M y S F G) (k := j)
  have dn := dueL_len (dealT 1 K P R B M y S F G)
  have hoS : (dealT 1 K P R B M y S F G).S = S := rfl
  have hoF : (dealT 1 K P R B M y S F G).F = F := rfl
  have hoG : (dealT 1 K P R B M y S F G).G = G := rfl
  have hoP : (dealT 1 K P R B M y S F G).P = P := rfl
  have hoR : (dealT 1 K P R B M y S F G).R = R := rfl
  have hob : (dealT 1 K P R B M y S F G).b = B := rfl
  have hoM : (dealT 1 K P R B M y S F G).M = M := rfl
  unfold NewPost at cN
  unfold DuesT at cD
  obtain ⟨o, ho⟩ : ∃ o, dealT 1 K P R B M y S F G = o := ⟨_, rfl⟩
  rw [ho] at cN cT cD x1 x4 x5 x6 hdays hDb hSb dl dn hoS hoF hoG hoP hoR hob hoM
  clear hX hdue hrise hok ho hy
  rw [hoP, hoR, hob, hoS] at hdays x5 x6
  rw [hoS, hoF, hoG, hoM] at x4
  rw [hoP] at x1
  rw [hoM] at hDb hSb dn dl cD
  clear hoS hoF hoG hoP hoR hob hoM
  unfold TellPost stV at cT
  rw [x1, x2, x3, x4, x5, x6] at cT
  obtain ⟨RD, hRD⟩ : ∃ RD, runD (dayF P R B) S = RD := ⟨_, rfl⟩
  have r0 : RD 0 = (0, 0) := by rw [← hRD]; rfl
  have r1 : ∀ j, (RD (j + 1)).1 = (RD j).1 + (dayF P R B (S + j) (RD j).2).1 := fun j => by rw [← hRD]; rfl
  have r2 : ∀ j, (RD (j + 1)).2 = (dayF P R B (S + j) (RD j).2).2 := fun j => by rw [← hRD]; rfl
  have cDay := fun (j : Nat) (hj : j < 200) W => RDay17 (P := P) (R := R) (b := B) (c := (RD j).2) (n := S + j) (by omega) hRb hBb (by omega) (by omega) (by rw [← hRD]; exact (hdays j (by omega)).2.2) W
  rw [hRD] at hdays cT
  obtain ⟨FE, hFE⟩ : ∃ FE, feesL F G (S + (k : Int)) (lstF o.D M) (lstF o.Sm M) = FE := ⟨_, rfl⟩
  have f0 : FE 0 = 0 := by rw [← hFE]; rfl
  have f1 : ∀ j, j < M → FE (j + 1) = FE j + if o.D j + G ≤ S + (k : Int) ∧ 0 < o.Sm j then F else 0 := fun j hj => by
    rw [← hFE]
    show feesL _ _ _ _ _ j + _ = _
    rw [lstF_at hj, lstF_at hj]
    rfl
  rw [hFE] at cT
  have f2 : ∀ j, j ≤ M → 0 ≤ FE j ∧ FE j ≤ 1000000000 * (j : Int) := by
    intro j
    induction j with
    | zero => intro _; rw [f0]; omega
    | succ j ih =>
      intro hj
      have := ih (by omega)
      rw [f1 j (by omega)]
      split <;> omega
  have r3 : ∀ j, j ≤ 200 → 0 ≤ (RD j).1 ∧ (RD j).1 ≤ 10000000000 * (j : Int) ∧ (RD j).2 < 365000000 := fun j hj => by
    have h1 := hdays j hj
    have h2 := unitN_bd B
    omega
  clear hFE hRD hdays x1 x2 x3 x4 x5 x6
  have HF1 := Lib.hid f1
  have HF2 := Lib.hid f2
  have HR1 := Lib.hid r1
  have HR2 := Lib.hid r2
  have HR3 := Lib.hid r3
  have HDY := Lib.hid cDay
  have HRR := Lib.hid cR
  have HCN := Lib.hid cN
  have HCT := Lib.hid cT
  have HCD := Lib.hid cD
  have HDL := Lib.hid dl
  have HDN := Lib.hid dn
  have HDB := Lib.hid hDb
  have HSB := Lib.hid hSb
  have HP := Lib.hid hP
  have HM := Lib.hid hM
  have HS := Lib.hid hS
  have HF := Lib.hid hF
  have HG := Lib.hid hG
  have HW := Lib.hid hw
  have HK2 := Lib.hid hk2
  have HK := Lib.hid hk
  have HF0 := Lib.hid f0
  have HR0 := Lib.hid r0
  unfold Trm.v Trm.r at *
  dsimp only at cO cQ ⊢
  have HCO := Lib.hid cO
  have HB0 := Lib.hid (b_alloc w (.cells #[.int .u8 (K : Int), .int .i64 (P : Int), .int .u32 (R : Int), .int .u8 (B : Int), .int .i64 (M : Int), .int .i32 S, .int .i64 F, .int .i64 G] 28))
  have HQ0 := Lib.hid (Blk.new w 28 #[.int .u8 (K : Int), .int .i64 (P : Int), .int .u32 (R : Int), .int .u8 (B : Int), .int .i64 (M : Int), .int .i32 S, .int .i64 F, .int .i64 G])
  have cA1 := cA _ HB0.out
  obtain ⟨b, hb0⟩ : ∃ b, w.heap.size = b := ⟨_, rfl⟩
  have HBE := Lib.hid hb0
  have k2 : ((n : Int) % 130) = (k : Int) := by omega
  clear f1 f2 r1 r2 r3 cDay cR cN cT cD dl dn hDb hSb hP hM hS hF hG hRb hBb hw hp hm hR cA h hi hb0 f0 r0 hk hk2 cO
  go_enter Tryz.func5, Tryz.ntmps5
  go_wp2_with fail
  refine cA1.mono ?_
  rintro e w1 ⟨rfl, hb⟩
  have HT1 := Lib.hid (HQ0.out.below hb HQ0.out.lt)
  have HB1 := Lib.hid (HB0.out.trans (hb.mono HB0.out.size))
  obtain ⟨c0, c1, c2, c3, c4, c5, c6, c7⟩ := blk8 HT1.out
  clear hb cA1 HQ0 HB0
  go_wp2_with fail
  refine (HCO.out _).mono ?_
  rintro e w2 ⟨rfl, hb⟩
  have HT2 := Lib.hid (HT1.out.below hb HT1.out.lt)
  have HB2 := Lib.hid (HB1.out.trans (hb.mono HB1.out.size))
  clear hb c0 c1 c2 c3 c4 c5 c6 c7 HT1 HB1
  go_wp2_with fail
  refine (cQ _).mono ?_
  rintro e w3 ⟨rfl, hb⟩
  have HT3 := Lib.hid (HT2.out.below hb HT2.out.lt)
  have HB3 := Lib.hid (HB2.out.trans (hb.mono HB2.out.size))
  obtain ⟨c0, c1, c2, c3, c4, c5, c6, c7⟩ := blk8 HT3.out
  clear hb HT2 HB2 cQ
  go_wp2_with fail
  refine (HCN.out _ (HW.out.below HB3.out)).mono ?_
  rintro e w4 ⟨q, rfl, hq, hb, hsto⟩
  have HT4 := Lib.hid (HT3.out.below hb HT3.out.lt)
  have HB4 := Lib.hid (HB3.out.trans (hb.mono HB3.out.size))
  have HS4 := Lib.hid hsto
  clear hb hq hsto c0 c1 c2 c3 c4 c5 c6 c7 HT3 HB3 HCN
  obtain ⟨c0, c1, c2, c3, c4, c5, c6, c7⟩ := blk8 HT4.out
  have s1 : -2147483648 ≤ S + (k : Int) := by have := HS.out; omega
  have s2 : S + (k : Int) ≤ 2147483647 := by have := HS.out; have := HK2.out; omega
  have s3 : (k : Int) ≤ 130 := by have := HK2.out; omega
  have s4 : (0 : Int) ≤ k := by omega
  go_wp2_with fail
  refine (HCT.out q w4 HS4.out).mono ?_
  rintro e w5 ⟨en, rfl, hb, -⟩
  have HT5 := Lib.hid (HT4.out.below hb HT4.out.lt)
  have HB5 := Lib.hid (HB4.out.trans (hb.mono HB4.out.size))
  have HS5 := Lib.hid (HS4.out.below hb)
  have HLE := Lib.hid hb.size
  clear hb c0 c1 c2 c3 c4 c5 c6 c7 HT4 HB4 HS4 HCT
  obtain ⟨E, hE⟩ : ∃ E : Array Value, E = #[.int .i64 (FE M), .int .i64 (RD (k + 1)).1, .int .i64 (P : Int), .int .u64 ((RD (k + 1)).2 : Int), .int .i64 X.d, .int .i64 X.s, .int .i64 X.r, .int .i64 0, .int .u8 1] := ⟨_, rfl⟩
  have hab := b_alloc w5 (.cells E 52)
  have hbk := Blk.new w5 52 E
  rw [hE] at hab hbk
  have HT6 := Lib.hid (HT5.out.below hab HT5.out.lt)
  have HB6 := Lib.hid (HB5.out.trans (hab.mono HB5.out.size))
  have HS6 := Lib.hid (((HS5.out.up HLE.out).below hab).up hab.size)
  have HX6 := Lib.hid hbk
  obtain ⟨c0, c1, c2, c3, c4, c5, c6, c7⟩ := blk8 HT6.out
  clear hab hbk hE HT5 HB5 HS5 HLE
  go_wp2_with fail
  obtain ⟨W6, hW6⟩ : ∃ W, w5.alloc (.cells #[.int .i64 (FE M), .int .i64 (RD (k + 1)).1, .int .i64 (P : Int), .int .u64 ((RD (k + 1)).2 : Int), .int .i64 X.d, .int .i64 X.s, .int .i64 X.r, .int .i64 0, .int .u8 1] 52) = W := ⟨_, rfl⟩
  obtain ⟨xb, hxb⟩ : ∃ j, w5.heap.size = j := ⟨_, rfl⟩
  rw [hW6] at HT6 HB6 HS6 HX6 ⊢
  rw [hxb] at HX6 ⊢
  rw [HBE.out] at HT6 ⊢
  clear hW6 hxb c0 c1 c2 c3 c4 c5 c6 c7
  go_loopw [11, 12, 13, 14, 15] (fun s c d _ _ wr => ∃ j : Nat, j ≤ k + 1 ∧ s = .int .i64 (RD j).1 ∧ c = .int .u64 ((RD j).2 : Int) ∧ d = .int .i32 (S + (j : Int)) ∧ Hid (Below W6.heap.size W6 wr)) (fun _ _ d _ _ _ => (S + (k : Int) + 1 - intOf d).toNat)
  case atStart => exact ⟨0, by omega, by rw [HR0.out], by rw [HR0.out]; rfl, by simp, Lib.hid (Below.refl _ _)⟩
  case round =>
    obtain ⟨j, hj, rfl, rfl, rfl, HBk⟩ := hrel
    by_cases hlt : j ≤ k
    · have HTk := Lib.hid (HT6.out.below HBk.out HT6.out.lt)
      have h200 : j < 200 := by have := HK2.out; omega
      have cDayj := HDY.out j h200
      obtain ⟨N1, hN1⟩ : ∃ N, (dayF P R B (S + (j : Int)) (RD j).2).1 = N := ⟨_, rfl⟩
      obtain ⟨N2, hN2⟩ : ∃ N, (dayF P R B (S + (j : Int)) (RD j).2).2 = N := ⟨_, rfl⟩
      have e1 := HR1.out j
      have e2 := HR2.out j
      have b1 := HR3.out (j + 1) (by omega)
      have b0 := HR3.out j (by omega)
      rw [hN1] at cDayj e1
      rw [hN2] at cDayj e2
      obtain ⟨A1, hA1⟩ : ∃ N, (RD j).1 = N := ⟨_, rfl⟩
      obtain ⟨A2, hA2⟩ : ∃ N, (RD j).2 = N := ⟨_, rfl⟩
      rw [hA2] at cDayj b0 ⊢
      rw [hA1] at e1 b0 ⊢
      rw [e1, e2] at b1
      have E1 := Lib.hid e1
      have E2 := Lib.hid e2
      have q1 : -9223372036854775808 ≤ A1 + N1 := by omega
      have q2 : A1 + N1 ≤ 9223372036854775807 := by omega
      have q3 : S + (j : Int) ≤ S + (k : Int) := by omega
      have q4 : -2147483648 ≤ S + (j : Int) + 1 := by have := HS.out; omega
      have q5 : S + (j : Int) + 1 ≤ 2147483647 := by have := HS.out; omega
      have q6 : -9223372036854775808 ≤ S + (j : Int) := by omega
      have q7 : S + (j : Int) ≤ 9223372036854775807 := by omega
      clear e1 e2 b0 b1 hA1 hA2 hN1 hN2
      obtain ⟨y0, y1, y2, y3, y4, y5, y6, y7⟩ := blk8 HTk.out
      have c0 := cell_regrown y0
      have c1 := cell_regrown y1
      have c2 := cell_regrown y2
      have c3 := cell_regrown y3
      have c4 := cell_regrown y4
      have c5 := cell_regrown y5
      have c6 := cell_regrown y6
      have c7 := cell_regrown y7
      clear y0 y1 y2 y3 y4 y5 y6 y7
      go_wp2_with fail
      have A1_0 := fun (dd : Nat) (os : Array Obj) => Calls.regrown_of (HCO.out (Go.Sort.grow (redrawn wr dd) os))
      have A1_1 := fun (dd : Nat) (os : Array Obj) => Calls.regrown_of (HRR.out (Go.Sort.grow (redrawn wr dd) os))
      have A1_2 := fun (dd : Nat) (os : Array Obj) => Calls.regrown_of (cDayj (Go.Sort.grow (redrawn wr dd) os))
      refine wp_region_quiet_below (by kernel_rfl) (by kernel_rfl) ?_
      repeat (go_big_quiet_step (first | (go_at_call 8; exact A1_0 _ _) | (go_at_call 18; exact A1_1 _ _) | (go_at_call 17; exact A1_2 _ _)))
      refine wpQuiet_nil ?_
      intro w7 hw7
      have hb7 : Below wr.heap.size wr w7 := by
        obtain ⟨p, rfl⟩ := hw7
        exact below_regrown _ _ _
      have HB7 := Lib.hid (HBk.out.trans (hb7.mono HBk.out.size))
      clear hw7 hb7 c0 c1 c2 c3 c4 c5 c6 c7 A1_0 A1_1 A1_2 cDayj
      go_wp2_with fail
      go_roundw
      case rel => exact ⟨j + 1, by omega, by rw [E1.out], by rw [E2.out], by rw [show S + ((j + 1 : Nat) : Int) = S + (j : Int) + 1 by omega], HB7⟩
      case measure => simp [intOf]; omega
    · have hjk : j = k + 1 := by omega
      subst hjk
      have b0 := HR3.out (k + 1) (by have := HK2.out; omega)
      have q3 : ¬ S + ((k + 1 : Nat) : Int) ≤ S + (k : Int) := by omega
      obtain ⟨A1, hA1⟩ : ∃ N, (RD (k + 1)).1 = N := ⟨_, rfl⟩
      obtain ⟨A2, hA2⟩ : ∃ N, (RD (k + 1)).2 = N := ⟨_, rfl⟩
      obtain ⟨T9, hT9⟩ : ∃ N, S + ((k + 1 : Nat) : Int) = N := ⟨_, rfl⟩
      have HX9 := HX6.out
      have HTk := Lib.hid (HT6.out.below HBk.out HT6.out.lt)
      rw [hA1, hA2] at HX9
      rw [hA1, hA2]
      rw [hA1, hA2] at b0
      rw [hT9] at q3 ⊢
      have HX9 := Lib.hid HX9
      have HXk := Lib.hid (HX9.out.below HBk.out HX9.out.lt)
      have cDu := HCD.out q wr ((HS6.out.below HBk.out).up HBk.out.size)
      clear HX9 HX6 hA1 hA2 hT9 HR1 HR2 HR3 HDY HRR HCD HCO hlt hj
      go_wp2_with fail
      refine cDu.mono ?_
      rintro e w8 ⟨A, c9, rfl, hc1, hc2, hrow, hb8⟩
      have HT8 := Lib.hid (HTk.out.below hb8 HTk.out.lt)
      have HX8 := Lib.hid (HXk.out.below hb8 HXk.out.lt)
      have HB8 := Lib.hid ((HB6.out.trans (HBk.out.mono HB6.out.size)).trans (hb8.mono (Nat.le_trans HB6.out.size HBk.out.size)))
      have HRW := Lib.hid hrow
      clear hb8 hrow HTk HXk HBk cDu HT6 HB6 HS6
      go_wp2_with fail
      go_loopw [16, 18, 72] (fun f _ i wr => ∃ j : Nat, j ≤ M ∧ f = .int .i64 (FE j) ∧ i = .int .i64 (j : Int) ∧ Hid (Below w8.heap.size w8 wr)) (fun _ _ i _ => M - (intOf i).toNat)
      case atStart => exact ⟨0, Nat.zero_le _, by rw [HF0.out], rfl, Lib.hid (Below.refl _ _)⟩
      case round =>
        obtain ⟨j, hj, rfl, rfl, HBj⟩ := hrel
        by_cases hlt : j < M
        · have HTj := HT8.out.below HBj.out HT8.out.lt
          have hjl : j < (dueL o).length := by rw [HDN.out]; exact hlt
          obtain ⟨b9, o9, rfl, hb9, hc9⟩ := (HRW.out.below HBj.out).at_ hjl
          have hv9 : (dueL o)[j] = (o.D j, o.Sm j) := Option.some.inj ((List.getElem?_eq_getElem hjl).symm.trans (HDL.out j hlt))
          rw [hv9] at hc9
          have d0 : wr.cell? ⟨b9, o9 + j * 2, none⟩ = some (.int .i32 (o.D j)) := hc9 0 _ rfl
          have d1 : wr.cell? ⟨b9, o9 + j * 2 + 1, none⟩ = some (.int .i64 (o.Sm j)) := hc9 1 _ rfl
          have x1 := HDB.out j hlt
          have x2 := HSB.out j hlt
          have x3 := HF1.out j hlt
          have x4 := HF2.out j hj
          have x5 := HF2.out (j + 1) hlt
          have x6 := HG.out
          have x7 := HF.out
          have x8 := HM.out
          obtain ⟨Dj, hDj⟩ : ∃ X, o.D j = X := ⟨_, rfl⟩
          obtain ⟨Sj, hSj⟩ : ∃ X, o.Sm j = X := ⟨_, rfl⟩
          obtain ⟨Fj, hFj⟩ : ∃ X, FE j = X := ⟨_, rfl⟩
          rw [hDj] at d0 x1 x3
          rw [hSj] at d1 x2 x3
          rw [hFj] at x3 x4 ⊢
          have hba := b_alloc wr (.cells #[.int .i32 Dj, .int .i64 Sj] 76)
          have HTa := HTj.below hba HTj.lt
          obtain ⟨c0, c1, c2, c3, c4, c5, c6, c7⟩ := blk8 HTa
          have HBa := Lib.hid (HBj.out.trans (hba.mono HBj.out.size))
          have s5 : -2147483648 ≤ Dj + G := by omega
          have s6 : Dj + G ≤ 2147483647 := by omega
          have s7 : -2147483648 ≤ G := by omega
          have s7b : G ≤ 2147483647 := by omega
          have s8 : M ≤ 480 := by omega
          clear hv9 hc9 hjl hDj hSj hFj HTj HTa hba hb9 HBj x1 x2
          by_cases t1 : Dj + G ≤ S + (k : Int)
          · by_cases t2 : 0 < Sj
            · rw [if_pos ⟨t1, t2⟩] at x3
              rw [x3] at x5
              have X3 := Lib.hid x3
              have s9 : Fj + F ≤ 9223372036854775807 := by omega
              have s10 : -9223372036854775808 ≤ Fj + F := by omega
              clear x3 x4 x5 x6 x7 x8
              go_wp2_with fail
              go_roundw
              case rel => exact ⟨j + 1, hlt, by rw [X3.out], by go_num, HBa⟩
              case measure => simp [intOf]; omega
            · rw [if_neg (fun h => t2 h.2), Int.add_zero] at x3
              have X3 := Lib.hid x3
              clear x3 x4 x5 x6 x7 x8
              go_wp2_with fail
              go_roundw
              case rel => exact ⟨j + 1, hlt, by rw [X3.out], by go_num, HBa⟩
              case measure => simp [intOf]; omega
          · rw [if_neg (fun h => t1 h.1), Int.add_zero] at x3
            have X3 := Lib.hid x3
            clear x3 x4 x5 x6 x7 x8
            go_wp2_with fail
            go_roundw
            case rel => exact ⟨j + 1, hlt, by rw [X3.out], by go_num, HBa⟩
            case measure => simp [intOf]; omega
        · have hjm : j = M := by omega
          subst hjm
          have HTj := HT8.out.below HBj.out HT8.out.lt
          have HXj := HX8.out.below HBj.out HX8.out.lt
          have HBz := Lib.hid (HB8.out.trans (HBj.out.mono HB8.out.size))
          obtain ⟨c0, c1, c2, c3, c4, c5, c6, c7⟩ := blk8 HTj
          have g0 := HXj.cell 0
          have g1 := HXj.cell 1
          have g2 := HXj.cell 2
          have g3 := HXj.cell 3
          have g7 := HXj.cell 7
          have g8 := HXj.cell 8
          simp at g0 g1 g2 g3 g7 g8
          obtain ⟨Fj, hFj⟩ : ∃ X, FE j = X := ⟨_, rfl⟩
          rw [hFj] at g0 ⊢
          clear HTj HXj HBj hFj hj hlt HRW HX8 HT8 HDN HDL HDB HSB HF1 HF2
          go_wp2_with fail
          go_ret
          exact ⟨rfl, HBz.out⟩
theorem Quiet_any {t : Trm} (hi : t.In) (n : Nat) (w : World) (hw : Lens w) (hp : Pows w) (m : Int) (hm : w.cell? ⟨3, 0, none⟩ = some (.int .i64 m)) (te : TypeId) (pe : Value) (hR : w.cell? ⟨0, 0, none⟩ = some (.iface te pe)) :
    Calls Tryz.prog 5 #[t.v, .int .u16 (n : Int)] w (Ret (.bool true) w) := by
  by_cases h : t.Right
  · obtain ⟨K, P, R, B, M, S, F, G⟩ := t
    have hP := h.P
    have hM := h.M
    dsimp only at hP hM
    obtain ⟨P', rfl⟩ := Int.eq_ofNat_of_zero_le (by omega : 0 ≤ P)
    obtain ⟨M', rfl⟩ := Int.eq_ofNat_of_zero_le (by omega : 0 ≤ M)
    exact Quiet_yes hi h n w hw hp m hm te pe hR
  · exact Quiet_no hi h n w hw hp m hm te pe hR
end Go.Proofs.YtpbfipeinblfgaaGreatDoor
