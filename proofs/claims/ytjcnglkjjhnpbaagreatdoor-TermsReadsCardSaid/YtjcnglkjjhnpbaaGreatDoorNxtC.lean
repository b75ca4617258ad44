/-
Rows of whole numbers: what they read as; what is appended to them. No condition.
The library's sort over days, XII: Sort, IsSorted, Clone; days in their order. Conditions: the days are there.
Which days are open; the first open day from one on, as the document has it. Conditions: the days are there.
Days in their order; the first open day from one on: the program's. Conditions: the days are there.
The first open day from one on, as the program tells it. Conditions: the days are there.
-/
import Derived.Test.YtjcnglkjjhnpbaaGreatDoorShutA
import Derived.Test.YtjcnglkjjhnpbaaGreatDoorDoorE
import Derived.Laws.AppendOwnNone
import Derived.Test.YtjcnglkjjhnpbaaGreatDoorSrtK
import Derived.Lib.Small
import Derived.IntWalk
namespace Go.Proofs.YtjcnglkjjhnpbaaGreatDoor
open Go.ChangeShapes Go.WideShapes Go.ChangeAt Go.RowKit

/-- A slice that reads as these values, each of one cell. -/
def Rv (w : World) (B : Nat) (A : Option Addr) (l : List Value) : Prop :=
  0 < l.length → ∃ b o, A = some ⟨b, o, none⟩ ∧ b < B ∧ ∀ (j : Nat) u, l[j]? = some u → w.cell? ⟨b, o + j, none⟩ = some u
section
variable {w w' : World} {B B' : Nat} {A : Option Addr} {l : List Value}
theorem Rv.nil_ : Rv w B A [] := fun h => absurd h (by simp)
theorem Rv.at_ {k : Nat} (h : Rv w B A l) (hk : k < l.length) : ∃ b o, A = some ⟨b, o, none⟩ ∧ b < B ∧ w.cell? ⟨b, o + k, none⟩ = some (l[k]'hk) := by
  obtain ⟨b, o, e, hb, hc⟩ := h (by omega)
  exact ⟨b, o, e, hb, hc k _ (List.getElem?_eq_getElem hk)⟩
theorem Rv.keep (h : Rv w B A l) (hk : ∀ p : Addr, p.block < B → w'.cell? p = w.cell? p) : Rv w' B A l := fun hn => by
  obtain ⟨b, o, e, hb, hc⟩ := h hn
  exact ⟨b, o, e, hb, fun j u hu => (hk _ hb).trans (hc j u hu)⟩
theorem Rv.more (h : Rv w B A l) (hB : B ≤ B') : Rv w B' A l := fun hn => by
  obtain ⟨b, o, e, hb, hc⟩ := h hn
  exact ⟨b, o, e, by omega, hc⟩
theorem Rv.below (h : Rv w B A l) (hb : Below B w w') : Rv w' B A l := h.keep fun _ hp => hb.cell hp
theorem Rv.take (h : Rv w B A l) (k : Nat) : Rv w B A (l.take k) := fun hn => by
  obtain ⟨b, o, e, hb, hc⟩ := h (by rw [List.length_take] at hn; omega)
  refine ⟨b, o, e, hb, fun j u hu => hc j u ?_⟩
  rw [List.getElem?_take] at hu
  split at hu
  · exact hu
  · cases hu
end

def encL (n : Int) : Value := .int .i32 n
theorem encL_one (l : List Int) : ∀ u ∈ l.map encL, u.oneCell' = true := by
  intro u hu
  obtain ⟨x, _, rfl⟩ := List.mem_map.1 hu
  rfl
theorem infoL : (Tryz.prog.info? 21).map (fun i => (i.zero, i.size, i.bytes)) = some (some (.int .i32 0), 1, 4) := by kernel_rfl
def OwnL (w : World) (base : Nat) (v : Value) (n : Nat) (l : List Int) : Prop := w.ownsRow base 21 1 v n (l.map encL)

theorem Rv.of_ownL {w : World} {base n c : Nat} {A : Option Addr} {l : List Int} (h : OwnL w base (.slice A n c) n l) : Rv w w.heap.size A (l.map encL) := fun hn => by
  rw [List.length_map] at hn
  have hln : l.length = n := by have := h.1; simpa using this
  obtain ⟨g, cap, hv, _, hlt⟩ := World.ownsRow.form h (by omega)
  have hA : A = some ⟨g, 0, none⟩ := by injection hv
  subst hA
  refine ⟨g, 0, rfl, hlt, fun j u hu => ?_⟩
  have := World.ownsRow.cells h (g := g) rfl j u hu
  simpa [go_sem] using this
theorem own_formL {w : World} {base : Nat} {v : Value} {n : Nat} {l : List Int} (h : OwnL w base v n l) :
    l.length = n ∧ ∃ A c, v = .slice A n c ∧ n ≤ c ∧ c ≤ maxLen ∧ Rv w w.heap.size A (l.map encL) := by
  have hl : l.length = n := by have := h.1; simpa using this
  refine ⟨hl, ?_⟩
  rcases h.2 with ⟨rfl, rfl⟩ | ⟨g, cap, cur, rfl, _, _, hnc, hcm, _⟩
  · exact ⟨_, _, rfl, Nat.le_refl _, by decide, by obtain rfl : l = [] := List.eq_nil_of_length_eq_zero hl; exact Rv.nil_⟩
  · exact ⟨_, _, rfl, hnc, hcm, Rv.of_ownL h⟩

section
variable {H : Type} {enc : TypeId × Value → H} {W : World}
theorem cellsL : Tryz.prog.cellsOf 21 = 1 := by kernel_rfl
theorem bytesL : Tryz.prog.bytesOf 21 = 4 := by kernel_rfl
end
def encH (n : Int) : Value := .int .i32 n
theorem encH_one (l : List Int) : ∀ u ∈ l.map encH, u.oneCell' = true := by
  intro u hu
  obtain ⟨x, _, rfl⟩ := List.mem_map.1 hu
  rfl
theorem infoH : (Tryz.prog.info? 26).map (fun i => (i.zero, i.size, i.bytes)) = some (some (.int .i32 0), 1, 4) := by kernel_rfl
def OwnH (w : World) (base : Nat) (v : Value) (n : Nat) (l : List Int) : Prop := w.ownsRow base 26 1 v n (l.map encH)

theorem appendH_void (w : World) (base : Nat) (ty : TypeId) (v : Value) (n : Nat) (l : List Int) (hown : OwnH w base v n l) (A : Option Addr) (c : Nat) :
    (Builtin.append_ #[36, 36] ty #[v, .slice A 0 c]).run Tryz.prog w = .ok v w := by
  obtain ⟨i0, hi, hz0, hz1, hz2⟩ := info_parts infoH
  unfold OwnH at hown
  cases A <;> rcases hown.2 with ⟨rfl, rfl⟩ | ⟨g, cap, cur, rfl, _, _, hnc, _⟩ <;>
    simp [Builtin.append_, run_underlying Tryz.underlying36, sizeOf, typeInfo, Builtin.lenOf, Builtin.firstCells, storeCells, loadCells, loadCellsFrom, *]
theorem appendH (w : World) (base : Nat) (ty : TypeId) (v : Value) (n : Nat) (l : List Int) (hown : OwnH w base v n l) (B : Nat) (A : Option Addr) (m c : Nat) (news : List Int)
    (hR : Rv w B A (news.map encH)) (hm : news.length = m) (hsz : n + m ≤ 1000) (hbase : base ≤ w.heap.size) :
    ∃ v' w', (Builtin.append_ #[36, 36] ty #[v, .slice A m c]).run Tryz.prog w = .ok v' w' ∧ OwnH w' base v' (n + m) (l ++ news) ∧ w.grownBy w' v.ownBlock := by
  rcases Nat.eq_zero_or_pos m with h0 | h0
  · subst h0
    obtain rfl : news = [] := List.eq_nil_of_length_eq_zero hm
    exact ⟨v, w, appendH_void w base ty v n _ hown A c, by simpa using hown, grown_refl _ _⟩
  · obtain ⟨b, o, rfl, _, hc⟩ := hR (by rw [List.length_map]; omega)
    obtain ⟨i0, hi, hz0, hz1, hz2⟩ := info_parts infoH
    obtain ⟨v', w', hr, h2, h3, _⟩ := run_append_own (P := Tryz.prog) w base 36 ty 26 i0 (.int .i32 0) 1 4 Tryz.underlying36 hi hz0 hz1 hz2 rfl (by decide) v n (l.map encH) hown
      ⟨b, o, none⟩ m c (news.map encH) (by simpa using hm) (fun j u hu => by simpa [go_sem] using hc j u hu) (encH_one news) (by unfold maxLen; omega) (by omega) hbase
    exact ⟨v', w', hr, by unfold OwnH; rw [List.map_append]; exact h2, h3⟩
theorem wpList_appendH {w : World} {ops : Array Oper} {rest : List Oper} {o : Oper} {a : Act} {Q : Exit → Act → World → Prop} (hgd : o.guard = Option.none) (s x : Operand)
    (ho : o.op = .call { callee := .builtin .append, args := #[s, x], argTypes := #[36, 36] })
    (base : Nat) (v : Value) (n : Nat) (l : List Int) (hs : a.eval s = v) (hown : OwnH w base v n l)
    (B : Nat) (A : Option Addr) (m c : Nat) (news : List Int) (hx : a.eval x = .slice A m c) (hR : Rv w B A (news.map encH)) (hm : news.length = m) (hsz : n + m ≤ 1000) (hbase : base ≤ w.heap.size)
    (h : ∀ v' w', OwnH w' base v' (n + m) (l ++ news) → w.grownBy w' v.ownBlock → wpList Tryz.prog ops Q rest (a.put o.dst v') w') : wpList Tryz.prog ops Q (o :: rest) a w := by
  refine wpList_plain hgd fun _ hK => ?_
  obtain ⟨v', w', hr, h2, h3⟩ := appendH w base o.type v n l hown B A m c news hR hm hsz hbase
  unfold Oper.wp execOp
  simp only [ho, resolve, invoke, builtin, Sem.run_bind, Sem.run_pure, Result.andThen_ok, List.map_toArray, List.map_cons, List.map_nil, hs, hx, hr]
  exact hK _ _ (h v' w' h2 h3)
theorem Rv.of_ownH {w : World} {base n c : Nat} {A : Option Addr} {l : List Int} (h : OwnH w base (.slice A n c) n l) : Rv w w.heap.size A (l.map encH) := fun hn => by
  rw [List.length_map] at hn
  have hln : l.length = n := by have := h.1; simpa using this
  obtain ⟨g, cap, hv, _, hlt⟩ := World.ownsRow.form h (by omega)
  have hA : A = some ⟨g, 0, none⟩ := by injection hv
  subst hA
  refine ⟨g, 0, rfl, hlt, fun j u hu => ?_⟩
  have := World.ownsRow.cells h (g := g) rfl j u hu
  simpa [go_sem] using this
theorem own_formH {w : World} {base : Nat} {v : Value} {n : Nat} {l : List Int} (h : OwnH w base v n l) :
    l.length = n ∧ ∃ A c, v = .slice A n c ∧ n ≤ c ∧ c ≤ maxLen ∧ Rv w w.heap.size A (l.map encH) := by
  have hl : l.length = n := by have := h.1; simpa using this
  refine ⟨hl, ?_⟩
  rcases h.2 with ⟨rfl, rfl⟩ | ⟨g, cap, cur, rfl, _, _, hnc, hcm, _⟩
  · exact ⟨_, _, rfl, Nat.le_refl _, by decide, by obtain rfl : l = [] := List.eq_nil_of_length_eq_zero hl; exact Rv.nil_⟩
  · exact ⟨_, _, rfl, hnc, hcm, Rv.of_ownH h⟩

def encN (n : Int) : Value := .int .i64 n
theorem encN_one (l : List Int) : ∀ u ∈ l.map encN, u.oneCell' = true := by
  intro u hu
  obtain ⟨x, _, rfl⟩ := List.mem_map.1 hu
  rfl
theorem infoN : (Tryz.prog.info? 3).map (fun i => (i.zero, i.size, i.bytes)) = some (some (.int .i64 0), 1, 8) := by kernel_rfl
def OwnN (w : World) (base : Nat) (v : Value) (n : Nat) (l : List Int) : Prop := w.ownsRow base 3 1 v n (l.map encN)

theorem appendN_void (w : World) (base : Nat) (ty : TypeId) (v : Value) (n : Nat) (l : List Int) (hown : OwnN w base v n l) (A : Option Addr) (c : Nat) :
    (Builtin.append_ #[37, 37] ty #[v, .slice A 0 c]).run Tryz.prog w = .ok v w := by
  obtain ⟨i0, hi, hz0, hz1, hz2⟩ := info_parts infoN
  unfold OwnN at hown
  cases A <;> rcases hown.2 with ⟨rfl, rfl⟩ | ⟨g, cap, cur, rfl, _, _, hnc, _⟩ <;>
    simp [Builtin.append_, run_underlying Tryz.underlying37, sizeOf, typeInfo, Builtin.lenOf, Builtin.firstCells, storeCells, loadCells, loadCellsFrom, *]
theorem appendN (w : World) (base : Nat) (ty : TypeId) (v : Value) (n : Nat) (l : List Int) (hown : OwnN w base v n l) (B : Nat) (A : Option Addr) (m c : Nat) (news : List Int)
    (hR : Rv w B A (news.map encN)) (hm : news.length = m) (hsz : n + m ≤ 1000) (hbase : base ≤ w.heap.size) :
    ∃ v' w', (Builtin.append_ #[37, 37] ty #[v, .slice A m c]).run Tryz.prog w = .ok v' w' ∧ OwnN w' base v' (n + m) (l ++ news) ∧ w.grownBy w' v.ownBlock := by
  rcases Nat.eq_zero_or_pos m with h0 | h0
  · subst h0
    obtain rfl : news = [] := List.eq_nil_of_length_eq_zero hm
    exact ⟨v, w, appendN_void w base ty v n _ hown A c, by simpa using hown, grown_refl _ _⟩
  · obtain ⟨b, o, rfl, _, hc⟩ := hR (by rw [List.length_map]; omega)
    obtain ⟨i0, hi, hz0, hz1, hz2⟩ := info_parts infoN
    obtain ⟨v', w', hr, h2, h3, _⟩ := run_append_own (P := Tryz.prog) w base 37 ty 3 i0 (.int .i64 0) 1 8 Tryz.underlying37 hi hz0 hz1 hz2 rfl (by decide) v n (l.map encN) hown
      ⟨b, o, none⟩ m c (news.map encN) (by simpa using hm) (fun j u hu => by simpa [go_sem] using hc j u hu) (encN_one news) (by unfold maxLen; omega) (by omega) hbase
    exact ⟨v', w', hr, by unfold OwnN; rw [List.map_append]; exact h2, h3⟩
theorem wpList_appendN {w : World} {ops : Array Oper} {rest : List Oper} {o : Oper} {a : Act} {Q : Exit → Act → World → Prop} (hgd : o.guard = Option.none) (s x : Operand)
    (ho : o.op = .call { callee := .builtin .append, args := #[s, x], argTypes := #[37, 37] })
    (base : Nat) (v : Value) (n : Nat) (l : List Int) (hs : a.eval s = v) (hown : OwnN w base v n l)
    (B : Nat) (A : Option Addr) (m c : Nat) (news : List Int) (hx : a.eval x = .slice A m c) (hR : Rv w B A (news.map encN)) (hm : news.length = m) (hsz : n + m ≤ 1000) (hbase : base ≤ w.heap.size)
    (h : ∀ v' w', OwnN w' base v' (n + m) (l ++ news) → w.grownBy w' v.ownBlock → wpList Tryz.prog ops Q rest (a.put o.dst v') w') : wpList Tryz.prog ops Q (o :: rest) a w := by
  refine wpList_plain hgd fun _ hK => ?_
  obtain ⟨v', w', hr, h2, h3⟩ := appendN w base o.type v n l hown B A m c news hR hm hsz hbase
  unfold Oper.wp execOp
  simp only [ho, resolve, invoke, builtin, Sem.run_bind, Sem.run_pure, Result.andThen_ok, List.map_toArray, List.map_cons, List.map_nil, hs, hx, hr]
  exact hK _ _ (h v' w' h2 h3)
theorem Rv.of_ownN {w : World} {base n c : Nat} {A : Option Addr} {l : List Int} (h : OwnN w base (.slice A n c) n l) : Rv w w.heap.size A (l.map encN) := fun hn => by
  rw [List.length_map] at hn
  have hln : l.length = n := by have := h.1; simpa using this
  obtain ⟨g, cap, hv, _, hlt⟩ := World.ownsRow.form h (by omega)
  have hA : A = some ⟨g, 0, none⟩ := by injection hv
  subst hA
  refine ⟨g, 0, rfl, hlt, fun j u hu => ?_⟩
  have := World.ownsRow.cells h (g := g) rfl j u hu
  simpa [go_sem] using this
theorem own_formN {w : World} {base : Nat} {v : Value} {n : Nat} {l : List Int} (h : OwnN w base v n l) :
    l.length = n ∧ ∃ A c, v = .slice A n c ∧ n ≤ c ∧ c ≤ maxLen ∧ Rv w w.heap.size A (l.map encN) := by
  have hl : l.length = n := by have := h.1; simpa using this
  refine ⟨hl, ?_⟩
  rcases h.2 with ⟨rfl, rfl⟩ | ⟨g, cap, cur, rfl, _, _, hnc, hcm, _⟩
  · exact ⟨_, _, rfl, Nat.le_refl _, by decide, by obtain rfl : l = [] := List.eq_nil_of_length_eq_zero hl; exact Rv.nil_⟩
  · exact ⟨_, _, rfl, hnc, hcm, Rv.of_ownN h⟩

end Go.Proofs.YtjcnglkjjhnpbaaGreatDoor
namespace Go.Proofs.YtjcnglkjjhnpbaaGreatDoor
open Go.RowKit
open Go.Sort (putRow Holds swp ltInt PermIn SortedIn)

set_option maxRecDepth 20000 in
theorem Sort9 (n blk off cap : Nat) (d : Array Int) (w : World) (hn : d.size = n) (hH : Holds eD w blk off d) (hblk : blk < w.heap.size) (hsz : n ≤ 1000000) :
    Calls Tryz.prog 156 #[.slice (some ⟨blk, off, none⟩) n cap] w fun e w' => e = .returned (.tuple #[]) ∧ ∃ d', PermIn 0 n d d' ∧ SortedIn ltInt 0 n d' ∧ At9 w blk off d' w' := by
  have hC := Pdq9 n blk off cap hsz (n + 1) 0 n (Lib.bitLen n) d w (by omega) hn hH hblk (by omega) (Nat.le_refl _) (by have := bit_le hsz; omega) (.inl rfl)
  have hL := Len9 n hsz w
  generalize Lib.bitLen n = k at hC hL
  go_enter Tryz.func156, Tryz.ntmps156
  go_wp2_with fail
  refine hL.mono ?_
  rintro e w' ⟨rfl, rfl⟩
  go_wp2_with fail
  refine hC.mono ?_
  rintro e w2 ⟨rfl, d', hp, hs, hA⟩
  have HP := Lib.hid hp
  have HS := Lib.hid hs
  have HA := Lib.hid hA
  clear hp hs hA hC hL
  go_wp2_with fail
  go_end0
  exact ⟨rfl, d', HP.out, HS.out, HA.out⟩

/-- Days that rise (two may be the same). -/
def Ris (l : List Int) : Prop := ∀ i, i + 1 < l.length → l.getD i 0 ≤ l.getD (i + 1) 0
def IsRel (l : List Int) (n : Nat) (w : World) (x : Value) (w' : World) : Prop := ∃ k q : Nat, x = .int .i64 ((k : Int) - 1) ∧ k ≤ n ∧ w' = w.drewN q ∧ ∀ i, k ≤ i + 1 → i + 1 < n → l.getD i 0 ≤ l.getD (i + 1) 0
def IsPost (l : List Int) (w : World) (e : Ending) (w' : World) : Prop := ∃ b : Bool, e = .returned (.bool b) ∧ (b = true → Ris l) ∧ (b = false → 2 ≤ l.length) ∧ ∃ q, w' = w.drewN q
set_option maxRecDepth 20000 in
set_option maxHeartbeats 1000000 in
theorem IsS9 (A : Option Addr) (n c B : Nat) (l : List Int) (w : World) (hR : Rv w B A (l.map encH)) (hn : l.length = n) (hm : n ≤ 1000000) :
    Calls Tryz.prog 154 #[.slice A n c] w (IsPost l w) := by
  have HR := Lib.hid hR
  have HN := Lib.hid hn
  clear hR hn
  go_enter Tryz.func154, Tryz.ntmps154
  go_wp2
  go_loopw [3] (IsRel l n w) (fun x _ => (intOf x + 1).toNat)
  case atStart => exact ⟨n, 0, rfl, Nat.le_refl _, rfl, fun i h1 h2 => by omega⟩
  case round =>
    obtain ⟨k, q, rfl, hk, hw, hS⟩ := hrel
    have HW := Lib.hid hw
    have HS := Lib.hid hS
    clear hw hS
    by_cases h2 : 2 ≤ k
    · obtain ⟨k, rfl⟩ : ∃ j, k = j + 2 := ⟨k - 2, by omega⟩
      rw [show ((k + 2 : Nat) : Int) - 1 = ((k + 1 : Nat) : Int) by omega]
      have hll : k + 1 < (l.map encH).length := by rw [List.length_map, HN.out]; omega
      obtain ⟨b, o, hA, _, c1⟩ := HR.out.at_ hll
      obtain ⟨b2, o2, hA2, _, c0⟩ := HR.out.at_ (k := k) (by omega)
      rw [hA] at hA2
      injection hA2 with e1
      injection e1 with e1 e2
      subst e1 e2 hA
      have hkl : k + 1 < l.length := by rw [HN.out]; omega
      have g1 : (l.map encH)[k + 1] = .int .i32 (l.getD (k + 1) 0) := by rw [List.getElem_map, List.getD_eq_getElem?_getD, List.getElem?_eq_getElem hkl]; rfl
      have g0 : (l.map encH)[k] = .int .i32 (l.getD k 0) := by rw [List.getElem_map, List.getD_eq_getElem?_getD, List.getElem?_eq_getElem (by omega : k < l.length)]; rfl
      rw [g1] at c1
      rw [g0] at c0
      obtain ⟨x1, hx1⟩ : ∃ x, l.getD (k + 1) 0 = x := ⟨_, rfl⟩
      obtain ⟨x0, hx0⟩ : ∃ x, l.getD k 0 = x := ⟨_, rfl⟩
      rw [hx1] at c1
      rw [hx0] at c0
      have hwc1 : wr.cell? ⟨b, o + (k + 1), none⟩ = some (.int .i32 x1) := by rw [HW.out]; exact c1
      have hwc0 : wr.cell? ⟨b, o + k, none⟩ = some (.int .i32 x0) := by rw [HW.out]; exact c0
      have HX := Lib.hid (And.intro hx1 hx0)
      have hkn : k + 1 < n := by omega
      have hkn0 : k < n := by omega
      clear g1 g0 hll hkl c1 c0 hx1 hx0
      go_wp2_with fail
      go_quiet (first | (go_at_call 180; refine Calls.quiet_of_same (Less9 _ _ _)))
      go_wp2_with fail
      · go_ret
        exact ⟨false, rfl, fun h => absurd h (by decide), fun _ => by rw [HN.out]; omega, q + nq, by rw [HW.out, World.drewN_drewN]⟩
      · have hl : ltInt x1 x0 = false := by assumption
        have hle : x0 ≤ x1 := by
          have := of_decide_eq_false hl
          omega
        go_roundw
        case rel =>
          refine ⟨k + 1, q + nq, by congr 1; omega, by omega, by rw [HW.out, World.drewN_drewN], fun i h3 h4 => ?_⟩
          by_cases e : i = k
          · subst e; rw [HX.out.1, HX.out.2]; exact hle
          · exact HS.out i (by omega) h4
        case measure => simp [intOf]; omega
    · have h3 : ¬ (0 : Int) < (k : Int) - 1 := by omega
      go_wp2_with fail
      go_ret
      exact ⟨true, rfl, fun _ i h => HS.out i (by omega) (by rw [← HN.out]; exact h), fun h => absurd h (by decide), q, HW.out⟩
end Go.Proofs.YtjcnglkjjhnpbaaGreatDoor
namespace Go.Proofs.YtjcnglkjjhnpbaaGreatDoor
open Go.RowKit

/-- Is something done on a day that there is? -/
def openL (l : List Int) (x : Int) : Bool := decide (x % 7 < 5) && !l.contains x
/-- The first open day from one on, within so many days. -/
def nextL (l : List Int) : Nat → Int → Option Int
  | 0, _ => none
  | f + 1, x => if openL l x then some x else nextL l f (x + 1)
def nextD (l : List Int) (x : Int) : Option Int := nextL l (3652059 - x).toNat x
theorem nextD_yes {l : List Int} {x : Int} (h : x ≤ 3652058) (ho : openL l x = true) : nextD l x = some x := by
  unfold nextD
  obtain ⟨f, hf⟩ : ∃ f, (3652059 - x).toNat = f + 1 := ⟨(3652059 - x).toNat - 1, by omega⟩
  rw [hf]
  simp only [nextL, ho, if_true]
theorem nextD_no {l : List Int} {x : Int} (h : x ≤ 3652058) (ho : openL l x = false) : nextD l x = nextD l (x + 1) := by
  unfold nextD
  obtain ⟨f, hf⟩ : ∃ f, (3652059 - x).toNat = f + 1 := ⟨(3652059 - x).toNat - 1, by omega⟩
  rw [hf, show (3652059 - (x + 1)).toNat = f by omega]
  simp only [nextL, ho]
  rfl
theorem nextD_end {l : List Int} {x : Int} (h : 3652058 < x) : nextD l x = none := by
  unfold nextD
  rw [show (3652059 - x).toNat = 0 by omega]
  rfl
theorem nextD_in (l : List Int) : ∀ (f : Nat) (x : Int), (3652059 - x).toNat = f → ∀ y, nextD l x = some y → x ≤ y ∧ y ≤ 3652058 ∧ openL l y = true ∧ ∀ z, x ≤ z → z < y → openL l z = false := by
  intro f
  induction f with
  | zero => intro x h y hy; rw [nextD_end (by omega)] at hy; cases hy
  | succ f ih =>
    intro x h y hy
    cases ho : openL l x with
    | true =>
      rw [nextD_yes (by omega) ho] at hy
      injection hy with hy
      subst hy
      exact ⟨by omega, by omega, ho, fun z h1 h2 => by omega⟩
    | false =>
      rw [nextD_no (by omega) ho] at hy
      obtain ⟨h1, h2, h3, h4⟩ := ih (x + 1) (by omega) y hy
      exact ⟨by omega, h2, h3, fun z h5 h6 => by
        by_cases e : z = x
        · subst e; exact ho
        · exact h4 z (by omega) h6⟩

def IxRel (l : List Int) (v : Int) (x : Value) (w w' : World) : Prop := ∃ k : Nat, x = .int .i64 k ∧ k ≤ l.length ∧ w' = w ∧ ∀ i, i < k → l.getD i 0 ≠ v
theorem not_mem_of {l : List Int} {v : Int} (h : ∀ i, i < l.length → l.getD i 0 ≠ v) : l.contains v = false := by
  cases hc : l.contains v with
  | false => rfl
  | true =>
    have hm : v ∈ l := by simpa using hc
    obtain ⟨i, hi, e⟩ := List.getElem_of_mem hm
    exact absurd (by rw [List.getD_eq_getElem?_getD, List.getElem?_eq_getElem hi]; exact e) (h i hi)
theorem mem_of {l : List Int} {v : Int} {i : Nat} (hi : i < l.length) (h : l.getD i 0 = v) : l.contains v = true := by
  rw [List.getD_eq_getElem?_getD, List.getElem?_eq_getElem hi] at h
  have : v ∈ l := by rw [← h]; exact List.getElem_mem hi
  simpa using this
theorem rv_at {w : World} {B : Nat} {A : Option Addr} {l : List Int} (hR : Rv w B A (l.map encH)) {k : Nat} (hk : k < l.length) : ∃ b o, A = some ⟨b, o, none⟩ ∧ b < B ∧ w.cell? ⟨b, o + k, none⟩ = some (.int .i32 (l.getD k 0)) := by
  obtain ⟨b, o, hA, hb, c1⟩ := hR.at_ (k := k) (by rw [List.length_map]; exact hk)
  have g1 : (l.map encH)[k]'(by rw [List.length_map]; exact hk) = .int .i32 (l.getD k 0) := by rw [List.getElem_map, List.getD_eq_getElem?_getD, List.getElem?_eq_getElem hk]; rfl
  rw [g1] at c1
  exact ⟨b, o, hA, hb, c1⟩
theorem rv_atN {w : World} {B : Nat} {A : Option Addr} {l : List Int} (hR : Rv w B A (l.map encN)) {k : Nat} (hk : k < l.length) : ∃ b o, A = some ⟨b, o, none⟩ ∧ b < B ∧ w.cell? ⟨b, o + k, none⟩ = some (.int .i64 (l.getD k 0)) := by
  obtain ⟨b, o, hA, hb, c1⟩ := hR.at_ (k := k) (by rw [List.length_map]; exact hk)
  have g1 : (l.map encN)[k]'(by rw [List.length_map]; exact hk) = .int .i64 (l.getD k 0) := by rw [List.getElem_map, List.getD_eq_getElem?_getD, List.getElem?_eq_getElem hk]; rfl
  rw [g1] at c1
  exact ⟨b, o, hA, hb, c1⟩
set_option maxRecDepth 20000 in
theorem Index9 (A : Option Addr) (n c B : Nat) (l : List Int) (v : Int) (w : World) (hR : Rv w B A (l.map encH)) (hn : l.length = n) (hm : n ≤ 1000000) :
    Calls Tryz.prog 87 #[.slice A n c, .int .i32 v] w fun e w' => ∃ z : Int, e = .returned (.int .i64 z) ∧ decide (0 ≤ z) = l.contains v ∧ w' = w := by
  have HR := Lib.hid hR
  have HN := Lib.hid hn
  clear hR hn
  go_enter Tryz.func87, Tryz.ntmps87
  go_wp2
  go_loopw [8] (fun x w' => IxRel l v x w w') (fun x _ => n - (intOf x).toNat)
  case atStart => exact ⟨0, rfl, Nat.zero_le _, rfl, fun i h => absurd h (by omega)⟩
  case round =>
    obtain ⟨k, rfl, hk, rfl, hS⟩ := hrel
    have hkn : k ≤ n := by rw [HN.out] at hk; exact hk
    have HS := Lib.hid hS
    clear hS hk
    by_cases hlt : k < n
    · obtain ⟨b, o, rfl, _, c1⟩ := rv_at HR.out (k := k) (by rw [HN.out]; exact hlt)
      obtain ⟨x1, hx1⟩ : ∃ x, l.getD k 0 = x := ⟨_, rfl⟩
      rw [hx1] at c1
      have HX := Lib.hid hx1
      clear hx1
      go_wp2_with fail
      · go_ret
        have e : v = x1 := by simpa using (show (v == x1) = true by assumption)
        exact ⟨_, rfl, by rw [mem_of (i := k) (by rw [HN.out]; exact hlt) (by rw [HX.out, e])]; simp, rfl⟩
      · have e : ¬ v = x1 := by simpa using (show (v == x1) = false by assumption)
        go_roundw
        case rel => exact ⟨k + 1, by go_num, by rw [HN.out]; omega, rfl, fun i hi => by
          by_cases e2 : i = k
          · subst e2; rw [HX.out]; exact fun h => e h.symm
          · exact HS.out i (by omega)⟩
        case measure => simp [intOf]; omega
    · have hkn2 : k = n := by omega
      subst hkn2
      go_wp2_with fail
      go_ret
      exact ⟨_, rfl, by rw [not_mem_of fun i hi => HS.out i (by rw [← HN.out]; exact hi)]; rfl, rfl⟩
set_option maxRecDepth 20000 in
theorem Contains9 (A : Option Addr) (n c B : Nat) (l : List Int) (v : Int) (w : World) (hR : Rv w B A (l.map encH)) (hn : l.length = n) (hm : n ≤ 1000000) :
    Calls Tryz.prog 44 #[.slice A n c, .int .i32 v] w fun e w' => e = .returned (.bool (l.contains v)) ∧ w' = w := by
  have hC := Index9 A n c B l v w hR hn hm
  generalize l.contains v = q at hC
  clear hR
  go_enter Tryz.func44, Tryz.ntmps44
  go_wp2_with fail
  refine hC.mono ?_
  rintro e w' ⟨z, rfl, rfl, rfl⟩
  go_wp2_with fail
  go_ret
  exact ⟨rfl, rfl⟩
set_option maxRecDepth 20000 in
theorem worked9 (d : Int) (w : World) : Calls Tryz.prog 43 #[.int .i32 d] w fun e w' => e = .returned (.bool (dayB d && decide (d % 7 < 5))) ∧ w' = w := by
  by_cases h : 0 ≤ d ∧ d ≤ 3652058
  · have hW := Week_any d h.1 h.2 w
    have hR := DRight_any d w
    have e : dayB d = true := day_yes h.1 h.2
    rw [e] at hR ⊢
    go_enter Tryz.func43, Tryz.ntmps43
    go_wp2_with fail
    refine hR.mono ?_
    rintro e w' ⟨rfl, rfl⟩
    go_wp2_with fail
    refine hW.mono ?_
    rintro e w' ⟨rfl, rfl⟩
    go_wp2_with fail
    go_ret
    exact ⟨rfl, rfl⟩
  · have hR := DRight_any d w
    have e : dayB d = false := day_no (by omega)
    rw [e] at hR ⊢
    go_enter Tryz.func43, Tryz.ntmps43
    go_wp2_with fail
    refine hR.mono ?_
    rintro e w' ⟨rfl, rfl⟩
    go_wp2_with fail
    go_ret
    exact ⟨rfl, rfl⟩
set_option maxRecDepth 20000 in
theorem Open9 (A : Option Addr) (n c B : Nat) (l : List Int) (d : Int) (w : World) (hR : Rv w B A (l.map encH)) (hn : l.length = n) (hm : n ≤ 1000000) :
    Calls Tryz.prog 15 #[.slice A n c, .int .i32 d] w fun e w' => e = .returned (.bool (dayB d && openL l d)) ∧ w' = w := by
  have hC := Contains9 A n c B l d w hR hn hm
  have hW := worked9 d w
  have e : (dayB d && openL l d) = ((dayB d && decide (d % 7 < 5)) && !l.contains d) := by unfold openL; rw [Bool.and_assoc]
  rw [e]
  clear e hR
  generalize l.contains d = q at hC ⊢
  generalize (dayB d && decide (d % 7 < 5)) = p at hW ⊢
  go_enter Tryz.func15, Tryz.ntmps15
  go_wp2_with fail
  refine hW.mono ?_
  rintro e w' ⟨rfl, rfl⟩
  rcases p with _ | _
  · go_wp2_with fail
    go_ret
    exact ⟨rfl, rfl⟩
  · go_wp2_with fail
    refine hC.mono ?_
    rintro e w' ⟨rfl, rfl⟩
    go_wp2_with fail
    go_ret
    exact ⟨by rw [Bool.true_and]; rfl, rfl⟩
set_option maxRecDepth 20000 in
theorem ROpen9 (A : Option Addr) (n c B : Nat) (l : List Int) (d : Int) (w : World) (hR : Rv w B A (l.map encN)) (hn : l.length = n) (hm : n ≤ 1000000) (hd : 0 ≤ d ∧ d ≤ 4000000) :
    Calls Tryz.prog 85 #[.slice A n c, .int .i64 d] w fun e w' => e = .returned (.bool (openL l d)) ∧ w' = w := by
  have HR := Lib.hid hR
  have HN := Lib.hid hn
  clear hR hn
  have e7 : d.tmod 7 = d % 7 := Int.tmod_eq_emod_of_nonneg hd.1
  go_enter Tryz.func85, Tryz.ntmps85
  go_wp2
  go_loopw [9] (fun x w' => IxRel l d x w w') (fun x _ => n - (intOf x).toNat)
  case atStart => exact ⟨0, rfl, Nat.zero_le _, rfl, fun i h => absurd h (by omega)⟩
  case round =>
    obtain ⟨k, rfl, hk, rfl, hS⟩ := hrel
    have hkn : k ≤ n := by rw [HN.out] at hk; exact hk
    have HS := Lib.hid hS
    clear hS hk
    by_cases hlt : k < n
    · obtain ⟨b, o, rfl, _, c1⟩ := rv_atN HR.out (k := k) (by rw [HN.out]; exact hlt)
      obtain ⟨x1, hx1⟩ : ∃ x, l.getD k 0 = x := ⟨_, rfl⟩
      rw [hx1] at c1
      have HX := Lib.hid hx1
      clear hx1
      go_wp2_with fail
      · go_ret
        have e : x1 = d := by simpa using (show (x1 == d) = true by assumption)
        exact ⟨by unfold openL; rw [mem_of (i := k) (by rw [HN.out]; exact hlt) (by rw [HX.out, e])]; simp, rfl⟩
      · have e : ¬ x1 = d := by simpa using (show (x1 == d) = false by assumption)
        go_roundw
        case rel => exact ⟨k + 1, by go_num, by rw [HN.out]; omega, rfl, fun i hi => by
          by_cases e2 : i = k
          · subst e2; rw [HX.out]; exact e
          · exact HS.out i (by omega)⟩
        case measure => simp [intOf]; omega
    · have hkn2 : k = n := by omega
      subst hkn2
      go_wp2_with fail
      go_ret
      refine ⟨?_, rfl⟩
      unfold openL
      rw [not_mem_of fun i hi => HS.out i (by rw [← HN.out]; exact hi)]
      simp
def RnRel (l : List Int) (d : Int) (w : World) (x : Value) (w' : World) : Prop := ∃ y : Int, x = .int .i64 y ∧ d ≤ y ∧ y ≤ 3652059 ∧ w' = w ∧ nextD l y = nextD l d
set_option maxRecDepth 20000 in
theorem RNext9 (A : Option Addr) (n c B : Nat) (l : List Int) (d : Int) (w : World) (hR : Rv w B A (l.map encN)) (hn : l.length = n) (hm : n ≤ 1000000) (hd : 0 ≤ d ∧ d ≤ 3652058) :
    Calls Tryz.prog 42 #[.slice A n c, .int .i64 d] w fun e w' => e = .returned (.int .i64 ((nextD l d).getD (-1))) ∧ w' = w := by
  have HR := Lib.hid hR
  have HN := Lib.hid hn
  clear hR hn
  go_enter Tryz.func42, Tryz.ntmps42
  go_wp2
  go_loopw [1] (RnRel l d w) (fun x _ => (3652059 - intOf x).toNat)
  case atStart => exact ⟨d, rfl, by omega, by omega, rfl, rfl⟩
  case round =>
    obtain ⟨y, rfl, h1, h2, rfl, hN⟩ := hrel
    have HX := Lib.hid hN
    clear hN
    by_cases hy : y ≤ 3652058
    · have hC := ROpen9 A n c B l y wr HR.out HN.out hm ⟨by omega, by omega⟩
      obtain ⟨o, ho⟩ : ∃ o, openL l y = o := ⟨_, rfl⟩
      rw [ho] at hC
      have HO := Lib.hid ho
      have HC := Lib.hid hC
      clear ho hC
      go_wp2_with fail
      refine HC.out.mono ?_
      rintro e w' ⟨rfl, rfl⟩
      rcases o with _ | _
      · go_wp2_with fail
        go_roundw
        case rel => exact ⟨y + 1, rfl, by omega, by omega, rfl, by rw [← nextD_no hy HO.out]; exact HX.out⟩
        case measure => simp [intOf]; omega
      · go_wp2_with fail
        go_ret
        rw [← HX.out, nextD_yes hy HO.out]
        exact ⟨rfl, rfl⟩
    · go_wp2_with fail
      go_ret
      rw [← HX.out, nextD_end (by omega)]
      exact ⟨rfl, rfl⟩
end Go.Proofs.YtjcnglkjjhnpbaaGreatDoor
namespace Go.Proofs.YtjcnglkjjhnpbaaGreatDoor
open Go.RowKit
open Go.Sort (putRow Holds swp ltInt PermIn SortedIn)

set_option maxRecDepth 100000 in
set_option maxHeartbeats 1000000 in
theorem CloneH_any (ad : Addr) (n c : Nat) (X : List Value) (w : World) (hn : X.length = n * 1) (hX : ∀ j u, X[j]? = some u → w.cell? (ad.add j) = some u) (h1 : ∀ u ∈ X, u.oneCell' = true) (hm : n ≤ 1000000) :
    Calls Tryz.prog 155 #[.slice (some ad) n c] w fun e w' => ∃ g cap, e = .returned (.slice (some ⟨g, 0, none⟩) n cap) ∧ w'.ownsRow w.heap.size 26 1 (.slice (some ⟨g, 0, none⟩) n cap) n X ∧ Below w.heap.size w w' := by
  have heq := fun W : World => Lib.run_eql_slice_nil W 36 26 (some ad) n c 0 0 Tryz.underlying36
  obtain ⟨i0, hi, hz0, hz1, hz2⟩ := info_parts infoH
  have HO : Hid ((w.alloc (.cells #[] 26)).ownsRow w.heap.size 26 1 (.slice (some ⟨w.heap.size, 0, none⟩) 0 0) 0 []) := Lib.hid (World.ownsRow_lit w #[] 0 (Nat.le_refl _) (by decide) (by simp))
  have HX : Hid (∀ j u, X[j]? = some u → (w.alloc (.cells #[] 26)).cell? (ad.add j) = some u) := Lib.hid fun j u hu => by
    have h := hX j u hu
    rw [World.cell?_alloc_lt _ _ _ (World.block_lt_of_cell? w _ h)]
    exact h
  have H1 := Lib.hid h1
  have HN := Lib.hid hn
  have HI := Lib.hid (And.intro hi (And.intro hz0 (And.intro hz1 hz2)))
  clear hX h1 hn hi hz0 hz1 hz2
  go_enter Tryz.func155, Tryz.ntmps155
  go_wp2_with (with_reducible refine wpList_append_own_at _ (o := ⟨some 7, _, _, _, _, _⟩) rfl (.tmp 5) (.tmp 6) 36 rfl w.heap.size 26 i0 (.int .i32 0) 1 4 Tryz.underlying36 HI.out.1 HI.out.2.1 HI.out.2.2.1 HI.out.2.2.2 ?hz (by decide) (.slice (some ⟨w.heap.size, 0, none⟩) 0 0) 0 [] ?h1 HO.out ad n c X ?h2 HN.out HX.out H1.out ?h3 ?h4 ?h5 ?_)
  case hz => rfl
  case h1 => rfl
  case h2 => rfl
  case h3 => unfold maxLen; omega
  case h4 => omega
  case h5 => simp
  intro v' w1 hown hg hnil hloc
  have hb : Below w.heap.size w w1 := ((Below.refl _ w).alloc (Nat.le_refl _) _).grown hg (by simp) (fun k hk => by have hk : some w.heap.size = some k := hk; injection hk with hk; omega)
  have hform : ∃ g cap, v' = .slice (some ⟨g, 0, none⟩) n cap := by
    rcases hown.2 with ⟨hv, _⟩ | ⟨g, cap, cur, hv, _⟩
    · exact absurd hv hnil
    · exact ⟨g, cap, hv⟩
  obtain ⟨g, cap, rfl⟩ := hform
  have HOW := Lib.hid hown
  have HB := Lib.hid hb
  clear hown hg hnil hloc hb heq HX HO HI
  go_wp2
  go_ret
  exact ⟨g, cap, rfl, HOW.out, HB.out⟩
theorem own_blkH {w : World} {base k n cap g : Nat} {e : TypeId} {X : List Value} (h : w.ownsRow base e k (.slice (some ⟨g, 0, none⟩) n cap) n X) : ∃ tl, Blk w g e (X.toArray ++ tl) ∧ base ≤ g ∧ n ≤ cap := by
  rcases h.2 with ⟨hv, _⟩ | ⟨g', cap', cur, hv, hb, hg, hnc, _, _, ht⟩
  · cases hv
  · injection hv with hv _ hcp
    injection hv with hv
    injection hv with hv _ _
    subst hv hcp
    refine ⟨(cur.toList.drop (n * k)).toArray, ?_, hb, hnc⟩
    have e : cur = X.toArray ++ (cur.toList.drop (n * k)).toArray := by
      apply Array.toList_inj.1
      rw [Array.toList_append, ← ht]
      exact (List.take_append_drop _ _).symm
    rw [← e]
    exact hg
theorem holds_blk {w : World} {g : Nat} {e : TypeId} {l : List Int} {tl : Array Value} (h : Blk w g e ((l.map encH).toArray ++ tl)) : Holds eD w g 0 l.toArray := fun j hj => by
  have hj' : j < l.length := by simpa using hj
  refine ⟨?_, h.frozen _⟩
  rw [h.cell, Nat.zero_add, Array.getElem?_append_left (by simpa using hj')]
  simp [hj', encH]
theorem at_below {w w' : World} {g off B : Nat} {d : Array Int} (h : At9 w g off d w') (hB : B ≤ g) (hw : B ≤ w.heap.size) : Below B w w' := by
  obtain ⟨n, os, rfl⟩ := h
  refine ⟨rfl, rfl, rfl, by simp [Go.Sort.grow], fun i hi => ?_⟩
  have hi2 : i < w.heap.size := by omega
  simp only [Go.Sort.grow, Go.Sort.putRow, Go.Sort.mapBlock, Go.Sort.ahead]
  rw [Array.getElem?_append_left (by simpa using hi2), Array.getElem?_modify, if_neg (by omega)]
theorem holds_rv {w : World} {g B : Nat} {d : Array Int} (h : Holds eD w g 0 d) (hg : g < B) : Rv w B (some ⟨g, 0, none⟩) (d.toList.map encH) := fun _ => ⟨g, 0, rfl, hg, fun j u hu => by
  rw [List.getElem?_map] at hu
  cases hx : d.toList[j]? with
  | none => rw [hx] at hu; cases hu
  | some x =>
    rw [hx] at hu
    injection hu with hu
    subst hu
    have hj : j < d.size := by
      rcases Nat.lt_or_ge j d.size with h' | h'
      · exact h'
      · rw [Array.getElem?_toList, Array.getElem?_eq_none h'] at hx; cases hx
    rw [(h j hj).1]
    rw [Array.getElem?_toList, Array.getElem?_eq_getElem hj] at hx
    injection hx with hx
    rw [getElem!_pos d j hj, hx]
    rfl⟩
theorem sorted_ris {n : Nat} {d : Array Int} (hs : d.size = n) (h : SortedIn ltInt 0 n d) : Ris d.toList := fun i hi => by
  have hi' : i + 1 < d.size := by simpa using hi
  have := h i (i + 1) (Nat.zero_le _) (by omega) (by omega)
  have e := of_decide_eq_false this
  rw [getElem!_pos d (i + 1) hi', getElem!_pos d i (by omega)] at e
  rw [List.getD_eq_getElem?_getD, List.getD_eq_getElem?_getD, Array.getElem?_toList, Array.getElem?_toList, Array.getElem?_eq_getElem hi', Array.getElem?_eq_getElem (show i < d.size by omega)]
  simp only [Option.getD_some]
  omega
theorem perm_mem {n : Nat} {d d' : Array Int} (hs : d.size = n) (h : PermIn 0 n d d') : ∀ x, x ∈ d'.toList ↔ x ∈ d.toList := fun x => by
  have h3 := h.2.2
  have e1 : d'.extract 0 n = d' := by rw [← hs, ← h.1]; simp
  have e2 : d.extract 0 n = d := by rw [← hs]; simp
  rw [e1, e2] at h3
  exact h3.mem_iff
set_option maxRecDepth 20000 in
set_option maxHeartbeats 1000000 in
theorem Rising9 (A : Option Addr) (n c : Nat) (l : List Int) (w : World) (hR : Rv w w.heap.size A (l.map encH)) (hn : l.length = n) (hnc : n ≤ c) (hm : n ≤ 1000) :
    Calls Tryz.prog 117 #[.slice A n c] w fun e w' => ∃ A' c' s, e = .returned (.slice A' n c') ∧ n ≤ c' ∧ s.length = n ∧ (∀ x, x ∈ s ↔ x ∈ l) ∧ Ris s ∧ Rv w' w'.heap.size A' (s.map encH) ∧ Below w.heap.size w w' := by
  have hI := IsS9 A n c w.heap.size l w hR hn (by omega)
  have HR := Lib.hid hR
  have HN := Lib.hid hn
  clear hR hn
  go_enter Tryz.func117, Tryz.ntmps117
  go_wp2_with fail
  refine hI.mono ?_
  rintro e w1 ⟨b, rfl, hb, hb0, q, rfl⟩
  have HB := Lib.hid hb
  have HB0 := Lib.hid hb0
  clear hb hb0 hI
  rcases b with _ | _
  · by_cases h0 : 0 < n
    · obtain ⟨b0, o0, hA, _, hc⟩ := HR.out (by rw [List.length_map, HN.out]; exact h0)
      subst hA
      obtain ⟨w2, hw2⟩ : ∃ W, W = w.drewN q := ⟨_, rfl⟩
      have hb2 : Below w.heap.size w w2 := by rw [hw2]; exact below_drewN (Below.refl _ w) q
      have hC := CloneH_any ⟨b0, o0, none⟩ n c (l.map encH) w2 (by rw [List.length_map, HN.out, Nat.mul_one]) (fun j u hu => by
        rw [hw2]
        have := hc j u hu
        simpa [go_sem] using this) (encH_one l) (by omega)
      rw [← hw2]
      have HB2 := Lib.hid hb2
      have HC := Lib.hid hC
      clear hw2 hb2 hC hc
      go_wp2_with fail
      refine HC.out.mono ?_
      rintro e w3 ⟨g, cap, rfl, ho, hb3⟩
      obtain ⟨tl, hbk, hg, hnc3⟩ := own_blkH ho
      have hS := Sort9 n g 0 cap l.toArray w3 (by simpa using HN.out) (holds_blk hbk) hbk.lt (by omega)
      have HS := Lib.hid hS
      have HBK := Lib.hid hbk
      have HB3 := Lib.hid (HB2.out.trans (hb3.mono HB2.out.size))
      have hgw : w.heap.size ≤ g := Nat.le_trans HB2.out.size hg
      have HG := Lib.hid hgw
      clear ho hb3 hbk hS hg HC hgw
      go_wp2_with fail
      refine HS.out.mono ?_
      rintro e w4 ⟨rfl, d', hp, hs, hA⟩
      have hsz : d'.size = n := hp.1.trans (by simpa using HN.out)
      have hlz : (l.toArray).size = n := by simpa using HN.out
      obtain ⟨hH4, hg4⟩ := At9.lies (show At9 w3 g 0 d' w4 from hA) (holds_blk HBK.out) hlz hsz HBK.out.lt
      have HRES : Hid (n ≤ cap ∧ d'.toList.length = n ∧ (∀ x, x ∈ d'.toList ↔ x ∈ l) ∧ Ris d'.toList ∧ Rv w4 w4.heap.size (some ⟨g, 0, none⟩) (d'.toList.map encH) ∧ Below w.heap.size w w4) := Lib.hid ⟨hnc3, by simpa using hsz, fun x => by rw [perm_mem hlz hp x], sorted_ris hsz hs, holds_rv hH4 hg4, HB3.out.trans (at_below (show At9 w3 g 0 d' w4 from hA) HG.out HB3.out.size)⟩
      clear hp hs hA hsz hlz hH4 hg4 HS HBK HB3 HG
      go_wp2_with fail
      go_ret
      exact ⟨_, cap, d'.toList, rfl, HRES.out⟩
    · exfalso
      have := (by first | exact HB0.out rfl | exact HB0.out trivial : 2 ≤ l.length)
      rw [HN.out] at this
      omega
  · go_wp2_with fail
    go_ret
    exact ⟨A, c, l, rfl, hnc, HN.out, fun x => Iff.rfl, (by first | exact HB.out rfl | exact HB.out trivial), HR.out, below_drewN (Below.refl _ w) q⟩
end Go.Proofs.YtjcnglkjjhnpbaaGreatDoor
namespace Go.Proofs.YtjcnglkjjhnpbaaGreatDoor
open Go.RowKit

theorem Ris.tail {x : Int} {t : List Int} (h : Ris (x :: t)) : Ris t := fun i hi => by
  have := h (i + 1) (by simpa using hi)
  simpa using this
theorem Ris.head : ∀ (t : List Int) (x : Int), Ris (x :: t) → ∀ y ∈ x :: t, x ≤ y
  | [], x, _, y, hy => by
    have : y = x := by simpa using hy
    omega
  | z :: t, x, h, y, hy => by
    have h0 : x ≤ z := by simpa using h 0 (by simp)
    rcases List.mem_cons.1 hy with rfl | hy
    · omega
    · have := Ris.head t z h.tail y hy
      omega
theorem rv_cutH {w : World} {B : Nat} {A : Option Addr} {x : Int} {t : List Int} {c : Nat} (h : Rv w B A ((x :: t).map encH)) (hc : (x :: t).length ≤ c) : Rv w B (if c = 1 then A else A.map (·.add 1)) (t.map encH) := fun hn => by
  obtain ⟨b, o, rfl, hb, hcell⟩ := h (by simp)
  have ht : 0 < t.length := by simpa using hn
  rw [if_neg (by simp at hc; omega)]
  refine ⟨b, o + 1, by simp [go_sem], hb, fun j u hu => ?_⟩
  rw [Nat.add_assoc, Nat.add_comm 1 j]
  exact hcell (j + 1) u (by simpa using hu)
def lenV : Value → Nat | .slice _ n _ => n | _ => 0
/-- What is left of the days, at a day. -/
def Left9 (l : List Int) (k : Int) (w1 : World) (y : Value) : Prop := ∃ A c, ∃ t : List Int, y = .slice A t.length c ∧ t.length ≤ c ∧ t.length ≤ 1000 ∧ Ris t ∧ (∀ v, k ≤ v → (v ∈ t ↔ v ∈ l)) ∧ Rv w1 w1.heap.size A (t.map encH) ∧ ∀ v ∈ t, -2147483648 ≤ v ∧ v ≤ 2147483647
def NxRel (l : List Int) (d : Int) (w1 : World) (x y _z : Value) (w' : World) : Prop := ∃ k : Int, x = .int .i32 k ∧ d ≤ k ∧ k ≤ 3652059 ∧ nextD l k = nextD l d ∧ Left9 l k w1 y ∧ w' = w1
def NxPost (l : List Int) (d : Int) (w : World) (e : Ending) (w' : World) : Prop := (∀ y, nextD l d = some y → e = .returned (.tuple #[.int .i32 y, .nilIface])) ∧ (nextD l d = none → e = .returned (.tuple #[.int .i32 0, .iface 45 (.int .i64 12)])) ∧ Below w.heap.size w w'
theorem open_of {l : List Int} {k : Int} {p q : Bool} (hk : dayB k = true) (hp : (dayB k && decide (k % 7 < 5)) = p) (hq : l.contains k = q) : openL l k = (p && !q) := by
  unfold openL
  rw [hk, Bool.true_and] at hp
  rw [hp, hq]
set_option maxRecDepth 20000 in
set_option maxHeartbeats 4000000 in
theorem Next9 (A : Option Addr) (n c : Nat) (l : List Int) (d : Int) (w : World) (hR : Rv w w.heap.size A (l.map encH)) (hn : l.length = n) (hnc : n ≤ c) (hm : n ≤ 1000) (hl : ∀ v ∈ l, -2147483648 ≤ v ∧ v ≤ 2147483647) (hd : 0 ≤ d ∧ d ≤ 3652058) :
    Calls Tryz.prog 74 #[.slice A n c, .int .i32 d] w (NxPost l d w) := by
  have hC := Rising9 A n c l w hR hn hnc hm
  have hD := DRight_any d w
  rw [day_yes hd.1 hd.2] at hD
  have HL := Lib.hid hl
  have HD := Lib.hid hd
  clear hR hn hl hd
  go_enter Tryz.func74, Tryz.ntmps74
  go_wp2_with fail
  refine hD.mono ?_
  rintro e w' ⟨rfl, rfl⟩
  go_wp2_with fail
  refine hC.mono ?_
  rintro e w1 ⟨A2, c2, s, rfl, hc2, hs, hmem, hris, hR2, hb⟩
  have HB := Lib.hid hb
  have HLF : Hid (Left9 l d w1 (.slice A2 n c2)) := Lib.hid ⟨A2, c2, s, by rw [hs], by rw [hs]; exact hc2, by rw [hs]; exact hm, hris, fun v _ => hmem v, hR2, fun v hv => HL.out v ((hmem v).1 hv)⟩
  clear hC hD hb hR2 hris hmem hs hc2 s
  go_wp2_with fail
  go_loopw [1, 6, 7] (NxRel l d w1) (fun x _ _ _ => (3652060 - intOf x).toNat)
  case atStart => exact ⟨d, rfl, by omega, by have := HD.out; omega, rfl, HLF.out, rfl⟩
  case round =>
    clear HLF
    obtain ⟨k, rfl, hk1, hk2, hN, hLF, rfl⟩ := hrel
    have HN := Lib.hid hN
    have HLF := Lib.hid hLF
    have hk0 : 0 ≤ k := by have := HD.out; omega
    clear hN hLF
    by_cases hke : k ≤ 3652058
    · have hD := DRight_any k wr
      rw [day_yes hk0 hke] at hD
      go_wp2_with fail
      refine hD.mono ?_
      rintro e w' ⟨rfl, rfl⟩
      clear hD
      obtain ⟨w5, rfl⟩ : ∃ W, W = wr := ⟨_, rfl⟩
      obtain ⟨A3, c3, t, rfl, h1, h2, h3, h4, h5, h6⟩ := HLF.out
      clear HLF
      have HLF : Hid (Left9 l k w5 (.slice A3 t.length c3)) := Lib.hid ⟨A3, c3, t, rfl, h1, h2, h3, h4, h5, h6⟩
      clear h1 h2 h3 h4 h5 h6
      go_wp2_with fail
      go_loopw [6] (fun y w2 => Left9 l k w5 y ∧ w2 = w5) (fun y _ => lenV y)
      case atStart => exact ⟨HLF.out, rfl⟩
      case round =>
        clear HLF
        obtain ⟨⟨A4, c4, t4, rfl, h1, h2, h3, h4, h5, h6⟩, rfl⟩ := hrel
        have hW := worked9 k wr
        obtain ⟨p, hp⟩ : ∃ p, (dayB k && decide (k % 7 < 5)) = p := ⟨_, rfl⟩
        rw [hp] at hW
        have HP := Lib.hid hp
        have HW := Lib.hid hW
        clear hp hW
        rcases t4 with _ | ⟨v, t4⟩
        · have hq : l.contains k = false := by
            cases hc : l.contains k with
            | false => rfl
            | true => exact absurd ((h4 k (Int.le_refl _)).2 (by simpa using hc)) (by simp)
          have HLF : Hid (Left9 l (k + 1) wr (.slice A4 ([] : List Int).length c4)) := Lib.hid ⟨A4, c4, [], rfl, h1, h2, h3, fun v hv => h4 v (by omega), h5, h6⟩
          have HO := Lib.hid (open_of (day_yes hk0 hke) HP.out hq)
          rw [show (([] : List Int).length) = 0 from rfl] at HLF ⊢
          clear h1 h2 h3 h4 h5 h6 hq
          go_wp2_with fail
          refine HW.out.mono ?_
          rintro e w9 ⟨rfl, rfl⟩
          clear HW
          rw [Bool.not_false, Bool.and_true] at HO
          rcases p with _ | _
          · go_wp2_with fail
            go_roundw
            case rel => exact ⟨k + 1, rfl, by omega, by omega, by rw [← nextD_no hke HO.out]; exact HN.out, HLF.out, rfl⟩
            case measure => simp [intOf]; omega
          · go_wp2_with fail
            go_ret2
            have e := HN.out
            rw [nextD_yes hke HO.out] at e
            refine ⟨fun y h => ?_, fun h => ?_, HB.out⟩
            · have h2 := e.trans h
              injection h2 with h2
              subst h2
              rfl
            · have h2 := e.trans h
              cases h2
        · obtain ⟨b, o, hA, _, c0⟩ := rv_at h5 (k := 0) (by simp)
          subst hA
          rw [Nat.add_zero] at c0
          have c0' : wr.cell? ⟨b, o, none⟩ = some (.int .i32 v) := by simpa using c0
          have hv := h6 v (List.mem_cons_self ..)
          rw [show ((v :: t4).length) = t4.length + 1 from rfl] at *
          have hcut := rv_cutH h5 (by simpa using h1)
          by_cases hvk : v < k
          · have HLF : Hid (Left9 l k wr (.slice (if c4 = 1 then some ⟨b, o, none⟩ else (some ⟨b, o, none⟩ : Option Addr).map (·.add 1)) t4.length (c4 - 1))) := Lib.hid ⟨_, c4 - 1, t4, rfl, by omega, by omega, h3.tail, fun u hu => by
              rw [← h4 u hu]
              constructor
              · exact List.mem_cons_of_mem _
              · intro h
                rcases List.mem_cons.1 h with rfl | h
                · omega
                · exact h, hcut, fun u hu => h6 u (List.mem_cons_of_mem _ hu)⟩
            clear h3 h4 h5 h6 hcut c0
            go_wp2_with fail
            go_roundw
            case rel => first | exact ⟨HLF.out, rfl⟩ | exact ⟨HLF.out, trivial⟩
            case measure => simp [lenV]
          · have hq : l.contains k = decide (v = k) := by
              by_cases e : v = k
              · rw [decide_eq_true e]
                have : k ∈ l := (h4 k (Int.le_refl _)).1 (by rw [e]; exact List.mem_cons_self ..)
                simpa using this
              · rw [decide_eq_false e]
                cases hc : l.contains k with
                | false => rfl
                | true =>
                  have hm := (h4 k (Int.le_refl _)).2 (by simpa using hc)
                  have := Ris.head t4 v h3 k hm
                  omega
            have HLF : Hid (Left9 l (k + 1) wr (.slice (some ⟨b, o, none⟩) (t4.length + 1) c4)) := Lib.hid ⟨some ⟨b, o, none⟩, c4, v :: t4, rfl, h1, h2, h3, fun u hu => h4 u (by omega), h5, h6⟩
            clear h3 h4 h5 h6 hcut c0
            by_cases hvk2 : v = k
            · have HO := Lib.hid (open_of (day_yes hk0 hke) HP.out (hq.trans (decide_eq_true hvk2)))
              clear hq
              subst hvk2
              go_wp2_with fail
              refine HW.out.mono ?_
              rintro e w9 ⟨rfl, rfl⟩
              clear HW
              rw [Bool.not_true, Bool.and_false] at HO
              rcases p with _ | _
              · go_wp2_with fail
                go_roundw
                case rel => exact ⟨v + 1, rfl, by omega, by omega, by rw [← nextD_no hke HO.out]; exact HN.out, HLF.out, rfl⟩
                case measure => simp [intOf]; omega
              · go_wp2_with fail
                go_roundw
                case rel => exact ⟨v + 1, rfl, by omega, by omega, by rw [← nextD_no hke HO.out]; exact HN.out, HLF.out, rfl⟩
                case measure => simp [intOf]; omega
            · have HO := Lib.hid (open_of (day_yes hk0 hke) HP.out (hq.trans (decide_eq_false hvk2)))
              have hbk : (v == k) = false := by simpa using hvk2
              clear hq
              go_wp2_with fail
              refine HW.out.mono ?_
              rintro e w9 ⟨rfl, rfl⟩
              clear HW
              rw [Bool.not_false, Bool.and_true] at HO
              rcases p with _ | _
              · go_wp2_with fail
                go_roundw
                case rel => exact ⟨k + 1, rfl, by omega, by omega, by rw [← nextD_no hke HO.out]; exact HN.out, HLF.out, rfl⟩
                case measure => simp [intOf]; omega
              · go_wp2_with fail
                go_ret2
                have e := HN.out
                rw [nextD_yes hke HO.out] at e
                refine ⟨fun y h => ?_, fun h => ?_, HB.out⟩
                · have h2 := e.trans h
                  injection h2 with h2
                  subst h2
                  rfl
                · have h2 := e.trans h
                  cases h2
    · have hD := DRight_any k wr
      rw [day_no (by omega)] at hD
      go_wp2_with fail
      refine hD.mono ?_
      rintro e w' ⟨rfl, rfl⟩
      clear hD
      go_wp2_with fail
      go_ret2
      have e := HN.out
      rw [nextD_end (by omega)] at e
      refine ⟨fun y h => ?_, fun h => ?_, HB.out⟩
      · have h2 := e.trans h
        cases h2
      · rfl
end Go.Proofs.YtjcnglkjjhnpbaaGreatDoor
