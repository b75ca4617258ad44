/-
Rows of whole numbers: what they read as; what is appended to them. No condition.
The library's sort over days, XI: the whole. Conditions: the row lies there.
The library's sort over days, XII: Sort, IsSorted, Clone; days in their order. Conditions: the days are there.
Which days are open; the first open day from one on, as the document has it. Conditions: the days are there.
Days in their order; the first open day from one on: the program's. Conditions: the days are there.
-/
import Derived.Test.YtpbfipeinblfgaaGreatDoorShutAQ9
import Derived.Test.YtpbfipeinblfgaaGreatDoorDoorEQ9
import Derived.Laws.AppendOwnNone
import Derived.Test.YtpbfipeinblfgaaGreatDoorSrtJQ9
import Derived.Lib.Small
import Derived.IntWalk
namespace Go.Proofs.YtpbfipeinblfgaaGreatDoor
open Go.ChangeShapes Go.WideShapes Go.ChangeAt Go.RowKit

/-- A slice that reads as these values, each of one cell. -/
def Rv (w : World) (B : Nat) (A : Option Addr) (l : List Value) : Prop :=
  0 < l.length → ∃ b o, A = some ⟨b, o, none⟩ ∧ b < B ∧ ∀ (j : Nat) u, l[j]? = some u → w.cell? ⟨b, o + j, none⟩ = some u
section
variable {w w' : World} {B B' : Nat} {A : Option Addr} {l : List Value}
theorem Rv.nil_ : Rv w B A [] := fun h => absurd h (by simp)
theorem Rv.at_ {k : Nat} (h : Rv w B A l) (hk : k < l.length) : ∃ b o, A = some ⟨b, o, none⟩ ∧ b < B ∧ w.cell? ⟨b, o + k, none⟩ = some (l[k]'hk) := by
  obtain ⟨b, o, e, hb, hc⟩ := h (by omega)
  exact ⟨b, o, e, hb, hc k _ (List.getElem?_eq_getElem hk)⟩
theorem Rv.keep (h : Rv w B A l) (hk : ∀ p : Addr, p.block < B → w'.cell? p = w.cell? p) : Rv w' B A l := fun hn => by
  obtain ⟨b, o, e, hb, hc⟩ := h hn
  exact ⟨b, o, e, hb, fun j u hu => (hk _ hb).trans (hc j u hu)⟩
theorem Rv.more (h : Rv w B A l) (hB : B ≤ B') : Rv w B' A l := fun hn => by
  obtain ⟨b, o, e, hb, hc⟩ := h hn
  exact ⟨b, o, e, by omega, hc⟩
theorem Rv.below (h : Rv w B A l) (hb : Below B w w') : Rv w' B A l := h.keep fun _ hp => hb.cell hp
theorem Rv.take (h : Rv w B A l) (k : Nat) : Rv w B A (l.take k) := fun hn => by
  obtain ⟨b, o, e, hb, hc⟩ := h (by rw [List.length_take] at hn; omega)
  refine ⟨b, o, e, hb, fun j u hu => hc j u ?_⟩
  rw [List.getElem?_take] at hu
  split at hu
  · exact hu
  · cases hu
end

def encL (n : Int) : Value := .int .i32 n
theorem encL_one (l : List Int) : ∀ u ∈ l.map encL, u.oneCell' = true := by
  intro u hu
  obtain ⟨x, _, rfl⟩ := List.mem_map.1 hu
  rfl
theorem infoL : (Tryz.prog.info? 21).map (fun i => (i.zero, i.size, i.bytes)) = some (some (.int .i32 0), 1, 4) := by kernel_rfl
def OwnL (w : World) (base : Nat) (v : Value) (n : Nat) (l : List Int) : Prop := w.ownsRow base 21 1 v n (l.map encL)

theorem Rv.of_ownL {w : World} {base n c : Nat} {A : Option Addr} {l : List Int} (h : OwnL w base (.slice A n c) n l) : Rv w w.heap.size A (l.map encL) := fun hn => by
  rw [List.length_map] at hn
  have hln : l.length = n := by have := h.1; simpa using this
  obtain ⟨g, cap, hv, _, hlt⟩ := World.ownsRow.form h (by omega)
  have hA : A = some ⟨g, 0, none⟩ := by injection hv
  subst hA
  refine ⟨g, 0, rfl, hlt, fun j u hu => ?_⟩
  have := World.ownsRow.cells h (g := g) rfl j u hu
  simpa [go_sem] using this
theorem own_formL {w : World} {base : Nat} {v : Value} {n : Nat} {l : List Int} (h : OwnL w base v n l) :
    l.length = n ∧ ∃ A c, v = .slice A n c ∧ n ≤ c ∧ c ≤ maxLen ∧ Rv w w.heap.size A (l.map encL) := by
  have hl : l.length = n := by have := h.1; simpa using this
  refine ⟨hl, ?_⟩
  rcases h.2 with ⟨rfl, rfl⟩ | ⟨g, cap, cur, rfl, _, _, hnc, hcm, _⟩
  · exact ⟨_, _, rfl, Nat.le_refl _, by decide, by obtain rfl : l = [] := List.eq_nil_of_length_eq_zero hl; exact Rv.nil_⟩
  · exact ⟨_, _, rfl, hnc, hcm, Rv.of_ownL h⟩

section
variable {H : Type} {enc : TypeId × Value → H} {W : World}
theorem cellsL : Tryz.prog.cellsOf 21 = 1 := by kernel_rfl
theorem bytesL : Tryz.prog.bytesOf 21 = 4 := by kernel_rfl
end
def encH (n : Int) : Value := .int .i32 n
theorem encH_one (l : List Int) : ∀ u ∈ l.map encH, u.oneCell' = true := by
  intro u hu
  obtain ⟨x, _, rfl⟩ := List.mem_map.1 hu
  rfl
theorem infoH : (Tryz.prog.info? 26).map (fun i => (i.zero, i.size, i.bytes)) = some (some (.int .i32 0), 1, 4) := by kernel_rfl
def OwnH (w : World) (base : Nat) (v : Value) (n : Nat) (l : List Int) : Prop := w.ownsRow base 26 1 v n (l.map encH)

theorem appendH_void (w : World) (base : Nat) (ty : TypeId) (v : Value) (n : Nat) (l : List Int) (hown : OwnH w base v n l) (A : Option Addr) (c : Nat) :
    (Builtin.append_ #[82, 82] ty #[v, .slice A 0 c]).run Tryz.prog w = .ok v w := by
  obtain ⟨i0, hi, hz0, hz1, hz2⟩ := info_parts infoH
  unfold OwnH at hown
  cases A <;> rcases hown.2 with ⟨rfl, rfl⟩ | ⟨g, cap, cur, rfl, _, _, hnc, _⟩ <;>
    simp [Builtin.append_, run_underlying Tryz.underlying82, sizeOf, typeInfo, Builtin.lenOf, Builtin.firstCells, storeCells, loadCells, loadCellsFrom, *]
theorem appendH (w : World) (base : Nat) (ty : TypeId) (v : Value) (n : Nat) (l : List Int) (hown : OwnH w base v n l) (B : Nat) (A : Option Addr) (m c : Nat) (news : List Int)
    (hR : Rv w B A (news.map encH)) (hm : news.length = m) (hsz : n + m ≤ 1000) (hbase : base ≤ w.heap.size) :
    ∃ v' w', (Builtin.append_ #[82, 82] ty #[v, .slice A m c]).run Tryz.prog w = .ok v' w' ∧ OwnH w' base v' (n + m) (l ++ news) ∧ w.grownBy w' v.ownBlock := by
  rcases Nat.eq_zero_or_pos m with h0 | h0
  · subst h0
    obtain rfl : news = [] := List.eq_nil_of_length_eq_zero hm
    exact ⟨v, w, appendH_void w base ty v n _ hown A c, by simpa using hown, grown_refl _ _⟩
  · obtain ⟨b, o, rfl, _, hc⟩ := hR (by rw [List.length_map]; omega)
    obtain ⟨i0, hi, hz0, hz1, hz2⟩ := info_parts infoH
    obtain ⟨v', w', hr, h2, h3, _⟩ := run_append_own (P := Tryz.prog) w base 82 ty 26 i0 (.int .i32 0) 1 4 Tryz.underlying82 hi hz0 hz1 hz2 rfl (by decide) v n (l.map encH) hown
      ⟨b, o, none⟩ m c (news.map encH) (by simpa using hm) (fun j u hu => by simpa [go_sem] using hc j u hu) (encH_one news) (by unfold maxLen; omega) (by omega) hbase
    exact ⟨v', w', hr, by unfold OwnH; rw [List.map_append]; exact h2, h3⟩
theorem wpList_appendH {w : World} {ops : Array Oper} {rest : List Oper} {o : Oper} {a : Act} {Q : Exit → Act → World → Prop} (hgd : o.guard = Option.none) (s x : Operand)
    (ho : o.op = .call { callee := .builtin .append, args := #[s, x], argTypes := #[82, 82] })
    (base : Nat) (v : Value) (n : Nat) (l : List Int) (hs : a.eval s = v) (hown : OwnH w base v n l)
    (B : Nat) (A : Option Addr) (m c : Nat) (news : List Int) (hx : a.eval x = .slice A m c) (hR : Rv w B A (news.map encH)) (hm : news.length = m) (hsz : n + m ≤ 1000) (hbase : base ≤ w.heap.size)
    (h : ∀ v' w', OwnH w' base v' (n + m) (l ++ news) → w.grownBy w' v.ownBlock → wpList Tryz.prog ops Q rest (a.put o.dst v') w') : wpList Tryz.prog ops Q (o :: rest) a w := by
  refine wpList_plain hgd fun _ hK => ?_
  obtain ⟨v', w', hr, h2, h3⟩ := appendH w base o.type v n l hown B A m c news hR hm hsz hbase
  unfold Oper.wp execOp
  simp only [ho, resolve, invoke, builtin, Sem.run_bind, Sem.run_pure, Result.andThen_ok, List.map_toArray, List.map_cons, List.map_nil, hs, hx, hr]
  exact hK _ _ (h v' w' h2 h3)
theorem Rv.of_ownH {w : World} {base n c : Nat} {A : Option Addr} {l : List Int} (h : OwnH w base (.slice A n c) n l) : Rv w w.heap.size A (l.map encH) := fun hn => by
  rw [List.length_map] at hn
  have hln : l.length = n := by have := h.1; simpa using this
  obtain ⟨g, cap, hv, _, hlt⟩ := World.ownsRow.form h (by omega)
  have hA : A = some ⟨g, 0, none⟩ := by injection hv
  subst hA
  refine ⟨g, 0, rfl, hlt, fun j u hu => ?_⟩
  have := World.ownsRow.cells h (g := g) rfl j u hu
  simpa [go_sem] using this
theorem own_formH {w : World} {base : Nat} {v : Value} {n : Nat} {l : List Int} (h : OwnH w base v n l) :
    l.length = n ∧ ∃ A c, v = .slice A n c ∧ n ≤ c ∧ c ≤ maxLen ∧ Rv w w.heap.size A (l.map encH) := by
  have hl : l.length = n := by have := h.1; simpa using this
  refine ⟨hl, ?_⟩
  rcases h.2 with ⟨rfl, rfl⟩ | ⟨g, cap, cur, rfl, _, _, hnc, hcm, _⟩
  · exact ⟨_, _, rfl, Nat.le_refl _, by decide, by obtain rfl : l = [] := List.eq_nil_of_length_eq_zero hl; exact Rv.nil_⟩
  · exact ⟨_, _, rfl, hnc, hcm, Rv.of_ownH h⟩

def encN (n : Int) : Value := .int .i64 n
theorem encN_one (l : List Int) : ∀ u ∈ l.map encN, u.oneCell' = true := by
  intro u hu
  obtain ⟨x, _, rfl⟩ := List.mem_map.1 hu
  rfl
theorem infoN : (Tryz.prog.info? 3).map (fun i => (i.zero, i.size, i.bytes)) = some (some (.int .i64 0), 1, 8) := by kernel_rfl
def OwnN (w : World) (base : Nat) (v : Value) (n : Nat) (l : List Int) : Prop := w.ownsRow base 3 1 v n (l.map encN)

theorem appendN_void (w : World) (base : Nat) (ty : TypeId) (v : Value) (n : Nat) (l : List Int) (hown : OwnN w base v n l) (A : Option Addr) (c : Nat) :
    (Builtin.append_ #[182, 182] ty #[v, .slice A 0 c]).run Tryz.prog w = .ok v w := by
  obtain ⟨i0, hi, hz0, hz1, hz2⟩ := info_parts infoN
  unfold OwnN at hown
  cases A <;> rcases hown.2 with ⟨rfl, rfl⟩ | ⟨g, cap, cur, rfl, _, _, hnc, _⟩ <;>
    simp [Builtin.append_, run_underlying Tryz.underlying182, sizeOf, typeInfo, Builtin.lenOf, Builtin.firstCells, storeCells, loadCells, loadCellsFrom, *]
theorem appendN (w : World) (base : Nat) (ty : TypeId) (v : Value) (n : Nat) (l : List Int) (hown : OwnN w base v n l) (B : Nat) (A : Option Addr) (m c : Nat) (news : List Int)
    (hR : Rv w B A (news.map encN)) (hm : news.length = m) (hsz : n + m ≤ 1000) (hbase : base ≤ w.heap.size) :
    ∃ v' w', (Builtin.append_ #[182, 182] ty #[v, .slice A m c]).run Tryz.prog w = .ok v' w' ∧ OwnN w' base v' (n + m) (l ++ news) ∧ w.grownBy w' v.ownBlock := by
  rcases Nat.eq_zero_or_pos m with h0 | h0
  · subst h0
    obtain rfl : news = [] := List.eq_nil_of_length_eq_zero hm
    exact ⟨v, w, appendN_void w base ty v n _ hown A c, by simpa using hown, grown_refl _ _⟩
  · obtain ⟨b, o, rfl, _, hc⟩ := hR (by rw [List.length_map]; omega)
    obtain ⟨i0, hi, hz0, hz1, hz2⟩ := info_parts infoN
    obtain ⟨v', w', hr, h2, h3, _⟩ := run_append_own (P := Tryz.prog) w base 182 ty 3 i0 (.int .i64 0) 1 8 Tryz.underlying182 hi hz0 hz1 hz2 rfl (by decide) v n (l.map encN) hown
      ⟨b, o, none⟩ m c (news.map encN) (by simpa using hm) (fun j u hu => by simpa [go_sem] using hc j u hu) (encN_one news) (by unfold maxLen; omega) (by omega) hbase
    exact ⟨v', w', hr, by unfold OwnN; rw [List.map_append]; exact h2, h3⟩
theorem wpList_appendN {w : World} {ops : Array Oper} {rest : List Oper} {o : Oper} {a : Act} {Q : Exit → Act → World → Prop} (hgd : o.guard = Option.none) (s x : Operand)
    (ho : o.op = .call { callee := .builtin .append, args := #[s, x], argTypes := #[182, 182] })
    (base : Nat) (v : Value) (n : Nat) (l : List Int) (hs : a.eval s = v) (hown : OwnN w base v n l)
    (B : Nat) (A : Option Addr) (m c : Nat) (news : List Int) (hx : a.eval x = .slice A m c) (hR : Rv w B A (news.map encN)) (hm : news.length = m) (hsz : n + m ≤ 1000) (hbase : base ≤ w.heap.size)
    (h : ∀ v' w', OwnN w' base v' (n + m) (l ++ news) → w.grownBy w' v.ownBlock → wpList Tryz.prog ops Q rest (a.put o.dst v') w') : wpList Tryz.prog ops Q (o :: rest) a w := by
  refine wpList_plain hgd fun _ hK => ?_
  obtain ⟨v', w', hr, h2, h3⟩ := appendN w base o.type v n l hown B A m c news hR hm hsz hbase
  unfold Oper.wp execOp
  simp only [ho, resolve, invoke, builtin, Sem.run_bind, Sem.run_pure, Result.andThen_ok, List.map_toArray, List.map_cons, List.map_nil, hs, hx, hr]
  exact hK _ _ (h v' w' h2 h3)
theorem Rv.of_ownN {w : World} {base n c : Nat} {A : Option Addr} {l : List Int} (h : OwnN w base (.slice A n c) n l) : Rv w w.heap.size A (l.map encN) := fun hn => by
  rw [List.length_map] at hn
  have hln : l.length = n := by have := h.1; simpa using this
  obtain ⟨g, cap, hv, _, hlt⟩ := World.ownsRow.form h (by omega)
  have hA : A = some ⟨g, 0, none⟩ := by injection hv
  subst hA
  refine ⟨g, 0, rfl, hlt, fun j u hu => ?_⟩
  have := World.ownsRow.cells h (g := g) rfl j u hu
  simpa [go_sem] using this
theorem own_formN {w : World} {base : Nat} {v : Value} {n : Nat} {l : List Int} (h : OwnN w base v n l) :
    l.length = n ∧ ∃ A c, v = .slice A n c ∧ n ≤ c ∧ c ≤ maxLen ∧ Rv w w.heap.size A (l.map encN) := by
  have hl : l.length = n := by have := h.1; simpa using this
  refine ⟨hl, ?_⟩
  rcases h.2 with ⟨rfl, rfl⟩ | ⟨g, cap, cur, rfl, _, _, hnc, hcm, _⟩
  · exact ⟨_, _, rfl, Nat.le_refl _, by decide, by obtain rfl : l = [] := List.eq_nil_of_length_eq_zero hl; exact Rv.nil_⟩
  · exact ⟨_, _, rfl, hnc, hcm, Rv.of_ownN h⟩

end Go.Proofs.YtpbfipeinblfgaaGreatDoor
namespace Go.Proofs.YtpbfipeinblfgaaGreatDoor
open Go.RowKit
open Go.Sort (putRow Holds swp ltInt PermIn SortedIn size_swp permIn_trans permIn_refl insertionSort heapSort swo_ltInt insertionSort_holds heapSort_holds partialInsertionSort_holds partition_holds partitionEqual_holds partialInsertionSort partition partitionEqual round_eq round_part)

theorem Ins9n (n blk off cap a b : Nat) (d : Array Int) (w : World) (hn : d.size = n) (hH : Holds eD w blk off d) (hab : a ≤ b) (hb : b ≤ n) (hsz : n ≤ 1000000) :
    Calls Tryz.prog 235 #[.slice (some ⟨blk, off, none⟩) n cap, .int .i64 a, .int .i64 b] w fun e w' => e = .returned (.tuple #[]) ∧ ∃ d', PermIn a b d d' ∧ SortedIn ltInt a b d' ∧ Rw9 w blk off d' w' := by
  subst hn
  refine (Ins9 blk off cap a b d w hH hab hb hsz).mono ?_
  rintro e w' ⟨h1, h2⟩
  obtain ⟨p, s⟩ := insertionSort_holds swo_ltInt d a b hab hb
  exact ⟨h1, _, p, s, h2⟩
theorem Heap9n (n blk off cap a b : Nat) (d : Array Int) (w : World) (hn : d.size = n) (hH : Holds eD w blk off d) (hab : a < b) (hb : b ≤ n) (hsz : n ≤ 1000000) :
    Calls Tryz.prog 236 #[.slice (some ⟨blk, off, none⟩) n cap, .int .i64 a, .int .i64 b] w fun e w' => e = .returned (.tuple #[]) ∧ ∃ d', PermIn a b d d' ∧ SortedIn ltInt a b d' ∧ Rw9 w blk off d' w' := by
  subst hn
  refine (Heap9 blk off cap a b d w hH hab hb hsz).mono ?_
  rintro e w' ⟨h1, h2⟩
  obtain ⟨p, s⟩ := heapSort_holds swo_ltInt d a b (Nat.le_of_lt hab) hb
  exact ⟨h1, _, p, s, h2⟩
theorem Rev9n (n blk off cap a b : Nat) (d : Array Int) (w : World) (hn : d.size = n) (hH : Holds eD w blk off d) (hab : a < b) (hb : b ≤ n) (hsz : n ≤ 1000000) :
    Calls Tryz.prog 239 #[.slice (some ⟨blk, off, none⟩) n cap, .int .i64 a, .int .i64 b] w fun e w' => e = .returned (.tuple #[]) ∧ ∃ d', PermIn a b d d' ∧ Rw9 w blk off d' w' := by
  subst hn
  exact Rev9 blk off cap a b d w hH hab hb hsz
/-- A row that is a permutation, in a world that has grown. -/
abbrev Pm9 (w : World) (n blk off a b : Nat) (e : Array Int) (w' : World) : Prop := ∃ f, PermIn a b e f ∧ f.size = n ∧ At9 w blk off f w'
theorem At9.lies {w w' : World} {n blk off : Nat} {d e : Array Int} (h : At9 w blk off e w') (hH : Holds eD w blk off d) (hd : d.size = n) (he : e.size = n) (hb : blk < w.heap.size) : Holds eD w' blk off e ∧ blk < w'.heap.size := h.holds hH (he.trans hd.symm) hb
def PdRel (n a b blk off : Nat) (d : Array Int) (w : World) (x y z u v : Value) (w' : World) : Prop :=
  ∃ a1 b1 l : Nat, ∃ wb wp : Bool, ∃ e : Array Int, x = .int .i64 a1 ∧ y = .int .i64 b1 ∧ z = .int .i64 l ∧ u = .bool wb ∧ v = .bool wp ∧ (a ≤ a1 ∧ a1 ≤ b1 ∧ b1 ≤ b ∧ l ≤ 64) ∧ e.size = n ∧ At9 w blk off e w' ∧ Go.Sort.Below ltInt a1 b1 e ∧
    ∀ R, PermIn a1 b1 e R → SortedIn ltInt a1 b1 R → PermIn a b d R ∧ SortedIn ltInt a b R

set_option maxRecDepth 20000 in
set_option maxHeartbeats 8000000 in
theorem Pdq9 (n blk off cap : Nat) (hsz : n ≤ 1000000) (m : Nat) : ∀ (a b l : Nat) (d : Array Int) (w : World), b - a < m → d.size = n → Holds eD w blk off d → blk < w.heap.size → a ≤ b → b ≤ n → l ≤ 64 → Go.Sort.Below ltInt a b d →
    Calls Tryz.prog 214 #[.slice (some ⟨blk, off, none⟩) n cap, .int .i64 a, .int .i64 b, .int .i64 l] w fun e w' =>
      e = .returned (.tuple #[]) ∧ ∃ d', PermIn a b d d' ∧ SortedIn ltInt a b d' ∧ At9 w blk off d' w' := by
  induction m with
  | zero => intro a b l d w h; omega
  | succ m ih =>
  intro a b l d w hm hn hH hblk hab hb hl hB
  have IH := Lib.hid ih
  have HH := Lib.hid hH
  have HBK := Lib.hid hblk
  have HBL := Lib.hid hB
  have HN := Lib.hid hn
  clear ih hH hblk hB
  go_enter Tryz.func214, Tryz.ntmps214
  go_wp2_with fail
  go_loopw [1, 2, 3, 8, 9] (PdRel n a b blk off d w) (fun x y _ _ _ _ => (intOf y - intOf x).toNat)
  case atStart => exact ⟨a, b, l, true, true, d, rfl, rfl, rfl, rfl, rfl, ⟨Nat.le_refl _, hab, Nat.le_refl _, hl⟩, hn, Go.Sort.At.refl HH.out, HBL.out, fun R h1 h2 => ⟨h1, h2⟩⟩
  case round =>
    clear hl HBL hn
    obtain ⟨a1, b1, l, wb, wp, e, rfl, rfl, rfl, rfl, rfl, ⟨ha1, hab1, hb1, hl⟩, hes, hA, hB, hF⟩ := hrel
    have HA := Lib.hid hA
    have HB := Lib.hid hB
    have HF := Lib.hid hF
    clear hA hB hF
    by_cases h12 : (b1 : Int) - (a1 : Int) ≤ 12
    · obtain ⟨hHe, hbe⟩ := HA.out.lies HH.out HN.out hes HBK.out
      have hC := Ins9n n blk off cap a1 b1 e wr hes hHe hab1 (by omega) hsz
      have HCC := Lib.hid hC
      clear hHe hbe hC
      go_wp2_with fail
      refine HCC.out.mono ?_
      rintro x w2 ⟨rfl, f, hp, hs, hr⟩
      have HA2 := Lib.hid (HA.out.step HBK.out hp.1 hr)
      have HP := Lib.hid (HF.out f hp hs)
      clear hp hs hr
      go_wp2_with fail
      try simp only [Exit.inBlock, Exit.then]
      refine bodyPost_ret (results_none rfl _ _ _) rfl ?_
      exact ⟨rfl, f, HP.out.1, HP.out.2, HA2.out⟩
    · by_cases hl0 : l = 0
      · subst hl0
        obtain ⟨hHe, hbe⟩ := HA.out.lies HH.out HN.out hes HBK.out
        have hC := Heap9n n blk off cap a1 b1 e wr hes hHe (by omega) (by omega) hsz
        have HCC := Lib.hid hC
        clear hHe hbe hC
        rw [show ((0 : Nat) : Int) = 0 from rfl]
        go_wp2_with fail
        refine HCC.out.mono ?_
        rintro x w2 ⟨rfl, f, hp, hs, hr⟩
        have HA2 := Lib.hid (HA.out.step HBK.out hp.1 hr)
        have HP := Lib.hid (HF.out f hp hs)
        clear hp hs hr
        go_wp2_with fail
        try simp only [Exit.inBlock, Exit.then]
        refine bodyPost_ret (results_none rfl _ _ _) rfl ?_
        exact ⟨rfl, f, HP.out.1, HP.out.2, HA2.out⟩
      · have hl1 : ¬ ((l : Int) = 0) := by omega
        have h12n : a1 + 12 < b1 := by omega
        have hb1n : b1 ≤ n := by omega
        go_upto_if 35 with fail
        rw [show ((l : Int) == 0) = false from by simpa using hl1]
        go_cut [3] from 34 to 41 (fun z wx => (∃ l1 : Nat, z = .int .i64 l1 ∧ l1 ≤ 64) ∧ Pm9 w n blk off a1 b1 e wx)
        case first =>
          rcases wb with _ | _
          · obtain ⟨hHe, hbe⟩ := HA.out.lies HH.out HN.out hes HBK.out
            have hC := Break9 n blk off cap a1 b1 e wr hes hHe hbe h12n hb1n hsz
            have HCC := Lib.hid hC
            clear hHe hbe hC
            go_wp2_with fail
            refine HCC.out.mono ?_
            rintro x w2 ⟨rfl, f, hp, hr⟩
            have HP := Lib.hid hp
            have HR := Lib.hid hr
            clear hp hr
            go_wp2_with fail
            go_meet
            case rel => exact ⟨⟨l - 1, by congr 1; omega, by omega⟩, f, HP.out, HP.out.1.trans hes, HA.out.stepG HBK.out HP.out.1 HR.out⟩
          · go_wp2_with fail
            go_meet
            case rel => exact ⟨⟨l, rfl, hl⟩, e, permIn_refl _ _ _, hes, HA.out⟩
        case rest =>
          obtain ⟨⟨l1, rfl, hl2⟩, f1, hp1, hs1, hA1⟩ := hcut
          have hA1 : At9 w blk off f1 wc := hA1
          obtain ⟨hHe, hbe⟩ := At9.lies hA1 HH.out HN.out hs1 HBK.out
          have hC := Pivot9 n blk off cap a1 b1 f1 wc hs1 hHe hbe h12n hb1n hsz
          have HCC := Lib.hid hC
          have HA1 := Lib.hid hA1
          have HP1 := Lib.hid hp1
          clear hHe hbe hC hp1 hA1 HA hl hl0 hl1
          rename World => W1
          go_wp2_with fail
          refine HCC.out.mono ?_
          rintro x w2 ⟨p, hv, rfl, hpa, hpb, hr⟩
          have HA2 := Lib.hid (HA1.out.same HH.out (hs1.trans HN.out.symm) HBK.out hr)
          clear hr HCC HA1
          go_upto_if 50 with fail
          go_cut [11, 12] from 49 to 60 (fun p' h' wx => (∃ q : Nat, p' = .int .i64 q ∧ a1 ≤ q ∧ q < b1) ∧ (∃ hw : Int, h' = .int .i64 hw) ∧ Pm9 w n blk off a1 b1 e wx)
          case first =>
            by_cases h2 : hv = 2
            · subst h2
              obtain ⟨hHe, hbe⟩ := At9.lies (show At9 w blk off f1 w2 from HA2.out) HH.out HN.out hs1 HBK.out
              have hC := Rev9n n blk off cap a1 b1 f1 w2 hs1 hHe (by omega) hb1n hsz
              have HCC := Lib.hid hC
              clear hHe hbe hC
              go_wp2_with fail
              refine HCC.out.mono ?_
              rintro x w3 ⟨rfl, f, hp, hr⟩
              have HP := Lib.hid hp
              have HR := Lib.hid hr
              clear hp hr
              go_wp2_with fail
              go_meet
              case rel => exact ⟨⟨b1 - 1 - (p - a1), by congr 1; omega, by omega, by omega⟩, ⟨_, rfl⟩, f, permIn_trans _ _ _ _ _ HP1.out HP.out, HP.out.1.trans hs1, Go.Sort.At.step (show At9 w blk off f1 w2 from HA2.out) HBK.out HP.out.1 HR.out⟩
            · go_wp2_with fail
              go_meet
              case rel => exact ⟨⟨p, rfl, hpa, hpb⟩, ⟨_, rfl⟩, f1, HP1.out, hs1, HA2.out⟩
          case rest =>
            obtain ⟨⟨q, rfl, hqa, hqb⟩, ⟨hw, rfl⟩, f2, hp2, hs2, hA2⟩ := hcut
            have hA2 : At9 w blk off f2 wc := hA2
            have HP2 := Lib.hid hp2
            have HA3 := Lib.hid hA2
            clear hp2 hA2 HA2 HP1 hpa hpb hs1
            rename World => W3
            go_upto_region 15 with (fail)
            go_cut [68] from 61 to 68 (fun x wx => (∃ c : Bool, x = .bool c) ∧ wx = W3)
            case first =>
              cases wb <;> cases wp
              all_goals go_wp2_with fail
              all_goals (go_meet; exact ⟨⟨_, rfl⟩, rfl⟩)
            case rest =>
              obtain ⟨⟨c, rfl⟩, hwc⟩ := hcut
              subst hwc
              go_upto_if 68 with fail
              go_cut [69] from 69 to 72 (fun x wx => Pm9 w n blk off a1 b1 e wx)
              case first =>
                rcases c with _ | _
                · go_wp2_with fail
                  go_meet
                  case rel => exact ⟨f2, HP2.out, hs2, HA3.out⟩
                · obtain ⟨hHe, hbe⟩ := At9.lies (show At9 w blk off f2 wc from HA3.out) HH.out HN.out hs2 HBK.out
                  have hC := PIns9 n blk off cap a1 b1 f2 wc hs2 hHe h12n hb1n hsz
                  obtain ⟨hp, hss⟩ := partialInsertionSort_holds swo_ltInt f2 a1 b1 (by omega) (by omega) (by
                    have := Go.Sort.Below.perm HB.out (by omega) HP2.out
                    exact this)
                  generalize partialInsertionSort ltInt f2 a1 b1 = r at hC hp hss
                  obtain ⟨f3, br⟩ := r
                  have HCC := Lib.hid hC
                  have HP3 := Lib.hid hp
                  have HSS := Lib.hid hss
                  clear hHe hbe hC hp hss
                  go_wp2_with fail
                  refine HCC.out.mono ?_
                  rintro x w4 ⟨rfl, hr⟩
                  have HA4 := Lib.hid (Go.Sort.At.step (show At9 w blk off f2 wc from HA3.out) HBK.out HP3.out.1 hr)
                  clear hr HCC
                  rcases br with _ | _
                  · go_wp2_with fail
                    go_meet
                    case rel => exact ⟨f3, permIn_trans _ _ _ _ _ HP2.out HP3.out, HP3.out.1.trans hs2, HA4.out⟩
                  · have HP5 := Lib.hid (HF.out f3 (permIn_trans _ _ _ _ _ HP2.out HP3.out) (HSS.out rfl))
                    clear HP3 HSS
                    go_wp2_with fail
                    try simp only [Exit.inBlock, Exit.then]
                    refine bodyPost_ret (results_none rfl _ _ _) rfl ?_
                    exact ⟨rfl, f3, HP5.out.1, HP5.out.2, HA4.out⟩
              case rest =>
                obtain ⟨f3, hp3, hs3, hA4⟩ := hcut
                have HA4 := Lib.hid (show At9 w blk off f3 wc from hA4)
                have HB3 := Lib.hid (Go.Sort.Below.perm HB.out (by omega) hp3)
                have HP3 := Lib.hid hp3
                obtain ⟨hHe, hbe⟩ := At9.lies (show At9 w blk off f3 wc from HA4.out) HH.out HN.out hs3 HBK.out
                obtain ⟨G, hG, hc, hf⟩ := (Rw9.refl hHe).fam hHe rfl
                rw [hs3] at hc hf
                have HG := Lib.hid hG
                have HHE := Lib.hid hHe
                clear hHe hbe hG hp3 hA4 HA3 HP2 hs2 HB hf
                have hqn : q < n := by omega
                go_wp2_with fail
                by_cases ha0 : 0 < a1
                · have hann : a1 - 1 < n := by omega
                  go_quiet (first | (go_at_call 213; refine Calls.quiet_of_same (Less9 _ _ _)))
                  go_wp2_with fail
                  · have hl0 : (!ltInt (G (a1 - 1)) (G q)) = true := by assumption
                    have hl : ltInt (G (a1 - 1)) (G q) = false := by simpa using hl0
                    clear hl0
                    obtain ⟨W5, hW5⟩ : ∃ W, W = wc.drewN nq := ⟨_, rfl⟩
                    rw [← hW5]
                    have hA5 : At9 w blk off f3 W5 := by rw [hW5]; exact Go.Sort.At.step (show At9 w blk off f3 wc from HA4.out) HBK.out rfl ((Rw9.refl HHE.out).drewN nq)
                    obtain ⟨hH5, hb5⟩ := At9.lies hA5 HH.out HN.out hs3 HBK.out
                    have HA5 := Lib.hid hA5
                    have HH5 := Lib.hid hH5
                    clear hW5 hA5 hH5 hb5 hc HA4 HHE
                    obtain ⟨mid, d4, hx⟩ : ∃ mid d4, partitionEqual ltInt f3 a1 b1 q = (mid, d4) := ⟨_, _, rfl⟩
                    have hC := PartEq9 n blk off cap a1 b1 q f3 W5 hs3 HH5.out hqa hqb hb1n hsz
                    have hrp := round_eq swo_ltInt (partitionEqual_holds ltInt) (show 0 < a1 by omega) hqa hqb (show b1 ≤ f3.size by omega) HB3.out (by rw [← HG.out, ← HG.out]; exact hl) hx
                    rw [hx] at hC
                    obtain ⟨hm1, hm2, hs4, hB4, hfin⟩ := hrp
                    have hs4 : d4.size = n := hs4.trans hs3
                    have HCC := Lib.hid hC
                    have HB4 := Lib.hid hB4
                    have HFI := Lib.hid hfin
                    clear hC hx hB4 hfin HH5 HG hl
                    go_wp2_with fail
                    refine HCC.out.mono ?_
                    rintro x w6 ⟨rfl, hr⟩
                    have HA6 := Lib.hid (Go.Sort.At.step (show At9 w blk off f3 W5 from HA5.out) HBK.out (hs4.trans hs3.symm) hr)
                    clear hr HCC HA5
                    go_wp2_with fail
                    go_roundw
                    case rel => exact ⟨mid, b1, l1, _, _, d4, rfl, rfl, rfl, rfl, rfl, ⟨by omega, hm2, hb1, hl2⟩, hs4, HA6.out, HB4.out, fun R h1 h2 => by
                      obtain ⟨p1, p2⟩ := HFI.out R h1 h2
                      exact HF.out R (permIn_trans _ _ _ _ _ HP3.out p1) p2⟩
                    case measure => simp [intOf]; omega
                  · have hl0 : (!ltInt (G (a1 - 1)) (G q)) = false := by assumption
                    clear hl0
                    obtain ⟨W5, hW5⟩ : ∃ W, W = wc.drewN nq := ⟨_, rfl⟩
                    rw [← hW5]
                    have hA5 : At9 w blk off f3 W5 := by rw [hW5]; exact Go.Sort.At.step (show At9 w blk off f3 wc from HA4.out) HBK.out rfl ((Rw9.refl HHE.out).drewN nq)
                    obtain ⟨hH5, hb5⟩ := At9.lies hA5 HH.out HN.out hs3 HBK.out
                    have HA5 := Lib.hid hA5
                    have HH5 := Lib.hid hH5
                    clear hW5 hA5 hH5 hb5 hc HA4 HHE
                    have hC := Part9 n blk off cap a1 b1 q f3 W5 hs3 HH5.out hqa hqb hb1n hsz
                    obtain ⟨mid, ap, d4, hx⟩ : ∃ mid ap d4, partition ltInt f3 a1 b1 q = (mid, ap, d4) := ⟨_, _, _, rfl⟩
                    have hrp := round_part swo_ltInt (partition_holds ltInt) hqa hqb (show b1 ≤ f3.size by omega) HB3.out hx
                    rw [hx] at hC
                    obtain ⟨hm1, hm2, hs4, hB4, hB5, hL, hR⟩ := hrp
                    have hs4 : d4.size = n := hs4.trans hs3
                    have HCC := Lib.hid hC
                    have HB4 := Lib.hid hB4
                    have HB5 := Lib.hid hB5
                    have HL := Lib.hid hL
                    have HR := Lib.hid hR
                    clear hC hx hB4 hB5 hL hR HH5 HG
                    go_wp2_with fail
                    refine HCC.out.mono ?_
                    rintro x w6 ⟨qb, rfl, hr⟩
                    have HA6 := Lib.hid (Go.Sort.At.step (show At9 w blk off f3 W5 from HA5.out) HBK.out (hs4.trans hs3.symm) hr)
                    clear hr HCC HA5
                    obtain ⟨hH6, hb6⟩ := At9.lies (show At9 w blk off d4 w6 from HA6.out) HH.out HN.out hs4 HBK.out
                    have HH6 := Lib.hid hH6
                    have HB6 := Lib.hid hb6
                    clear hH6 hb6
                    by_cases hlr : (mid : Int) - (a1 : Int) < (b1 : Int) - (mid : Int)
                    · have hC := IH.out a1 mid l1 d4 w6 (by omega) hs4 HH6.out HB6.out hm1 (by omega) hl2 HB4.out
                      have HCC := Lib.hid hC
                      clear hC HH6 HB6
                      go_wp2_with fail
                      refine HCC.out.mono ?_
                      rintro x w7 ⟨rfl, L, hpL, hsL, hr⟩
                      obtain ⟨hBL, hfin⟩ := HL.out L hpL hsL
                      have hsz7 := hpL.1.trans hs4
                      have HA7 := Lib.hid (Go.Sort.At.stepG (show At9 w blk off d4 w6 from HA6.out) HBK.out hpL.1 hr)
                      have HBL := Lib.hid hBL
                      have HFI := Lib.hid hfin
                      clear hpL hsL hr hBL hfin HCC HA6 HL HR HB4 HB5
                      go_wp2_with fail
                      go_roundw
                      case rel => exact ⟨mid + 1, b1, l1, _, _, L, by go_num, rfl, rfl, rfl, rfl, ⟨by omega, by omega, hb1, hl2⟩, hsz7, HA7.out, HBL.out, fun R h1 h2 => by
                        obtain ⟨p1, p2⟩ := HFI.out R h1 h2
                        exact HF.out R (permIn_trans _ _ _ _ _ HP3.out p1) p2⟩
                      case measure => simp [intOf]; omega
                    · have hC := IH.out (mid + 1) b1 l1 d4 w6 (by omega) hs4 HH6.out HB6.out (by omega) hb1n hl2 HB5.out
                      have HCC := Lib.hid hC
                      clear hC HH6 HB6
                      go_wp2_with fail
                      refine HCC.out.mono ?_
                      rintro x w7 ⟨rfl, L, hpL, hsL, hr⟩
                      obtain ⟨hBL, hfin⟩ := HR.out L hpL hsL
                      have hsz7 := hpL.1.trans hs4
                      have HA7 := Lib.hid (Go.Sort.At.stepG (show At9 w blk off d4 w6 from HA6.out) HBK.out hpL.1 hr)
                      have HBL := Lib.hid hBL
                      have HFI := Lib.hid hfin
                      clear hpL hsL hr hBL hfin HCC HA6 HL HR HB4 HB5
                      go_wp2_with fail
                      go_roundw
                      case rel => exact ⟨a1, mid, l1, _, _, L, rfl, rfl, rfl, rfl, rfl, ⟨ha1, hm1, by omega, hl2⟩, hsz7, HA7.out, HBL.out, fun R h1 h2 => by
                        obtain ⟨p1, p2⟩ := HFI.out R h1 h2
                        exact HF.out R (permIn_trans _ _ _ _ _ HP3.out p1) p2⟩
                      case measure => simp [intOf]; omega
                · go_quiet (first | (go_at_call 213; refine Calls.quiet_of_same (Less9 _ _ _)))
                  go_wp2_with fail
                  obtain ⟨W5, hW5⟩ : ∃ W, W = wc.drewN nq := ⟨_, rfl⟩
                  rw [← hW5]
                  have hA5 : At9 w blk off f3 W5 := by rw [hW5]; exact Go.Sort.At.step (show At9 w blk off f3 wc from HA4.out) HBK.out rfl ((Rw9.refl HHE.out).drewN nq)
                  obtain ⟨hH5, hb5⟩ := At9.lies hA5 HH.out HN.out hs3 HBK.out
                  have HA5 := Lib.hid hA5
                  have HH5 := Lib.hid hH5
                  clear hW5 hA5 hH5 hb5 hc HA4 HHE
                  have hC := Part9 n blk off cap a1 b1 q f3 W5 hs3 HH5.out hqa hqb hb1n hsz
                  obtain ⟨mid, ap, d4, hx⟩ : ∃ mid ap d4, partition ltInt f3 a1 b1 q = (mid, ap, d4) := ⟨_, _, _, rfl⟩
                  have hrp := round_part swo_ltInt (partition_holds ltInt) hqa hqb (show b1 ≤ f3.size by omega) HB3.out hx
                  rw [hx] at hC
                  obtain ⟨hm1, hm2, hs4, hB4, hB5, hL, hR⟩ := hrp
                  have hs4 : d4.size = n := hs4.trans hs3
                  have HCC := Lib.hid hC
                  have HB4 := Lib.hid hB4
                  have HB5 := Lib.hid hB5
                  have HL := Lib.hid hL
                  have HR := Lib.hid hR
                  clear hC hx hB4 hB5 hL hR HH5 HG
                  go_wp2_with fail
                  refine HCC.out.mono ?_
                  rintro x w6 ⟨qb, rfl, hr⟩
                  have HA6 := Lib.hid (Go.Sort.At.step (show At9 w blk off f3 W5 from HA5.out) HBK.out (hs4.trans hs3.symm) hr)
                  clear hr HCC HA5
                  obtain ⟨hH6, hb6⟩ := At9.lies (show At9 w blk off d4 w6 from HA6.out) HH.out HN.out hs4 HBK.out
                  have HH6 := Lib.hid hH6
                  have HB6 := Lib.hid hb6
                  clear hH6 hb6
                  by_cases hlr : (mid : Int) - (a1 : Int) < (b1 : Int) - (mid : Int)
                  · have hC := IH.out a1 mid l1 d4 w6 (by omega) hs4 HH6.out HB6.out hm1 (by omega) hl2 HB4.out
                    have HCC := Lib.hid hC
                    clear hC HH6 HB6
                    go_wp2_with fail
                    refine HCC.out.mono ?_
                    rintro x w7 ⟨rfl, L, hpL, hsL, hr⟩
                    obtain ⟨hBL, hfin⟩ := HL.out L hpL hsL
                    have hsz7 := hpL.1.trans hs4
                    have HA7 := Lib.hid (Go.Sort.At.stepG (show At9 w blk off d4 w6 from HA6.out) HBK.out hpL.1 hr)
                    have HBL := Lib.hid hBL
                    have HFI := Lib.hid hfin
                    clear hpL hsL hr hBL hfin HCC HA6 HL HR HB4 HB5
                    go_wp2_with fail
                    go_roundw
                    case rel => exact ⟨mid + 1, b1, l1, _, _, L, by go_num, rfl, rfl, rfl, rfl, ⟨by omega, by omega, hb1, hl2⟩, hsz7, HA7.out, HBL.out, fun R h1 h2 => by
                      obtain ⟨p1, p2⟩ := HFI.out R h1 h2
                      exact HF.out R (permIn_trans _ _ _ _ _ HP3.out p1) p2⟩
                    case measure => simp [intOf]; omega
                  · have hC := IH.out (mid + 1) b1 l1 d4 w6 (by omega) hs4 HH6.out HB6.out (by omega) hb1n hl2 HB5.out
                    have HCC := Lib.hid hC
                    clear hC HH6 HB6
                    go_wp2_with fail
                    refine HCC.out.mono ?_
                    rintro x w7 ⟨rfl, L, hpL, hsL, hr⟩
                    obtain ⟨hBL, hfin⟩ := HR.out L hpL hsL
                    have hsz7 := hpL.1.trans hs4
                    have HA7 := Lib.hid (Go.Sort.At.stepG (show At9 w blk off d4 w6 from HA6.out) HBK.out hpL.1 hr)
                    have HBL := Lib.hid hBL
                    have HFI := Lib.hid hfin
                    clear hpL hsL hr hBL hfin HCC HA6 HL HR HB4 HB5
                    go_wp2_with fail
                    go_roundw
                    case rel => exact ⟨a1, mid, l1, _, _, L, rfl, rfl, rfl, rfl, rfl, ⟨ha1, hm1, by omega, hl2⟩, hsz7, HA7.out, HBL.out, fun R h1 h2 => by
                      obtain ⟨p1, p2⟩ := HFI.out R h1 h2
                      exact HF.out R (permIn_trans _ _ _ _ _ HP3.out p1) p2⟩
                    case measure => simp [intOf]; omega
end Go.Proofs.YtpbfipeinblfgaaGreatDoor
namespace Go.Proofs.YtpbfipeinblfgaaGreatDoor
open Go.RowKit
open Go.Sort (putRow Holds swp ltInt PermIn SortedIn)

set_option maxRecDepth 20000 in
theorem Sort9 (n blk off cap : Nat) (d : Array Int) (w : World) (hn : d.size = n) (hH : Holds eD w blk off d) (hblk : blk < w.heap.size) (hsz : n ≤ 1000000) :
    Calls Tryz.prog 185 #[.slice (some ⟨blk, off, none⟩) n cap] w fun e w' => e = .returned (.tuple #[]) ∧ ∃ d', PermIn 0 n d d' ∧ SortedIn ltInt 0 n d' ∧ At9 w blk off d' w' := by
  have hC := Pdq9 n blk off cap hsz (n + 1) 0 n (Lib.bitLen n) d w (by omega) hn hH hblk (by omega) (Nat.le_refl _) (by have := bit_le hsz; omega) (.inl rfl)
  have hL := Len9 n hsz w
  generalize Lib.bitLen n = k at hC hL
  go_enter Tryz.func185, Tryz.ntmps185
  go_wp2_with fail
  refine hL.mono ?_
  rintro e w' ⟨rfl, rfl⟩
  go_wp2_with fail
  refine hC.mono ?_
  rintro e w2 ⟨rfl, d', hp, hs, hA⟩
  have HP := Lib.hid hp
  have HS := Lib.hid hs
  have HA := Lib.hid hA
  clear hp hs hA hC hL
  go_wp2_with fail
  go_end0
  exact ⟨rfl, d', HP.out, HS.out, HA.out⟩

/-- Days that rise (two may be the same). -/
def Ris (l : List Int) : Prop := ∀ i, i + 1 < l.length → l.getD i 0 ≤ l.getD (i + 1) 0
def IsRel (l : List Int) (n : Nat) (w : World) (x : Value) (w' : World) : Prop := ∃ k q : Nat, x = .int .i64 ((k : Int) - 1) ∧ k ≤ n ∧ w' = w.drewN q ∧ ∀ i, k ≤ i + 1 → i + 1 < n → l.getD i 0 ≤ l.getD (i + 1) 0
def IsPost (l : List Int) (w : World) (e : Ending) (w' : World) : Prop := ∃ b : Bool, e = .returned (.bool b) ∧ (b = true → Ris l) ∧ (b = false → 2 ≤ l.length) ∧ ∃ q, w' = w.drewN q
set_option maxRecDepth 20000 in
set_option maxHeartbeats 1000000 in
theorem IsS9 (A : Option Addr) (n c B : Nat) (l : List Int) (w : World) (hR : Rv w B A (l.map encH)) (hn : l.length = n) (hm : n ≤ 1000000) :
    Calls Tryz.prog 183 #[.slice A n c] w (IsPost l w) := by
  have HR := Lib.hid hR
  have HN := Lib.hid hn
  clear hR hn
  go_enter Tryz.func183, Tryz.ntmps183
  go_wp2
  go_loopw [3] (IsRel l n w) (fun x _ => (intOf x + 1).toNat)
  case atStart => exact ⟨n, 0, rfl, Nat.le_refl _, rfl, fun i h1 h2 => by omega⟩
  case round =>
    obtain ⟨k, q, rfl, hk, hw, hS⟩ := hrel
    have HW := Lib.hid hw
    have HS := Lib.hid hS
    clear hw hS
    by_cases h2 : 2 ≤ k
    · obtain ⟨k, rfl⟩ : ∃ j, k = j + 2 := ⟨k - 2, by omega⟩
      rw [show ((k + 2 : Nat) : Int) - 1 = ((k + 1 : Nat) : Int) by omega]
      have hll : k + 1 < (l.map encH).length := by rw [List.length_map, HN.out]; omega
      obtain ⟨b, o, hA, _, c1⟩ := HR.out.at_ hll
      obtain ⟨b2, o2, hA2, _, c0⟩ := HR.out.at_ (k := k) (by omega)
      rw [hA] at hA2
      injection hA2 with e1
      injection e1 with e1 e2
      subst e1 e2 hA
      have hkl : k + 1 < l.length := by rw [HN.out]; omega
      have g1 : (l.map encH)[k + 1] = .int .i32 (l.getD (k + 1) 0) := by rw [List.getElem_map, List.getD_eq_getElem?_getD, List.getElem?_eq_getElem hkl]; rfl
      have g0 : (l.map encH)[k] = .int .i32 (l.getD k 0) := by rw [List.getElem_map, List.getD_eq_getElem?_getD, List.getElem?_eq_getElem (by omega : k < l.length)]; rfl
      rw [g1] at c1
      rw [g0] at c0
      obtain ⟨x1, hx1⟩ : ∃ x, l.getD (k + 1) 0 = x := ⟨_, rfl⟩
      obtain ⟨x0, hx0⟩ : ∃ x, l.getD k 0 = x := ⟨_, rfl⟩
      rw [hx1] at c1
      rw [hx0] at c0
      have hwc1 : wr.cell? ⟨b, o + (k + 1), none⟩ = some (.int .i32 x1) := by rw [HW.out]; exact c1
      have hwc0 : wr.cell? ⟨b, o + k, none⟩ = some (.int .i32 x0) := by rw [HW.out]; exact c0
      have HX := Lib.hid (And.intro hx1 hx0)
      have hkn : k + 1 < n := by omega
      have hkn0 : k < n := by omega
      clear g1 g0 hll hkl c1 c0 hx1 hx0
      go_wp2_with fail
      go_quiet (first | (go_at_call 213; refine Calls.quiet_of_same (Less9 _ _ _)))
      go_wp2_with fail
      · go_ret
        exact ⟨false, rfl, fun h => absurd h (by decide), fun _ => by rw [HN.out]; omega, q + nq, by rw [HW.out, World.drewN_drewN]⟩
      · have hl : ltInt x1 x0 = false := by assumption
        have hle : x0 ≤ x1 := by
          have := of_decide_eq_false hl
          omega
        go_roundw
        case rel =>
          refine ⟨k + 1, q + nq, by congr 1; omega, by omega, by rw [HW.out, World.drewN_drewN], fun i h3 h4 => ?_⟩
          by_cases e : i = k
          · subst e; rw [HX.out.1, HX.out.2]; exact hle
          · exact HS.out i (by omega) h4
        case measure => simp [intOf]; omega
    · have h3 : ¬ (0 : Int) < (k : Int) - 1 := by omega
      go_wp2_with fail
      go_ret
      exact ⟨true, rfl, fun _ i h => HS.out i (by omega) (by rw [← HN.out]; exact h), fun h => absurd h (by decide), q, HW.out⟩
end Go.Proofs.YtpbfipeinblfgaaGreatDoor
namespace Go.Proofs.YtpbfipeinblfgaaGreatDoor
open Go.RowKit

/-- Is something done on a day that there is? -/
def openL (l : List Int) (x : Int) : Bool := decide (x % 7 < 5) && !l.contains x
/-- The first open day from one on, within so many days. -/
def nextL (l : List Int) : Nat → Int → Option Int
  | 0, _ => none
  | f + 1, x => if openL l x then some x else nextL l f (x + 1)
def nextD (l : List Int) (x : Int) : Option Int := nextL l (3652059 - x).toNat x
theorem nextD_yes {l : List Int} {x : Int} (h : x ≤ 3652058) (ho : openL l x = true) : nextD l x = some x := by
  unfold nextD
  obtain ⟨f, hf⟩ : ∃ f, (3652059 - x).toNat = f + 1 := ⟨(3652059 - x).toNat - 1, by omega⟩
  rw [hf]
  simp only [nextL, ho, if_true]
theorem nextD_no {l : List Int} {x : Int} (h : x ≤ 3652058) (ho : openL l x = false) : nextD l x = nextD l (x + 1) := by
  unfold nextD
  obtain ⟨f, hf⟩ : ∃ f, (3652059 - x).toNat = f + 1 := ⟨(3652059 - x).toNat - 1, by omega⟩
  rw [hf, show (3652059 - (x + 1)).toNat = f by omega]
  simp only [nextL, ho]
  rfl
theorem nextD_end {l : List Int} {x : Int} (h : 3652058 < x) : nextD l x = none := by
  unfold nextD
  rw [show (3652059 - x).toNat = 0 by omega]
  rfl
theorem nextD_in (l : List Int) : ∀ (f : Nat) (x : Int), (3652059 - x).toNat = f → ∀ y, nextD l x = some y → x ≤ y ∧ y ≤ 3652058 ∧ openL l y = true ∧ ∀ z, x ≤ z → z < y → openL l z = false := by
  intro f
  induction f with
  | zero => intro x h y hy; rw [nextD_end (by omega)] at hy; cases hy
  | succ f ih =>
    intro x h y hy
    cases ho : openL l x with
    | true =>
      rw [nextD_yes (by omega) ho] at hy
      injection hy with hy
      subst hy
      exact ⟨by omega, by omega, ho, fun z h1 h2 => by omega⟩
    | false =>
      rw [nextD_no (by omega) ho] at hy
      obtain ⟨h1, h2, h3, h4⟩ := ih (x + 1) (by omega) y hy
      exact ⟨by omega, h2, h3, fun z h5 h6 => by
        by_cases e : z = x
        · subst e; exact ho
        · exact h4 z (by omega) h6⟩

def IxRel (l : List Int) (v : Int) (x : Value) (w w' : World) : Prop := ∃ k : Nat, x = .int .i64 k ∧ k ≤ l.length ∧ w' = w ∧ ∀ i, i < k → l.getD i 0 ≠ v
theorem not_mem_of {l : List Int} {v : Int} (h : ∀ i, i < l.length → l.getD i 0 ≠ v) : l.contains v = false := by
  cases hc : l.contains v with
  | false => rfl
  | true =>
    have hm : v ∈ l := by simpa using hc
    obtain ⟨i, hi, e⟩ := List.getElem_of_mem hm
    exact absurd (by rw [List.getD_eq_getElem?_getD, List.getElem?_eq_getElem hi]; exact e) (h i hi)
theorem mem_of {l : List Int} {v : Int} {i : Nat} (hi : i < l.length) (h : l.getD i 0 = v) : l.contains v = true := by
  rw [List.getD_eq_getElem?_getD, List.getElem?_eq_getElem hi] at h
  have : v ∈ l := by rw [← h]; exact List.getElem_mem hi
  simpa using this
theorem rv_at {w : World} {B : Nat} {A : Option Addr} {l : List Int} (hR : Rv w B A (l.map encH)) {k : Nat} (hk : k < l.length) : ∃ b o, A = some ⟨b, o, none⟩ ∧ b < B ∧ w.cell? ⟨b, o + k, none⟩ = some (.int .i32 (l.getD k 0)) := by
  obtain ⟨b, o, hA, hb, c1⟩ := hR.at_ (k := k) (by rw [List.length_map]; exact hk)
  have g1 : (l.map encH)[k]'(by rw [List.length_map]; exact hk) = .int .i32 (l.getD k 0) := by rw [List.getElem_map, List.getD_eq_getElem?_getD, List.getElem?_eq_getElem hk]; rfl
  rw [g1] at c1
  exact ⟨b, o, hA, hb, c1⟩
theorem rv_atN {w : World} {B : Nat} {A : Option Addr} {l : List Int} (hR : Rv w B A (l.map encN)) {k : Nat} (hk : k < l.length) : ∃ b o, A = some ⟨b, o, none⟩ ∧ b < B ∧ w.cell? ⟨b, o + k, none⟩ = some (.int .i64 (l.getD k 0)) := by
  obtain ⟨b, o, hA, hb, c1⟩ := hR.at_ (k := k) (by rw [List.length_map]; exact hk)
  have g1 : (l.map encN)[k]'(by rw [List.length_map]; exact hk) = .int .i64 (l.getD k 0) := by rw [List.getElem_map, List.getD_eq_getElem?_getD, List.getElem?_eq_getElem hk]; rfl
  rw [g1] at c1
  exact ⟨b, o, hA, hb, c1⟩
set_option maxRecDepth 20000 in
theorem worked9 (d : Int) (w : World) : Calls Tryz.prog 146 #[.int .i32 d] w fun e w' => e = .returned (.bool (dayB d && decide (d % 7 < 5))) ∧ w' = w := by
  by_cases h : 0 ≤ d ∧ d ≤ 3652058
  · have hW := Week_any d h.1 h.2 w
    have hR := DRight_any d w
    have e : dayB d = true := day_yes h.1 h.2
    rw [e] at hR ⊢
    go_enter Tryz.func146, Tryz.ntmps146
    go_wp2_with fail
    refine hR.mono ?_
    rintro e w' ⟨rfl, rfl⟩
    go_wp2_with fail
    refine hW.mono ?_
    rintro e w' ⟨rfl, rfl⟩
    go_wp2_with fail
    go_ret
    exact ⟨rfl, rfl⟩
  · have hR := DRight_any d w
    have e : dayB d = false := day_no (by omega)
    rw [e] at hR ⊢
    go_enter Tryz.func146, Tryz.ntmps146
    go_wp2_with fail
    refine hR.mono ?_
    rintro e w' ⟨rfl, rfl⟩
    go_wp2_with fail
    go_ret
    exact ⟨rfl, rfl⟩
def RnRel (l : List Int) (d : Int) (w : World) (x : Value) (w' : World) : Prop := ∃ y : Int, x = .int .i64 y ∧ d ≤ y ∧ y ≤ 3652059 ∧ w' = w ∧ nextD l y = nextD l d
end Go.Proofs.YtpbfipeinblfgaaGreatDoor
namespace Go.Proofs.YtpbfipeinblfgaaGreatDoor
open Go.RowKit
open Go.Sort (putRow Holds swp ltInt PermIn SortedIn)

set_option maxRecDepth 100000 in
set_option maxHeartbeats 1000000 in
theorem CloneH_any (ad : Addr) (n c : Nat) (X : List Value) (w : World) (hn : X.length = n * 1) (hX : ∀ j u, X[j]? = some u → w.cell? (ad.add j) = some u) (h1 : ∀ u ∈ X, u.oneCell' = true) (hm : n ≤ 1000000) :
    Calls Tryz.prog 184 #[.slice (some ad) n c] w fun e w' => ∃ g cap, e = .returned (.slice (some ⟨g, 0, none⟩) n cap) ∧ w'.ownsRow w.heap.size 26 1 (.slice (some ⟨g, 0, none⟩) n cap) n X ∧ Below w.heap.size w w' := by
  have heq := fun W : World => Lib.run_eql_slice_nil W 82 26 (some ad) n c 0 0 Tryz.underlying82
  obtain ⟨i0, hi, hz0, hz1, hz2⟩ := info_parts infoH
  have HO : Hid ((w.alloc (.cells #[] 26)).ownsRow w.heap.size 26 1 (.slice (some ⟨w.heap.size, 0, none⟩) 0 0) 0 []) := Lib.hid (World.ownsRow_lit w #[] 0 (Nat.le_refl _) (by decide) (by simp))
  have HX : Hid (∀ j u, X[j]? = some u → (w.alloc (.cells #[] 26)).cell? (ad.add j) = some u) := Lib.hid fun j u hu => by
    have h := hX j u hu
    rw [World.cell?_alloc_lt _ _ _ (World.block_lt_of_cell? w _ h)]
    exact h
  have H1 := Lib.hid h1
  have HN := Lib.hid hn
  have HI := Lib.hid (And.intro hi (And.intro hz0 (And.intro hz1 hz2)))
  clear hX h1 hn hi hz0 hz1 hz2
  go_enter Tryz.func184, Tryz.ntmps184
  go_wp2_with (with_reducible refine wpList_append_own_at _ (o := ⟨some 7, _, _, _, _, _⟩) rfl (.tmp 5) (.tmp 6) 82 rfl w.heap.size 26 i0 (.int .i32 0) 1 4 Tryz.underlying82 HI.out.1 HI.out.2.1 HI.out.2.2.1 HI.out.2.2.2 ?hz (by decide) (.slice (some ⟨w.heap.size, 0, none⟩) 0 0) 0 [] ?h1 HO.out ad n c X ?h2 HN.out HX.out H1.out ?h3 ?h4 ?h5 ?_)
  case hz => rfl
  case h1 => rfl
  case h2 => rfl
  case h3 => unfold maxLen; omega
  case h4 => omega
  case h5 => simp
  intro v' w1 hown hg hnil hloc
  have hb : Below w.heap.size w w1 := ((Below.refl _ w).alloc (Nat.le_refl _) _).grown hg (by simp) (fun k hk => by have hk : some w.heap.size = some k := hk; injection hk with hk; omega)
  have hform : ∃ g cap, v' = .slice (some ⟨g, 0, none⟩) n cap := by
    rcases hown.2 with ⟨hv, _⟩ | ⟨g, cap, cur, hv, _⟩
    · exact absurd hv hnil
    · exact ⟨g, cap, hv⟩
  obtain ⟨g, cap, rfl⟩ := hform
  have HOW := Lib.hid hown
  have HB := Lib.hid hb
  clear hown hg hnil hloc hb heq HX HO HI
  go_wp2
  go_ret
  exact ⟨g, cap, rfl, HOW.out, HB.out⟩
theorem own_blkH {w : World} {base k n cap g : Nat} {e : TypeId} {X : List Value} (h : w.ownsRow base e k (.slice (some ⟨g, 0, none⟩) n cap) n X) : ∃ tl, Blk w g e (X.toArray ++ tl) ∧ base ≤ g ∧ n ≤ cap := by
  rcases h.2 with ⟨hv, _⟩ | ⟨g', cap', cur, hv, hb, hg, hnc, _, _, ht⟩
  · cases hv
  · injection hv with hv _ hcp
    injection hv with hv
    injection hv with hv _ _
    subst hv hcp
    refine ⟨(cur.toList.drop (n * k)).toArray, ?_, hb, hnc⟩
    have e : cur = X.toArray ++ (cur.toList.drop (n * k)).toArray := by
      apply Array.toList_inj.1
      rw [Array.toList_append, ← ht]
      exact (List.take_append_drop _ _).symm
    rw [← e]
    exact hg
theorem holds_blk {w : World} {g : Nat} {e : TypeId} {l : List Int} {tl : Array Value} (h : Blk w g e ((l.map encH).toArray ++ tl)) : Holds eD w g 0 l.toArray := fun j hj => by
  have hj' : j < l.length := by simpa using hj
  refine ⟨?_, h.frozen _⟩
  rw [h.cell, Nat.zero_add, Array.getElem?_append_left (by simpa using hj')]
  simp [hj', encH]
theorem at_below {w w' : World} {g off B : Nat} {d : Array Int} (h : At9 w g off d w') (hB : B ≤ g) (hw : B ≤ w.heap.size) : Below B w w' := by
  obtain ⟨n, os, rfl⟩ := h
  refine ⟨rfl, rfl, rfl, by simp [Go.Sort.grow], fun i hi => ?_⟩
  have hi2 : i < w.heap.size := by omega
  simp only [Go.Sort.grow, Go.Sort.putRow, Go.Sort.mapBlock, Go.Sort.ahead]
  rw [Array.getElem?_append_left (by simpa using hi2), Array.getElem?_modify, if_neg (by omega)]
theorem holds_rv {w : World} {g B : Nat} {d : Array Int} (h : Holds eD w g 0 d) (hg : g < B) : Rv w B (some ⟨g, 0, none⟩) (d.toList.map encH) := fun _ => ⟨g, 0, rfl, hg, fun j u hu => by
  rw [List.getElem?_map] at hu
  cases hx : d.toList[j]? with
  | none => rw [hx] at hu; cases hu
  | some x =>
    rw [hx] at hu
    injection hu with hu
    subst hu
    have hj : j < d.size := by
      rcases Nat.lt_or_ge j d.size with h' | h'
      · exact h'
      · rw [Array.getElem?_toList, Array.getElem?_eq_none h'] at hx; cases hx
    rw [(h j hj).1]
    rw [Array.getElem?_toList, Array.getElem?_eq_getElem hj] at hx
    injection hx with hx
    rw [getElem!_pos d j hj, hx]
    rfl⟩
theorem sorted_ris {n : Nat} {d : Array Int} (hs : d.size = n) (h : SortedIn ltInt 0 n d) : Ris d.toList := fun i hi => by
  have hi' : i + 1 < d.size := by simpa using hi
  have := h i (i + 1) (Nat.zero_le _) (by omega) (by omega)
  have e := of_decide_eq_false this
  rw [getElem!_pos d (i + 1) hi', getElem!_pos d i (by omega)] at e
  rw [List.getD_eq_getElem?_getD, List.getD_eq_getElem?_getD, Array.getElem?_toList, Array.getElem?_toList, Array.getElem?_eq_getElem hi', Array.getElem?_eq_getElem (show i < d.size by omega)]
  simp only [Option.getD_some]
  omega
theorem perm_mem {n : Nat} {d d' : Array Int} (hs : d.size = n) (h : PermIn 0 n d d') : ∀ x, x ∈ d'.toList ↔ x ∈ d.toList := fun x => by
  have h3 := h.2.2
  have e1 : d'.extract 0 n = d' := by rw [← hs, ← h.1]; simp
  have e2 : d.extract 0 n = d := by rw [← hs]; simp
  rw [e1, e2] at h3
  exact h3.mem_iff
set_option maxRecDepth 20000 in
set_option maxHeartbeats 1000000 in
theorem Rising9 (A : Option Addr) (n c : Nat) (l : List Int) (w : World) (hR : Rv w w.heap.size A (l.map encH)) (hn : l.length = n) (hnc : n ≤ c) (hm : n ≤ 1000) :
    Calls Tryz.prog 145 #[.slice A n c] w fun e w' => ∃ A' c' s, e = .returned (.slice A' n c') ∧ n ≤ c' ∧ s.length = n ∧ (∀ x, x ∈ s ↔ x ∈ l) ∧ Ris s ∧ Rv w' w'.heap.size A' (s.map encH) ∧ Below w.heap.size w w' := by
  have hI := IsS9 A n c w.heap.size l w hR hn (by omega)
  have HR := Lib.hid hR
  have HN := Lib.hid hn
  clear hR hn
  go_enter Tryz.func145, Tryz.ntmps145
  go_wp2_with fail
  refine hI.mono ?_
  rintro e w1 ⟨b, rfl, hb, hb0, q, rfl⟩
  have HB := Lib.hid hb
  have HB0 := Lib.hid hb0
  clear hb hb0 hI
  rcases b with _ | _
  · by_cases h0 : 0 < n
    · obtain ⟨b0, o0, hA, _, hc⟩ := HR.out (by rw [List.length_map, HN.out]; exact h0)
      subst hA
      obtain ⟨w2, hw2⟩ : ∃ W, W = w.drewN q := ⟨_, rfl⟩
      have hb2 : Below w.heap.size w w2 := by rw [hw2]; exact below_drewN (Below.refl _ w) q
      have hC := CloneH_any ⟨b0, o0, none⟩ n c (l.map encH) w2 (by rw [List.length_map, HN.out, Nat.mul_one]) (fun j u hu => by
        rw [hw2]
        have := hc j u hu
        simpa [go_sem] using this) (encH_one l) (by omega)
      rw [← hw2]
      have HB2 := Lib.hid hb2
      have HC := Lib.hid hC
      clear hw2 hb2 hC hc
      go_wp2_with fail
      refine HC.out.mono ?_
      rintro e w3 ⟨g, cap, rfl, ho, hb3⟩
      obtain ⟨tl, hbk, hg, hnc3⟩ := own_blkH ho
      have hS := Sort9 n g 0 cap l.toArray w3 (by simpa using HN.out) (holds_blk hbk) hbk.lt (by omega)
      have HS := Lib.hid hS
      have HBK := Lib.hid hbk
      have HB3 := Lib.hid (HB2.out.trans (hb3.mono HB2.out.size))
      have hgw : w.heap.size ≤ g := Nat.le_trans HB2.out.size hg
      have HG := Lib.hid hgw
      clear ho hb3 hbk hS hg HC hgw
      go_wp2_with fail
      refine HS.out.mono ?_
      rintro e w4 ⟨rfl, d', hp, hs, hA⟩
      have hsz : d'.size = n := hp.1.trans (by simpa using HN.out)
      have hlz : (l.toArray).size = n := by simpa using HN.out
      obtain ⟨hH4, hg4⟩ := At9.lies (show At9 w3 g 0 d' w4 from hA) (holds_blk HBK.out) hlz hsz HBK.out.lt
      have HRES : Hid (n ≤ cap ∧ d'.toList.length = n ∧ (∀ x, x ∈ d'.toList ↔ x ∈ l) ∧ Ris d'.toList ∧ Rv w4 w4.heap.size (some ⟨g, 0, none⟩) (d'.toList.map encH) ∧ Below w.heap.size w w4) := Lib.hid ⟨hnc3, by simpa using hsz, fun x => by rw [perm_mem hlz hp x], sorted_ris hsz hs, holds_rv hH4 hg4, HB3.out.trans (at_below (show At9 w3 g 0 d' w4 from hA) HG.out HB3.out.size)⟩
      clear hp hs hA hsz hlz hH4 hg4 HS HBK HB3 HG
      go_wp2_with fail
      go_ret
      exact ⟨_, cap, d'.toList, rfl, HRES.out⟩
    · exfalso
      have := (by first | exact HB0.out rfl | exact HB0.out trivial : 2 ≤ l.length)
      rw [HN.out] at this
      omega
  · go_wp2_with fail
    go_ret
    exact ⟨A, c, l, rfl, hnc, HN.out, fun x => Iff.rfl, (by first | exact HB.out rfl | exact HB.out trivial), HR.out, below_drewN (Below.refl _ w) q⟩
end Go.Proofs.YtpbfipeinblfgaaGreatDoor
