/-
Rows of whole numbers: what they read as; what is appended to them. No condition.
The law's few; Right of any days. Conditions: the days are there.
Holy's Right of any days. Conditions: the days are there.
-/
import Derived.Test.YtpnoecjpplaicaaGreatDoorShutA
import Derived.Test.YtpnoecjpplaicaaGreatDoorDoorE
import Derived.Laws.AppendOwnNone
import Derived.Test.YtpnoecjpplaicaaGreatDoorDateD
import Derived.LoopTactic
namespace Go.Proofs.YtpnoecjpplaicaaGreatDoor
open Go.ChangeShapes Go.WideShapes Go.ChangeAt Go.RowKit

/-- A slice that reads as these values, each of one cell. -/
def Rv (w : World) (B : Nat) (A : Option Addr) (l : List Value) : Prop :=
  0 < l.length → ∃ b o, A = some ⟨b, o, none⟩ ∧ b < B ∧ ∀ (j : Nat) u, l[j]? = some u → w.cell? ⟨b, o + j, none⟩ = some u
section
variable {w w' : World} {B B' : Nat} {A : Option Addr} {l : List Value}
theorem Rv.nil_ : Rv w B A [] := fun h => absurd h (by simp)
theorem Rv.at_ {k : Nat} (h : Rv w B A l) (hk : k < l.length) : ∃ b o, A = some ⟨b, o, none⟩ ∧ b < B ∧ w.cell? ⟨b, o + k, none⟩ = some (l[k]'hk) := by
  obtain ⟨b, o, e, hb, hc⟩ := h (by omega)
  exact ⟨b, o, e, hb, hc k _ (List.getElem?_eq_getElem hk)⟩
theorem Rv.keep (h : Rv w B A l) (hk : ∀ p : Addr, p.block < B → w'.cell? p = w.cell? p) : Rv w' B A l := fun hn => by
  obtain ⟨b, o, e, hb, hc⟩ := h hn
  exact ⟨b, o, e, hb, fun j u hu => (hk _ hb).trans (hc j u hu)⟩
theorem Rv.more (h : Rv w B A l) (hB : B ≤ B') : Rv w B' A l := fun hn => by
  obtain ⟨b, o, e, hb, hc⟩ := h hn
  exact ⟨b, o, e, by omega, hc⟩
theorem Rv.below (h : Rv w B A l) (hb : Below B w w') : Rv w' B A l := h.keep fun _ hp => hb.cell hp
theorem Rv.take (h : Rv w B A l) (k : Nat) : Rv w B A (l.take k) := fun hn => by
  obtain ⟨b, o, e, hb, hc⟩ := h (by rw [List.length_take] at hn; omega)
  refine ⟨b, o, e, hb, fun j u hu => hc j u ?_⟩
  rw [List.getElem?_take] at hu
  split at hu
  · exact hu
  · cases hu
end

def encL (n : Int) : Value := .int .i32 n
theorem encL_one (l : List Int) : ∀ u ∈ l.map encL, u.oneCell' = true := by
  intro u hu
  obtain ⟨x, _, rfl⟩ := List.mem_map.1 hu
  rfl
theorem infoL : (Tryz.prog.info? 21).map (fun i => (i.zero, i.size, i.bytes)) = some (some (.int .i32 0), 1, 4) := by kernel_rfl
def OwnL (w : World) (base : Nat) (v : Value) (n : Nat) (l : List Int) : Prop := w.ownsRow base 21 1 v n (l.map encL)

theorem Rv.of_ownL {w : World} {base n c : Nat} {A : Option Addr} {l : List Int} (h : OwnL w base (.slice A n c) n l) : Rv w w.heap.size A (l.map encL) := fun hn => by
  rw [List.length_map] at hn
  have hln : l.length = n := by have := h.1; simpa using this
  obtain ⟨g, cap, hv, _, hlt⟩ := World.ownsRow.form h (by omega)
  have hA : A = some ⟨g, 0, none⟩ := by injection hv
  subst hA
  refine ⟨g, 0, rfl, hlt, fun j u hu => ?_⟩
  have := World.ownsRow.cells h (g := g) rfl j u hu
  simpa [go_sem] using this
theorem own_formL {w : World} {base : Nat} {v : Value} {n : Nat} {l : List Int} (h : OwnL w base v n l) :
    l.length = n ∧ ∃ A c, v = .slice A n c ∧ n ≤ c ∧ c ≤ maxLen ∧ Rv w w.heap.size A (l.map encL) := by
  have hl : l.length = n := by have := h.1; simpa using this
  refine ⟨hl, ?_⟩
  rcases h.2 with ⟨rfl, rfl⟩ | ⟨g, cap, cur, rfl, _, _, hnc, hcm, _⟩
  · exact ⟨_, _, rfl, Nat.le_refl _, by decide, by obtain rfl : l = [] := List.eq_nil_of_length_eq_zero hl; exact Rv.nil_⟩
  · exact ⟨_, _, rfl, hnc, hcm, Rv.of_ownL h⟩

section
variable {H : Type} {enc : TypeId × Value → H} {W : World}
theorem cellsL : Tryz.prog.cellsOf 21 = 1 := by kernel_rfl
theorem bytesL : Tryz.prog.bytesOf 21 = 4 := by kernel_rfl
end
def encH (n : Int) : Value := .int .i32 n
theorem encH_one (l : List Int) : ∀ u ∈ l.map encH, u.oneCell' = true := by
  intro u hu
  obtain ⟨x, _, rfl⟩ := List.mem_map.1 hu
  rfl
theorem infoH : (Tryz.prog.info? 26).map (fun i => (i.zero, i.size, i.bytes)) = some (some (.int .i32 0), 1, 4) := by kernel_rfl
def OwnH (w : World) (base : Nat) (v : Value) (n : Nat) (l : List Int) : Prop := w.ownsRow base 26 1 v n (l.map encH)

theorem appendH_void (w : World) (base : Nat) (ty : TypeId) (v : Value) (n : Nat) (l : List Int) (hown : OwnH w base v n l) (A : Option Addr) (c : Nat) :
    (Builtin.append_ #[36, 36] ty #[v, .slice A 0 c]).run Tryz.prog w = .ok v w := by
  obtain ⟨i0, hi, hz0, hz1, hz2⟩ := info_parts infoH
  unfold OwnH at hown
  cases A <;> rcases hown.2 with ⟨rfl, rfl⟩ | ⟨g, cap, cur, rfl, _, _, hnc, _⟩ <;>
    simp [Builtin.append_, run_underlying Tryz.underlying36, sizeOf, typeInfo, Builtin.lenOf, Builtin.firstCells, storeCells, loadCells, loadCellsFrom, *]
theorem appendH (w : World) (base : Nat) (ty : TypeId) (v : Value) (n : Nat) (l : List Int) (hown : OwnH w base v n l) (B : Nat) (A : Option Addr) (m c : Nat) (news : List Int)
    (hR : Rv w B A (news.map encH)) (hm : news.length = m) (hsz : n + m ≤ 1000) (hbase : base ≤ w.heap.size) :
    ∃ v' w', (Builtin.append_ #[36, 36] ty #[v, .slice A m c]).run Tryz.prog w = .ok v' w' ∧ OwnH w' base v' (n + m) (l ++ news) ∧ w.grownBy w' v.ownBlock := by
  rcases Nat.eq_zero_or_pos m with h0 | h0
  · subst h0
    obtain rfl : news = [] := List.eq_nil_of_length_eq_zero hm
    exact ⟨v, w, appendH_void w base ty v n _ hown A c, by simpa using hown, grown_refl _ _⟩
  · obtain ⟨b, o, rfl, _, hc⟩ := hR (by rw [List.length_map]; omega)
    obtain ⟨i0, hi, hz0, hz1, hz2⟩ := info_parts infoH
    obtain ⟨v', w', hr, h2, h3, _⟩ := run_append_own (P := Tryz.prog) w base 36 ty 26 i0 (.int .i32 0) 1 4 Tryz.underlying36 hi hz0 hz1 hz2 rfl (by decide) v n (l.map encH) hown
      ⟨b, o, none⟩ m c (news.map encH) (by simpa using hm) (fun j u hu => by simpa [go_sem] using hc j u hu) (encH_one news) (by unfold maxLen; omega) (by omega) hbase
    exact ⟨v', w', hr, by unfold OwnH; rw [List.map_append]; exact h2, h3⟩
theorem wpList_appendH {w : World} {ops : Array Oper} {rest : List Oper} {o : Oper} {a : Act} {Q : Exit → Act → World → Prop} (hgd : o.guard = Option.none) (s x : Operand)
    (ho : o.op = .call { callee := .builtin .append, args := #[s, x], argTypes := #[36, 36] })
    (base : Nat) (v : Value) (n : Nat) (l : List Int) (hs : a.eval s = v) (hown : OwnH w base v n l)
    (B : Nat) (A : Option Addr) (m c : Nat) (news : List Int) (hx : a.eval x = .slice A m c) (hR : Rv w B A (news.map encH)) (hm : news.length = m) (hsz : n + m ≤ 1000) (hbase : base ≤ w.heap.size)
    (h : ∀ v' w', OwnH w' base v' (n + m) (l ++ news) → w.grownBy w' v.ownBlock → wpList Tryz.prog ops Q rest (a.put o.dst v') w') : wpList Tryz.prog ops Q (o :: rest) a w := by
  refine wpList_plain hgd fun _ hK => ?_
  obtain ⟨v', w', hr, h2, h3⟩ := appendH w base o.type v n l hown B A m c news hR hm hsz hbase
  unfold Oper.wp execOp
  simp only [ho, resolve, invoke, builtin, Sem.run_bind, Sem.run_pure, Result.andThen_ok, List.map_toArray, List.map_cons, List.map_nil, hs, hx, hr]
  exact hK _ _ (h v' w' h2 h3)
theorem Rv.of_ownH {w : World} {base n c : Nat} {A : Option Addr} {l : List Int} (h : OwnH w base (.slice A n c) n l) : Rv w w.heap.size A (l.map encH) := fun hn => by
  rw [List.length_map] at hn
  have hln : l.length = n := by have := h.1; simpa using this
  obtain ⟨g, cap, hv, _, hlt⟩ := World.ownsRow.form h (by omega)
  have hA : A = some ⟨g, 0, none⟩ := by injection hv
  subst hA
  refine ⟨g, 0, rfl, hlt, fun j u hu => ?_⟩
  have := World.ownsRow.cells h (g := g) rfl j u hu
  simpa [go_sem] using this
theorem own_formH {w : World} {base : Nat} {v : Value} {n : Nat} {l : List Int} (h : OwnH w base v n l) :
    l.length = n ∧ ∃ A c, v = .slice A n c ∧ n ≤ c ∧ c ≤ maxLen ∧ Rv w w.heap.size A (l.map encH) := by
  have hl : l.length = n := by have := h.1; simpa using this
  refine ⟨hl, ?_⟩
  rcases h.2 with ⟨rfl, rfl⟩ | ⟨g, cap, cur, rfl, _, _, hnc, hcm, _⟩
  · exact ⟨_, _, rfl, Nat.le_refl _, by decide, by obtain rfl : l = [] := List.eq_nil_of_length_eq_zero hl; exact Rv.nil_⟩
  · exact ⟨_, _, rfl, hnc, hcm, Rv.of_ownH h⟩

def encN (n : Int) : Value := .int .i64 n
theorem encN_one (l : List Int) : ∀ u ∈ l.map encN, u.oneCell' = true := by
  intro u hu
  obtain ⟨x, _, rfl⟩ := List.mem_map.1 hu
  rfl
theorem infoN : (Tryz.prog.info? 3).map (fun i => (i.zero, i.size, i.bytes)) = some (some (.int .i64 0), 1, 8) := by kernel_rfl
def OwnN (w : World) (base : Nat) (v : Value) (n : Nat) (l : List Int) : Prop := w.ownsRow base 3 1 v n (l.map encN)

theorem appendN_void (w : World) (base : Nat) (ty : TypeId) (v : Value) (n : Nat) (l : List Int) (hown : OwnN w base v n l) (A : Option Addr) (c : Nat) :
    (Builtin.append_ #[37, 37] ty #[v, .slice A 0 c]).run Tryz.prog w = .ok v w := by
  obtain ⟨i0, hi, hz0, hz1, hz2⟩ := info_parts infoN
  unfold OwnN at hown
  cases A <;> rcases hown.2 with ⟨rfl, rfl⟩ | ⟨g, cap, cur, rfl, _, _, hnc, _⟩ <;>
    simp [Builtin.append_, run_underlying Tryz.underlying37, sizeOf, typeInfo, Builtin.lenOf, Builtin.firstCells, storeCells, loadCells, loadCellsFrom, *]
theorem appendN (w : World) (base : Nat) (ty : TypeId) (v : Value) (n : Nat) (l : List Int) (hown : OwnN w base v n l) (B : Nat) (A : Option Addr) (m c : Nat) (news : List Int)
    (hR : Rv w B A (news.map encN)) (hm : news.length = m) (hsz : n + m ≤ 1000) (hbase : base ≤ w.heap.size) :
    ∃ v' w', (Builtin.append_ #[37, 37] ty #[v, .slice A m c]).run Tryz.prog w = .ok v' w' ∧ OwnN w' base v' (n + m) (l ++ news) ∧ w.grownBy w' v.ownBlock := by
  rcases Nat.eq_zero_or_pos m with h0 | h0
  · subst h0
    obtain rfl : news = [] := List.eq_nil_of_length_eq_zero hm
    exact ⟨v, w, appendN_void w base ty v n _ hown A c, by simpa using hown, grown_refl _ _⟩
  · obtain ⟨b, o, rfl, _, hc⟩ := hR (by rw [List.length_map]; omega)
    obtain ⟨i0, hi, hz0, hz1, hz2⟩ := info_parts infoN
    obtain ⟨v', w', hr, h2, h3, _⟩ := run_append_own (P := Tryz.prog) w base 37 ty 3 i0 (.int .i64 0) 1 8 Tryz.underlying37 hi hz0 hz1 hz2 rfl (by decide) v n (l.map encN) hown
      ⟨b, o, none⟩ m c (news.map encN) (by simpa using hm) (fun j u hu => by simpa [go_sem] using hc j u hu) (encN_one news) (by unfold maxLen; omega) (by omega) hbase
    exact ⟨v', w', hr, by unfold OwnN; rw [List.map_append]; exact h2, h3⟩
theorem wpList_appendN {w : World} {ops : Array Oper} {rest : List Oper} {o : Oper} {a : Act} {Q : Exit → Act → World → Prop} (hgd : o.guard = Option.none) (s x : Operand)
    (ho : o.op = .call { callee := .builtin .append, args := #[s, x], argTypes := #[37, 37] })
    (base : Nat) (v : Value) (n : Nat) (l : List Int) (hs : a.eval s = v) (hown : OwnN w base v n l)
    (B : Nat) (A : Option Addr) (m c : Nat) (news : List Int) (hx : a.eval x = .slice A m c) (hR : Rv w B A (news.map encN)) (hm : news.length = m) (hsz : n + m ≤ 1000) (hbase : base ≤ w.heap.size)
    (h : ∀ v' w', OwnN w' base v' (n + m) (l ++ news) → w.grownBy w' v.ownBlock → wpList Tryz.prog ops Q rest (a.put o.dst v') w') : wpList Tryz.prog ops Q (o :: rest) a w := by
  refine wpList_plain hgd fun _ hK => ?_
  obtain ⟨v', w', hr, h2, h3⟩ := appendN w base o.type v n l hown B A m c news hR hm hsz hbase
  unfold Oper.wp execOp
  simp only [ho, resolve, invoke, builtin, Sem.run_bind, Sem.run_pure, Result.andThen_ok, List.map_toArray, List.map_cons, List.map_nil, hs, hx, hr]
  exact hK _ _ (h v' w' h2 h3)
theorem Rv.of_ownN {w : World} {base n c : Nat} {A : Option Addr} {l : List Int} (h : OwnN w base (.slice A n c) n l) : Rv w w.heap.size A (l.map encN) := fun hn => by
  rw [List.length_map] at hn
  have hln : l.length = n := by have := h.1; simpa using this
  obtain ⟨g, cap, hv, _, hlt⟩ := World.ownsRow.form h (by omega)
  have hA : A = some ⟨g, 0, none⟩ := by injection hv
  subst hA
  refine ⟨g, 0, rfl, hlt, fun j u hu => ?_⟩
  have := World.ownsRow.cells h (g := g) rfl j u hu
  simpa [go_sem] using this
theorem own_formN {w : World} {base : Nat} {v : Value} {n : Nat} {l : List Int} (h : OwnN w base v n l) :
    l.length = n ∧ ∃ A c, v = .slice A n c ∧ n ≤ c ∧ c ≤ maxLen ∧ Rv w w.heap.size A (l.map encN) := by
  have hl : l.length = n := by have := h.1; simpa using this
  refine ⟨hl, ?_⟩
  rcases h.2 with ⟨rfl, rfl⟩ | ⟨g, cap, cur, rfl, _, _, hnc, hcm, _⟩
  · exact ⟨_, _, rfl, Nat.le_refl _, by decide, by obtain rfl : l = [] := List.eq_nil_of_length_eq_zero hl; exact Rv.nil_⟩
  · exact ⟨_, _, rfl, hnc, hcm, Rv.of_ownN h⟩

end Go.Proofs.YtpnoecjpplaicaaGreatDoor
namespace Go.Proofs.YtpnoecjpplaicaaGreatDoor
open Go.ChangeShapes Go.WideShapes Go.ChangeAt Go.RowKit

theorem apartHN {w : World} {b1 b2 n1 n2 : Nat} {v1 v2 : Value} {l1 l2 : List Int} (h1 : OwnH w b1 v1 n1 l1) (h2 : OwnN w b2 v2 n2 l2) : v2.ownBlock = Option.none ∨ v2.ownBlock ≠ v1.ownBlock := by
  unfold OwnH at h1
  unfold OwnN at h2
  rcases h1.2 with ⟨rfl, _⟩ | ⟨g1, c1, cur1, rfl, _, e1, _⟩
  · rcases h2.2 with ⟨rfl, _⟩ | ⟨g2, c2, cur2, rfl, _, e2, _⟩
    · exact .inl rfl
    · exact .inr (by simp [Value.ownBlock])
  · rcases h2.2 with ⟨rfl, _⟩ | ⟨g2, c2, cur2, rfl, _, e2, _⟩
    · exact .inl rfl
    · refine .inr fun e => ?_
      simp only [Value.ownBlock, Option.some.injEq] at e
      subst e
      rw [e1] at e2
      simp at e2

theorem apartNH {w : World} {b1 b2 n1 n2 : Nat} {v1 v2 : Value} {l1 l2 : List Int} (h1 : OwnH w b1 v1 n1 l1) (h2 : OwnN w b2 v2 n2 l2) : v1.ownBlock = Option.none ∨ v1.ownBlock ≠ v2.ownBlock := by
  rcases apartHN h1 h2 with h | h
  · rw [h]
    cases v1.ownBlock with
    | none => exact .inl rfl
    | some g => exact .inr (by simp)
  · exact .inr (Ne.symm h)

theorem OwnH.alloc {w : World} {b n : Nat} {v : Value} {l : List Int} (h : OwnH w b v n l) (o : Obj) : OwnH (w.alloc o) b v n l := World.ownsRow.alloc h o
theorem OwnN.alloc {w : World} {b n : Nat} {v : Value} {l : List Int} (h : OwnN w b v n l) (o : Obj) : OwnN (w.alloc o) b v n l := World.ownsRow.alloc h o
theorem OwnN.past {w w' : World} {b1 b2 n1 n2 : Nat} {v1 v2 : Value} {l1 l2 : List Int} (h2 : OwnN w b2 v2 n2 l2) (h1 : OwnH w b1 v1 n1 l1) (hg : w.grownBy w' v1.ownBlock) : OwnN w' b2 v2 n2 l2 := World.ownsRow.kept h2 hg (apartHN h1 h2)
theorem OwnH.past {w w' : World} {b1 b2 n1 n2 : Nat} {v1 v2 : Value} {l1 l2 : List Int} (h1 : OwnH w b1 v1 n1 l1) (h2 : OwnN w b2 v2 n2 l2) (hg : w.grownBy w' v2.ownBlock) : OwnH w' b1 v1 n1 l1 := World.ownsRow.kept h1 hg (apartNH h1 h2)

def FewPost (w : World) (l : List Int) (e : Ending) (w' : World) : Prop :=
  ∃ (A1 A2 : Option Addr) (c1 c2 : Nat), e = .returned (.tuple #[.slice A1 l.length c1, .slice A2 l.length c2]) ∧ l.length ≤ c1 ∧ l.length ≤ c2 ∧ c1 ≤ maxLen ∧ c2 ≤ maxLen ∧ Rv w' w'.heap.size A1 (l.map encH) ∧ Rv w' w'.heap.size A2 (l.map encN) ∧ Below w.heap.size w w'

theorem rv_oneH (w : World) (u : Int) : Rv (w.alloc (.cells #[.int .i32 u] 26)) (w.heap.size + 1) (some ⟨w.heap.size, 0, none⟩) ([u].map encH) := fun _ =>
  ⟨w.heap.size, 0, rfl, by omega, fun j x hx => by
    rcases j with _ | j
    · simp only [List.map_cons, List.map_nil, List.getElem?_cons_zero, Option.some.injEq] at hx
      subst hx
      simp [go_sem, encH]
    · simp at hx⟩
theorem rv_oneN (w : World) (u : Int) : Rv (w.alloc (.cells #[.int .i64 u] 3)) (w.heap.size + 1) (some ⟨w.heap.size, 0, none⟩) ([u].map encN) := fun _ =>
  ⟨w.heap.size, 0, rfl, by omega, fun j x hx => by
    rcases j with _ | j
    · simp only [List.map_cons, List.map_nil, List.getElem?_cons_zero, Option.some.injEq] at hx
      subst hx
      simp [go_sem, encN]
    · simp at hx⟩

end Go.Proofs.YtpnoecjpplaicaaGreatDoor
namespace Go.Proofs.YtpnoecjpplaicaaGreatDoor
open Go.ChangeShapes Go.WideShapes Go.ChangeAt Go.RowKit

/-- The first k are days that rise. -/
def upB (l : List Int) : Nat → Bool
  | 0 => true
  | k + 1 => upB l k && (dayB (l.getD k 0) && (k == 0 || decide (l.getD (k - 1) 0 < l.getD k 0)))
theorem upB_step {l : List Int} {k : Nat} {d : Int} (hd : l.getD k 0 = d) : upB l (k + 1) = (upB l k && (dayB d && (k == 0 || decide (l.getD (k - 1) 0 < d)))) := by simp only [upB]; rw [hd]
theorem upB_end {l : List Int} {k m : Nat} (hk : k ≤ m) (h : upB l k = false) : upB l m = false := by
  induction m with
  | zero => obtain rfl : k = 0 := by omega
            exact h
  | succ m ih =>
    rcases Nat.lt_or_ge k (m + 1) with h1 | h1
    · simp only [upB]; rw [ih (by omega)]; rfl
    · obtain rfl : k = m + 1 := by omega
      exact h
def rightL (l : List Int) : Bool := decide (l.length ≤ 200) && upB l l.length
theorem getD_at {l : List Int} {k : Nat} (h : k < l.length) : l.getD k 0 = l[k] := by simp [List.getD, h]

set_option maxRecDepth 20000 in
set_option maxHeartbeats 1000000 in
theorem HRight_any (A : Option Addr) (n c B : Nat) (l : List Int) (w : World) (hR : Rv w B A (l.map encH)) (hn : l.length = n) (hm : n ≤ 140737488355328) (hw : ∀ u ∈ l, -2147483648 ≤ u ∧ u ≤ 2147483647) :
    Calls Tryz.prog 29 #[.slice A n c] w fun e w' => e = .returned (.bool (rightL l)) ∧ w = w' := by
  subst hn
  unfold rightL
  by_cases h2 : 200 < l.length
  · rw [decide_eq_false (by omega), Bool.false_and]
    clear hR hw
    go_enter Tryz.func29, Tryz.ntmps29
    go_wp2_with fail
    go_ret
    exact ⟨rfl, rfl⟩
  rw [decide_eq_true (by omega : l.length ≤ 200), Bool.true_and]
  have HR := Lib.hid hR
  have HWf := Lib.hid hw
  clear hR hw
  go_enter Tryz.func29, Tryz.ntmps29
  go_wp2_with fail
  go_loop [10] (fun i => ∃ k : Nat, k ≤ l.length ∧ i = .int .i64 k ∧ Hid (upB l k = true)) (fun i => l.length - (intOf i).toNat)
  case atStart => exact ⟨0, Nat.zero_le _, rfl, Lib.hid rfl⟩
  case round =>
    obtain ⟨k, hk, rfl, HU⟩ := hrel
    by_cases hlt : k < l.length
    · have hRl : k < (l.map encH).length := by rw [List.length_map]; exact hlt
      obtain ⟨b, o, rfl, hb, hc⟩ := HR.out.at_ hRl
      rw [List.getElem_map] at hc
      have hwf := HWf.out l[k] (List.getElem_mem hlt)
      have hgd := getD_at hlt
      obtain ⟨u, hu⟩ : ∃ u, l[k] = u := ⟨_, rfl⟩
      rw [hu] at hc hwf hgd
      simp only [encH] at hc
      obtain ⟨u0, u1⟩ := hwf
      have HS := Lib.hid (upB_step (l := l) (k := k) hgd)
      clear hu hgd
      have hD := fun W => DRight_any u W
      cases hd : dayB u
      · rw [hd] at hD
        have HE := Lib.hid (show upB l l.length = false from upB_end (show k + 1 ≤ l.length from hlt) (by rw [HS.out, hd]; simp))
        clear hd
        go_wp2_with (go_at_call 70; refine (hD _).mono ?_; rintro e w' ⟨rfl, rfl⟩)
        go_ret
        exact ⟨by rw [HE.out]; rfl, rfl⟩
      · rw [hd] at hD HS
        clear hd
        by_cases hk0 : k = 0
        · subst hk0
          rw [Nat.add_zero] at hc
          have HE := Lib.hid (show upB l (0 + 1) = true by rw [HS.out, HU.out]; rfl)
          go_wp2_with (go_at_call 70; refine (hD _).mono ?_; rintro e w' ⟨rfl, rfl⟩)
          go_round
          case rel => exact ⟨1, by omega, by go_num, Lib.hid HE.out⟩
          case measure => simp [intOf]; omega
        · have hk1 : k - 1 < l.length := by omega
          have hRl1 : k - 1 < (l.map encH).length := by rw [List.length_map]; exact hk1
          obtain ⟨b', o', he, hb', hc1⟩ := HR.out.at_ hRl1
          injection he with he
          injection he with e1 e2 e3
          subst e1
          subst e2
          rw [List.getElem_map] at hc1
          have hgd1 := getD_at hk1
          obtain ⟨p, hp⟩ : ∃ p, l[k - 1] = p := ⟨_, rfl⟩
          rw [hp] at hc1 hgd1
          simp only [encH] at hc1
          rw [hgd1] at HS
          have hk2 : (0 : Int) < (k : Int) := by omega
          have hj : ((k : Int) - 1).toNat = k - 1 := by omega
          clear hp hgd1 hRl1 hRl
          by_cases hlp : u ≤ p
          · have HE := Lib.hid (show upB l l.length = false from upB_end (show k + 1 ≤ l.length from hlt) (by rw [HS.out, HU.out, decide_eq_false (by omega : ¬ p < u)]; simp [hk0]))
            go_wp2_with (go_at_call 70; refine (hD _).mono ?_; rintro e w' ⟨rfl, rfl⟩)
            go_ret
            exact ⟨by rw [HE.out]; rfl, rfl⟩
          · have HE := Lib.hid (show upB l (k + 1) = true by rw [HS.out, HU.out, decide_eq_true (by omega : p < u)]; simp)
            go_wp2_with (go_at_call 70; refine (hD _).mono ?_; rintro e w' ⟨rfl, rfl⟩)
            go_round
            case rel => exact ⟨k + 1, by omega, by go_num, HE⟩
            case measure => simp [intOf]; omega
    · obtain rfl : k = l.length := by omega
      go_wp2_with fail
      go_ret
      exact ⟨by rw [HU.out]; rfl, rfl⟩
end Go.Proofs.YtpnoecjpplaicaaGreatDoor
