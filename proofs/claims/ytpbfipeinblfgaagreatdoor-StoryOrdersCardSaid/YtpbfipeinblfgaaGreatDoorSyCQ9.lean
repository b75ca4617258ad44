/-
A loan's story as a function: events, days, entries; how large what is counted can be. No condition.
A region that draws its order, op by op, under any relation of worlds that is kept (XFlow with another relation); stores too. No condition.
Regions that draw their order and store into blocks that they made. No condition.
Blocks of structs read and written whole, or in the midst, by what is known of the block alone. No condition.
How a teller lies in memory: its own block, the entries that it has told, the events that are to come. No condition.
-/
import Derived.Test.YtpbfipeinblfgaaGreatDoorChDaQ9
import Derived.Test.YtpbfipeinblfgaaGreatDoorYldAQ9
import Derived.Test.YtpbfipeinblfgaaGreatDoorSpanMQ9
import Derived.Test.YtpbfipeinblfgaaGreatDoorFlowQ9
import Derived.Test.YtpbfipeinblfgaaGreatDoorMemQ9
import Derived.Deep.MidRow
import Derived.Tactics
import Derived.Test.YtpbfipeinblfgaaGreatDoorDateAQ9
namespace Go.Proofs.YtpbfipeinblfgaaGreatDoor

/-- An event. -/
structure Ev where
  s : Nat
  d : Int
  k : Nat
  a : Int
abbrev En := Ky × List (Nat × Int)
/-- How a story stands: fees, interest, principal; carry; paid, suspense, recovered, cash; status; months; entries. -/
structure TS where
  f : Int
  i : Int
  p : Int
  c : Nat
  d : Int
  s : Int
  r : Int
  h : Int
  t : Nat
  m : Nat
  L : List En
noncomputable def TS.add (x : TS) (a : Nat) (day : Int) (k s : Nat) (l : List (Nat × Int)) : TS := { x with L := x.L ++ [(⟨a, day, k, s⟩, mkL l)] }
/-- What of a payment goes to each part. -/
def goF (x : TS) (a : Int) : Int := min x.f a
def goI (x : TS) (a : Int) : Int := min x.i (a - goF x a)
def goP (x : TS) (a : Int) : Int := min x.p (a - goF x a - goI x a)
def goL (x : TS) (a : Int) : Int := a - goF x a - goI x a - goP x a
noncomputable def regM (n : Nat) (day : Int) (x : TS) (e : Ev) : TS := TS.add { x with h := x.h + e.a, r := x.r + e.a } n day 4 e.s [(1, e.a), (9, -e.a)]
noncomputable def payM (n : Nat) (day : Int) (x : TS) (e : Ev) : TS :=
  TS.add { x with f := x.f - goF x e.a, i := x.i - goI x e.a, p := x.p - goP x e.a, d := x.d + (goI x e.a + goP x e.a), s := x.s + goL x e.a, h := x.h + e.a } n day 4 e.s [(1, e.a), (4, -goF x e.a), (3, -goI x e.a), (2, -goP x e.a), (5, -goL x e.a)]
noncomputable def chgM (n : Nat) (day : Int) (k s : Nat) (F : Int) (x : TS) : TS := TS.add { x with f := x.f + F } n day k s [(4, F), (7, -F)]
noncomputable def waiM (n : Nat) (day : Int) (x : TS) (e : Ev) : TS := TS.add { x with f := x.f - min x.f e.a } n day 6 e.s [(7, min x.f e.a), (4, -min x.f e.a)]
noncomputable def offM (n : Nat) (day : Int) (x : TS) (e : Ev) : TS := TS.add { x with f := 0, i := 0, p := 0, t := 3 } n day 7 e.s [(8, x.f + x.i + x.p), (2, -x.p), (3, -x.i), (4, -x.f)]
noncomputable def telM (n : Nat) (day : Int) (x : TS) (e : Ev) : TS :=
  if e.k = 4 then (if x.t = 3 then regM n day x e else payM n day x e)
  else if x.t = 1 then (if e.k = 5 then chgM n day 5 e.s e.a x else if e.k = 6 then waiM n day x e else if e.k = 7 then offM n day x e else x)
  else x
noncomputable def hapM (n : Nat) (day : Int) (x : TS) (e : Ev) : TS :=
  if (telM n day x e).t = 1 ∧ (telM n day x e).f = 0 ∧ (telM n day x e).i = 0 ∧ (telM n day x e).p = 0 then { telM n day x e with t := 2 } else telM n day x e
/-- The events of the day, and those that are left. -/
noncomputable def hapN (n : Nat) (day : Int) : List Ev → TS → TS × List Ev
  | [], x => (x, [])
  | e :: l, x => if e.d = day then hapN n day l (hapM n day x e) else (x, e :: l)
/-- A month that has come: its fee. -/
noncomputable def lateM (n : Nat) (F : Int) (Sm : Nat → Int) (day : Int) (x : TS) : TS :=
  if x.d < Sm x.m ∧ F ≠ 0 then chgM n day 3 (x.m + 1) F { x with m := x.m + 1 } else { x with m := x.m + 1 }
noncomputable def lateN (n : Nat) (F G : Int) (M : Nat) (D Sm : Nat → Int) (day : Int) : Nat → TS → TS
  | 0, x => x
  | k + 1, x => if x.m < M ∧ D x.m + G = day then lateN n F G M D Sm day k (lateM n F Sm day x) else x
/-- What a day adds. -/
def oneD (b : Nat) (day : Int) : Nat := (accB b (day + 1) - accB b day).toNat
noncomputable def accM (n R b : Nat) (day : Int) (x : TS) : TS :=
  TS.add { x with i := x.i + (((x.p.toNat * R * oneD b day + x.c) / unitN b : Nat) : Int), c := (x.p.toNat * R * oneD b day + x.c) % unitN b } n day 2 0
    [(3, (((x.p.toNat * R * oneD b day + x.c) / unitN b : Nat) : Int)), (6, -(((x.p.toNat * R * oneD b day + x.c) / unitN b : Nat) : Int))]
/-- What a loan's terms and its due days say: number, principal, rate, basis, months, first day, fee, grace; each month's day and sum. -/
structure Deal where
  n : Nat
  K : Nat
  P : Int
  R : Nat
  b : Nat
  M : Nat
  S : Int
  F : Int
  G : Int
  D : Nat → Int
  Sm : Nat → Int
structure Deal.Ok (o : Deal) : Prop where
  n : o.n < 4294967296
  P : 1 ≤ o.P ∧ o.P ≤ 1000000000000
  R : o.R ≤ 1000000
  b : o.b = 1 ∨ o.b = 2
  M : 1 ≤ o.M ∧ o.M ≤ 480
  S : 0 ≤ o.S ∧ o.S ≤ 3600000
  F : 0 ≤ o.F ∧ o.F ≤ 1000000000
  G : 0 ≤ o.G ∧ o.G ≤ 60
  D : ∀ k, k < o.M → 0 ≤ o.D k ∧ o.D k ≤ 3652058
  Sm : ∀ k, k < o.M → -9223372036854775808 ≤ o.Sm k ∧ o.Sm k ≤ 9223372036854775807
noncomputable def endM (o : Deal) (day : Int) (x : TS) : TS := if x.t = 1 then accM o.n o.R o.b day (lateN o.n o.F o.G o.M o.D o.Sm day (o.M - x.m) x) else x
noncomputable def begM (o : Deal) : TS := TS.add ⟨0, 0, o.P, 0, 0, 0, 0, 0, 1, 0, []⟩ o.n o.S 1 0 [(2, o.P), (1, -o.P)]
/-- So many whole days, and then the events of the next one. -/
noncomputable def tellN (o : Deal) : Nat → Int → TS → List Ev → TS
  | 0, d, x, l => (hapN o.n d l x).1
  | k + 1, d, x, l => tellN o k (d + 1) (endM o d (hapN o.n d l x).1) (hapN o.n d l x).2

/-- Nothing is more than Z, nor less than nothing. -/
structure Bd (b : Nat) (M : Nat) (x : TS) (Z : Int) : Prop where
  f : 0 ≤ x.f ∧ x.f ≤ Z
  i : 0 ≤ x.i ∧ x.i ≤ Z
  p : 0 ≤ x.p ∧ x.p ≤ 1000000000000
  c : x.c < unitN b
  d : 0 ≤ x.d ∧ x.d ≤ Z
  s : 0 ≤ x.s ∧ x.s ≤ Z
  r : 0 ≤ x.r ∧ x.r ≤ Z
  h : 0 ≤ x.h ∧ x.h ≤ Z
  t : x.t ≤ 3
  m : x.m ≤ M
/-- An event that may be. -/
structure EvOk (e : Ev) : Prop where
  s : e.s < 4294967296
  d : 0 ≤ e.d ∧ e.d ≤ 3652058
  k : e.k = 4 ∨ e.k = 5 ∨ e.k = 6 ∨ e.k = 7
  a : 0 ≤ e.a ∧ e.a ≤ 1000000000000
section
variable {b M n : Nat} {day : Int} {x : TS} {Z : Int} {e : Ev}
theorem go_bd (h : Bd b M x Z) {a : Int} (ha : 0 ≤ a) : (0 ≤ goF x a ∧ goF x a ≤ x.f) ∧ (0 ≤ goI x a ∧ goI x a ≤ x.i) ∧ (0 ≤ goP x a ∧ goP x a ≤ x.p) ∧ 0 ≤ goL x a ∧ goF x a + goI x a + goP x a + goL x a = a := by
  have := h.f; have := h.i; have := h.p
  unfold goL goP goI goF
  omega
theorem Bd.more (h : Bd b M x Z) {Y : Int} (hY : Z ≤ Y) : Bd b M x Y := by
  obtain ⟨a1, a2, a3, a4, a5, a6, a7, a8, a9, a10⟩ := h
  constructor <;> first | assumption | (constructor <;> omega)
theorem Bd.tel (h : Bd b M x Z) (he : EvOk e) : Bd b M (telM n day x e) (Z + 1000000000000) := by
  have g := go_bd h he.a.1
  obtain ⟨a1, a2, a3, a4, a5, a6, a7, a8, a9, a10⟩ := h
  obtain ⟨e1, e2, e3, e4⟩ := he
  unfold telM
  split
  · split
    · constructor <;> simp only [regM, TS.add] <;> first | assumption | omega
    · constructor <;> simp only [payM, TS.add] <;> first | assumption | omega
  · split
    · split
      · constructor <;> simp only [chgM, TS.add] <;> first | assumption | omega
      · split
        · constructor <;> simp only [waiM, TS.add] <;> first | assumption | omega
        · split
          · constructor <;> simp only [offM, TS.add] <;> first | assumption | omega
          · constructor <;> first | assumption | omega
    · constructor <;> first | assumption | omega
theorem Bd.hap (h : Bd b M x Z) (he : EvOk e) : Bd b M (hapM n day x e) (Z + 1000000000000) := by
  have g : Bd b M (telM n day x e) (Z + 1000000000000) := h.tel he
  unfold hapM
  split
  · obtain ⟨a1, a2, a3, a4, a5, a6, a7, a8, a9, a10⟩ := g
    constructor <;> first | assumption | (show (2 : Nat) ≤ 3; omega)
  · exact g
theorem Bd.late {F : Int} {Sm : Nat → Int} (h : Bd b M x Z) (hF : 0 ≤ F ∧ F ≤ 1000000000) (hm : x.m < M) : Bd b M (lateM n F Sm day x) (Z + 1000000000) := by
  obtain ⟨a1, a2, a3, a4, a5, a6, a7, a8, a9, a10⟩ := h
  unfold lateM
  split
  · constructor <;> simp only [chgM, TS.add] <;> first | assumption | omega
  · constructor <;> first | assumption | omega | (dsimp only; omega)
theorem late_m {F : Int} {Sm : Nat → Int} : (lateM n F Sm day x).m = x.m + 1 := by
  unfold lateM
  split <;> rfl
theorem late_t {F : Int} {Sm : Nat → Int} : (lateM n F Sm day x).t = x.t := by
  unfold lateM
  split <;> rfl
theorem late_p {F : Int} {Sm : Nat → Int} : (lateM n F Sm day x).p = x.p := by
  unfold lateM
  split <;> rfl
theorem lateN_m {F G : Int} {D Sm : Nat → Int} : ∀ (k : Nat) (x : TS), x.m ≤ (lateN n F G M D Sm day k x).m
  | 0, _ => Nat.le_refl _
  | k + 1, x => by
    unfold lateN
    split
    · have := lateN_m (F := F) (G := G) (D := D) (Sm := Sm) k (lateM n F Sm day x)
      rw [late_m] at this
      omega
    · exact Nat.le_refl _
theorem Bd.lates {F G : Int} {D Sm : Nat → Int} (hF : 0 ≤ F ∧ F ≤ 1000000000) : ∀ (k : Nat) (x : TS) (Z : Int), Bd b M x Z → Bd b M (lateN n F G M D Sm day k x) (Z + 1000000000 * (((lateN n F G M D Sm day k x).m : Int) - x.m))
  | 0, x, Z, h => by
    show Bd b M x (Z + 1000000000 * ((x.m : Int) - x.m))
    exact h.more (by omega)
  | k + 1, x, Z, h => by
    unfold lateN
    split
    · rename_i hc
      have g := Bd.lates (G := G) (D := D) (Sm := Sm) hF k (lateM n F Sm day x) _ (h.late hF hc.1)
      rw [late_m] at g
      exact g.more (by have := lateN_m (n := n) (M := M) (day := day) (F := F) (G := G) (D := D) (Sm := Sm) k (lateM n F Sm day x); rw [late_m] at this; omega)
    · exact h.more (by omega)
end
theorem one_bd {b : Nat} {day : Int} (h0 : 0 ≤ day) (h1 : day < 3652058) : oneD b day ≤ 3 ∧ accB b (day + 1) - accB b day = (oneD b day : Int) := by
  obtain ⟨g0, g1⟩ := accB_step b day h0 h1
  unfold oneD
  omega
/-- A day's interest is not much. -/
theorem accS_bd {b R D c : Nat} {p : Int} (hp : 0 ≤ p ∧ p ≤ 1000000000000) (hR : R ≤ 1000000) (hD : D ≤ 3) (hc : c < unitN b) : ((p.toNat * R * D + c) / unitN b : Nat) ≤ 10000000000 ∧ (p.toNat * R * D + c) % unitN b < unitN b := by
  have hU := unitN_bd b
  have h1 : p.toNat * R ≤ 1000000000000 * 1000000 := Nat.mul_le_mul (by omega) hR
  have h2 : p.toNat * R * D ≤ 1000000000000 * 1000000 * 3 := Nat.mul_le_mul h1 hD
  refine ⟨?_, Nat.mod_lt _ (by omega)⟩
  have h3 : (p.toNat * R * D + c) / unitN b < 10000000001 := Nat.div_lt_of_lt_mul (by
    have : 360000000 * 10000000001 ≤ unitN b * 10000000001 := Nat.mul_le_mul hU.1 (Nat.le_refl _)
    omega)
  omega
section
variable {b M n R : Nat} {day : Int} {x : TS} {Z : Int}
theorem Bd.acc (h : Bd b M x Z) (hR : R ≤ 1000000) (h0 : 0 ≤ day) (h1 : day < 3652058) : Bd b M (accM n R b day x) (Z + 10000000000) := by
  have g := accS_bd (b := b) (c := x.c) h.p hR (one_bd (b := b) h0 h1).1 h.c
  have q0 := Int.natCast_nonneg ((x.p.toNat * R * oneD b day + x.c) / unitN b)
  obtain ⟨a1, a2, a3, a4, a5, a6, a7, a8, a9, a10⟩ := h
  constructor <;> simp only [accM, TS.add] <;> first | assumption | exact g.2 | (have := g.1; have := q0; omega)
end
/-- A day's end brings no more than its fees, and its interest. -/
theorem Bd.end_ {o : Deal} (ho : o.Ok) {x : TS} {Z day : Int} (h : Bd o.b o.M x Z) (h0 : 0 ≤ day) (h1 : day < 3652058) : Bd o.b o.M (endM o day x) (Z + 1000000000 * (((endM o day x).m : Int) - x.m) + 10000000000) ∧ x.m ≤ (endM o day x).m := by
  unfold endM
  split
  · have g := Bd.lates (n := o.n) (M := o.M) (day := day) (G := o.G) (D := o.D) (Sm := o.Sm) ho.F (o.M - x.m) x Z h
    have hm := lateN_m (n := o.n) (M := o.M) (day := day) (F := o.F) (G := o.G) (D := o.D) (Sm := o.Sm) (o.M - x.m) x
    exact ⟨g.acc ho.R h0 h1, hm⟩
  · exact ⟨h.more (by omega), Nat.le_refl _⟩
/-- Events of a day: no more than each of them. -/
theorem Bd.haps {b M n : Nat} {day : Int} : ∀ (l : List Ev) (x : TS) (Z : Int), Bd b M x Z → (∀ e ∈ l, EvOk e) → Bd b M (hapN n day l x).1 (Z + 1000000000000 * ((l.length : Int) - (hapN n day l x).2.length)) ∧ (hapN n day l x).2.length ≤ l.length ∧ (hapN n day l x).1.m = x.m ∧ ∃ k, (hapN n day l x).2 = l.drop k
  | [], x, Z, h, _ => ⟨h.more (by simp [hapN]), Nat.le_refl _, rfl, 0, rfl⟩
  | e :: l, x, Z, h, he => by
    unfold hapN
    split
    · obtain ⟨g1, g2, g3, k, g4⟩ := Bd.haps l (hapM n day x e) _ (h.hap (he e (List.mem_cons_self ..))) (fun y hy => he y (List.mem_cons_of_mem _ hy))
      refine ⟨g1.more (by simp only [List.length_cons]; omega), by simp only [List.length_cons]; omega, ?_, k + 1, by rw [g4]; rfl⟩
      rw [g3]
      unfold hapM telM regM payM chgM waiM offM TS.add
      repeat' split
      all_goals rfl
    · exact ⟨h.more (by simp), Nat.le_refl _, rfl, 0, rfl⟩
end Go.Proofs.YtpbfipeinblfgaaGreatDoor
namespace Go.Proofs.YtpbfipeinblfgaaGreatDoor
open Go Go.RowKit

section flowG
variable {P : Program}
/-- How worlds may follow each other. -/
structure Rel where
  r : World → World → Prop
  refl : ∀ w, r w w
  drew : ∀ w : World, r w w.drew
  trans : ∀ {a b c : World}, r a b → r b c → r a c
variable {R : Rel}
/-- The slot that holds a store's address, or the map that is written. -/
def addrOf (o : Oper) : Option Tmp := match o.dst, o.op with | none, .store _ (.tmp s) _ => some s | none, .entryStore _ (.tmp s) _ _ => some s | none, .mapUpdate _ (.tmp s) _ _ => some s | _, _ => none
/-- What is kept of an operation: its value; of a store its address. -/
def resV (o : Oper) (a : Act) (v : Value) : Value := match addrOf o with | some s => a.eval (.tmp s) | none => v
theorem addr_dst {o : Oper} {s : Tmp} (h : addrOf o = some s) : o.dst = none := by
  unfold addrOf at h
  split at h <;> first | assumption | cases h
theorem addr_sees {ops : Array Oper} {o : Oper} {s : Tmp} (h : addrOf o = some s) : s ∈ o.looksAt ops := by
  obtain ⟨dst, op, ty, pos, af, g⟩ := o
  unfold addrOf at h
  split at h
  · rename_i s' _ h1 h2
    simp only at h2
    subst h2
    cases h
    simp [Oper.looksAt, Op.operands]
  · rename_i s' _ _ h1 h2
    simp only at h2
    subst h2
    cases h
    simp [Oper.looksAt, Op.operands]
  · rename_i s' _ _ h1 h2
    simp only at h2
    subst h2
    cases h
    simp [Oper.looksAt, Op.operands]
  · cases h
/-- What is known of a slot, in every later world too. -/
structure FlwG (R : Rel) where
  p : Value → World → Prop
  mono : ∀ {v : Value} {w w' : World}, p v w → R.r w w' → p v w'
def FlwG.is (v : Value) : FlwG R := ⟨fun u _ => u = v, fun h _ => h⟩
def FlwG.any : FlwG R := ⟨fun _ _ => True, fun _ _ => trivial⟩
/-- What an operation sees of a slot. -/
def seeSG (ds : List (Option Tmp)) (F : Nat → FlwG R) (a0 a : Act) (w : World) (d : Tmp) : Prop :=
  match wr d ds 0 with
  | some j => (F j).p (a.eval (.tmp d)) w
  | none => a.eval (.tmp d) = a0.eval (.tmp d)
def seesSG (ds : List (Option Tmp)) (F : Nat → FlwG R) (a0 a : Act) (w : World) : List Tmp → Prop
  | [] => True
  | d :: r => seeSG ds F a0 a w d ∧ seesSG ds F a0 a w r
theorem seesS_ofG {ds : List (Option Tmp)} {F : Nat → FlwG R} {a0 a : Act} {w : World} : ∀ {l : List Tmp}, (∀ d ∈ l, seeSG ds F a0 a w d) → seesSG ds F a0 a w l
  | [], _ => trivial
  | d :: r, h => ⟨h d (by simp), seesS_ofG fun e he => h e (by simp [he])⟩
/-- What is asked of operation i. -/
def stepFG (P : Program) (ops : Array Oper) (ds : List (Option Tmp)) (F : Nat → FlwG R) (a0 : Act) (w0 : World) (i : Nat) (o : Oper) : Prop :=
  ∀ a w, seesSG ds F a0 a w (o.looksAt ops) → R.r w0 w →
    if Region.wanted o (yielded ops a.tmps) then opC P o a w (fun v w' => (F i).p (resV o a v) w' ∧ R.r w w') else (F i).p (resV o a undef) w
def stepsFG (P : Program) (ops : Array Oper) (ds : List (Option Tmp)) (F : Nat → FlwG R) (a0 : Act) (w0 : World) : Nat → List Oper → Prop
  | _, [] => True
  | i, o :: r => stepFG P ops ds F a0 w0 i o ∧ stepsFG P ops ds F a0 w0 (i + 1) r
theorem stepsF_atG {ops : Array Oper} {ds : List (Option Tmp)} {F : Nat → FlwG R} {a0 : Act} {w0 : World} : ∀ {l : List Oper} {k : Nat}, stepsFG P ops ds F a0 w0 k l → ∀ (i : Nat) (o : Oper), l[i]? = some o → stepFG P ops ds F a0 w0 (k + i) o
  | [], _, _, i, o, h => by simp at h
  | x :: r, k, hs, i, o, h => by
    cases i with
    | zero => obtain rfl : x = o := by simpa using h
              exact hs.1
    | succ i => have := stepsF_atG hs.2 i o (by simpa using h)
                rwa [show k + 1 + i = k + (i + 1) by omega] at this
/-- Where the walk of a region stands. -/
structure AtFG (ops : Array Oper) (F : Nat → FlwG R) (a0 : Act) (listed : Array Bool) (a : Act) (w : World) : Prop where
  ls : listed.size = ops.size
  sz : a.tmps.size = a0.tmps.size
  df : a.defers = a0.defers
  old : ∀ d, (∀ (i : Nat) (o : Oper), ops[i]? = some o → o.dst = some d → listed[i]? = some false) → a.tmps[d]? = a0.tmps[d]?
  new : ∀ (i : Nat) (o : Oper) (d : Tmp), ops[i]? = some o → o.dst = some d → listed[i]? = some true → (F i).p (a.eval (.tmp d)) w
  non : ∀ (i : Nat) (o : Oper) (s : Tmp), ops[i]? = some o → addrOf o = some s → listed[i]? = some true → (F i).p (a.eval (.tmp s)) w ∧ ∀ (j : Nat) (oj : Oper), ops[j]? = some oj → oj.dst = some s → listed[j]? = some true
theorem AtFG.put {ops : Array Oper} {F : Nat → FlwG R} {a0 a : Act} {listed : Array Bool} {w w' : World} (hk : FlowOk ops a0.tmps.size) (h : AtFG ops F a0 listed a w) {i : Nat} {o : Oper} (ho : ops[i]? = some o)
    {v : Value} (hi0 : listed[i]? = some false) (hr : ∀ e ∈ o.after, Region.binds .any e = true → listed[e.on]? = some true) (hv : (F i).p (resV o a v) w') (hb : R.r w w') : AtFG ops F a0 (listed.setIfInBounds i true) (a.put o.dst v) w' := by
  have hi := size_of_some ho
  have hli : i < listed.size := by rw [h.ls]; exact hi
  refine ⟨by simp [h.ls], ?_, ?_, fun d hd => ?_, fun j oj d hj hd hl => ?_, fun j oj s hj hs hl => ?_⟩
  · cases e : o.dst <;> simp [Act.put, h.sz]
  · cases e : o.dst <;> simp [Act.put, h.df]
  · have hne : o.dst ≠ some d := fun e => by
      have := hd i o ho e
      rw [Array.getElem?_setIfInBounds_self_of_lt hli] at this
      cases this
    have : (a.put o.dst v).tmps[d]? = a.tmps[d]? := by
      cases e : o.dst with
      | none => rfl
      | some d' =>
        have : d' ≠ d := fun e' => hne (by rw [e, e'])
        simp [Act.put, Array.getElem?_setIfInBounds_ne this]
    rw [this]
    refine h.old d fun j oj hj hdj => ?_
    have hji : i ≠ j := fun e => hne (by subst e; rw [ho] at hj; injection hj with hj; rw [hj]; exact hdj)
    have := hd j oj hj hdj
    rwa [Array.getElem?_setIfInBounds_ne hji] at this
  · by_cases hji : i = j
    · subst hji
      obtain rfl : o = oj := by rw [ho] at hj; injection hj
      have hdz := hk.lt i o d ho hd
      have : (a.put o.dst v).eval (.tmp d) = v := by
        rw [hd]
        have hd2 : d < a.tmps.size := by rw [h.sz]; exact hdz
        simp [Act.put, Act.eval, Array.getD, hd2]
      rw [this]
      have e9 : resV o a v = v := by
        unfold resV
        cases e : addrOf o with
        | none => rfl
        | some s => rw [addr_dst e] at hd; cases hd
      rw [e9] at hv
      exact hv
    · have hl2 : listed[j]? = some true := by rwa [Array.getElem?_setIfInBounds_ne hji] at hl
      have h2 := h.new j oj d hj hd hl2
      have : (a.put o.dst v).eval (.tmp d) = a.eval (.tmp d) := by
        refine Act.eval_put fun d' hd' e => ?_
        injection e with e
        subst e
        exact hji (hk.one j i oj o d hj ho hd hd')
      rw [this]
      exact (F j).mono h2 hb
  · have hev : ∀ (hw : ∀ (k : Nat) (ok : Oper), ops[k]? = some ok → ok.dst = some s → listed[k]? = some true), (a.put o.dst v).eval (.tmp s) = a.eval (.tmp s) := fun hw => by
      refine Act.eval_put fun d' hd' e => ?_
      injection e with e
      subst e
      have := hw i o ho hd'
      rw [hi0] at this
      cases this
    by_cases hji : i = j
    · subst hji
      obtain rfl : o = oj := by rw [ho] at hj; injection hj
      have hw : ∀ (k : Nat) (ok : Oper), ops[k]? = some ok → ok.dst = some s → listed[k]? = some true := fun k ok hk1 hk2 => by
        obtain ⟨e, he, hbd, rfl⟩ := hk.edge i o s k ok ho (addr_sees hs) hk1 hk2
        exact hr e he hbd
      refine ⟨?_, fun k ok hk1 hk2 => set_keeps (hw k ok hk1 hk2)⟩
      rw [hev hw]
      unfold resV at hv
      rw [hs] at hv
      exact hv
    · have hl2 : listed[j]? = some true := by rwa [Array.getElem?_setIfInBounds_ne hji] at hl
      obtain ⟨h2, h3⟩ := h.non j oj s hj hs hl2
      refine ⟨?_, fun k ok hk1 hk2 => set_keeps (h3 k ok hk1 hk2)⟩
      rw [hev h3]
      exact (F j).mono h2 hb
theorem sees_atG {ops : Array Oper} {F : Nat → FlwG R} {a0 a : Act} {listed : Array Bool} {w : World} (hk : FlowOk ops a0.tmps.size) (h : AtFG ops F a0 listed a w) {i : Nat} {o : Oper} (ho : ops[i]? = some o)
    (hr : ∀ e ∈ o.after, Region.binds .any e = true → listed[e.on]? = some true) : seesSG (ops.toList.map (·.dst)) F a0 a w (o.looksAt ops) := by
  refine seesS_ofG fun d hd => ?_
  unfold seeSG
  split
  · rename_i j hj
    obtain ⟨-, hj⟩ := wr_some hj
    rw [Nat.sub_zero, List.getElem?_map, Array.getElem?_toList] at hj
    obtain ⟨oj, h1, h2⟩ := Option.map_eq_some_iff.1 hj
    obtain ⟨e, he, hb, rfl⟩ := hk.edge i o d j oj ho hd h1 h2
    exact h.new _ oj d h1 h2 (hr e he hb)
  · rename_i hn
    have := h.old d fun j oj hj hdj => by
      exfalso
      refine wr_none hn j ?_
      rw [List.getElem?_map, Array.getElem?_toList, hj]
      simp [hdj]
    simp only [Act.eval, Array.getD_eq_getD_getElem?, this]
theorem AtFG.all {ops : Array Oper} {F : Nat → FlwG R} {a0 a : Act} {listed : Array Bool} {w : World} (hk : FlowOk ops a0.tmps.size) (h : AtFG ops F a0 listed a w) (hl : ∀ (i : Nat) (o : Oper), ops[i]? = some o → listed[i]? = some true) :
    ∃ f : Nat → Value, a = putF f (ops.toList.map (·.dst)) 0 a0 ∧ ∀ (i : Nat) (o : Oper) (d : Tmp), ops[i]? = some o → o.dst = some d → (F i).p (f i) w := by
  refine ⟨fun i => match (ops[i]?).bind (·.dst) with | some d => a.eval (.tmp d) | none => undef, ?_, fun i o d ho hd => ?_⟩
  · obtain ⟨s1, s2⟩ := putF_size (fun i => match (ops[i]?).bind (·.dst) with | some d => a.eval (.tmp d) | none => undef) (ops.toList.map (·.dst)) 0 a0
    refine act_ext (by rw [s1, h.sz]) (by rw [s2, h.df]) fun d => ?_
    cases e : wr d (ops.toList.map (·.dst)) 0 with
    | none =>
      have hn := wr_none e
      rw [putF_old _ _ _ _ _ hn]
      refine h.old d fun j oj hj hdj => ?_
      exfalso
      refine hn j ?_
      rw [List.getElem?_map, Array.getElem?_toList, hj]
      simp [hdj]
    | some j =>
      obtain ⟨-, hj⟩ := wr_some e
      rw [Nat.sub_zero] at hj
      have hj' := hj
      rw [List.getElem?_map, Array.getElem?_toList] at hj
      obtain ⟨oj, h1, h2⟩ := Option.map_eq_some_iff.1 hj
      have hdz := hk.lt j oj d h1 h2
      rw [putF_new _ _ _ _ d j hdz hj' (fun i hi => by
        rw [List.getElem?_map, Array.getElem?_toList] at hi
        obtain ⟨oi, g1, g2⟩ := Option.map_eq_some_iff.1 hi
        exact hk.one j i oj oi d h1 g1 h2 g2)]
      have hd2 : d < a.tmps.size := by rw [h.sz]; exact hdz
      simp [h1, h2, Act.eval, Array.getD, hd2]
  · simp only [ho, Option.bind_some, hd]
    exact h.new i o d ho hd (hl i o ho)
theorem wpAny_flowG {ops : Array Oper} {F : Nat → FlwG R} {a0 : Act} {w0 : World} {Q : Exit → Act → World → Prop} (hk : FlowOk ops a0.tmps.size)
    (hs : ∀ (i : Nat) (o : Oper), ops[i]? = some o → stepFG P ops (ops.toList.map (·.dst)) F a0 w0 i o)
    (hq : ∀ (f : Nat → Value) w, (∀ (i : Nat) (o : Oper) (d : Tmp), ops[i]? = some o → o.dst = some d → (F i).p (f i) w) → (∀ (i : Nat) (o : Oper) (s : Tmp), ops[i]? = some o → addrOf o = some s → (F i).p ((putF f (ops.toList.map (·.dst)) 0 a0).eval (.tmp s)) w) → R.r w0 w → Q .normal (putF f (ops.toList.map (·.dst)) 0 a0) w) :
    ∀ (fuel : Nat) (listed : Array Bool) (a : Act) (w : World), leftF listed ≤ fuel → AtFG ops F a0 listed a w → R.r w0 w → wpAny P .any ops Q fuel listed a w := by
  have fin : ∀ (listed : Array Bool) (a : Act) (w : World), AtFG ops F a0 listed a w → R.r w0 w → Region.ready .any ops listed = [] → Q .normal a w := fun listed a w h hb hr => by
    have hn := h.non
    obtain ⟨f, rfl, hf⟩ := h.all hk (all_listed hk h.ls hr)
    exact hq f w hf (fun i o s ho hs => (hn i o s ho hs (all_listed hk h.ls hr i o ho)).1) hb
  intro fuel
  induction fuel with
  | zero =>
    intro listed a w hl h hb
    have hr : Region.ready .any ops listed = [] := by
      rw [List.eq_nil_iff_forall_not_mem]
      intro i hi
      obtain ⟨o, _, h2, _⟩ := ready_listed h.ls hi
      exact left_none (by omega) i h2
    exact ⟨hr, fin _ _ _ h hb hr⟩
  | succ fuel ih =>
    intro listed a w hl h hb
    refine ⟨fin _ _ _ h hb, fun i hi => ?_⟩
    obtain ⟨o, ho, h2, h3⟩ := ready_listed h.ls hi
    have hst := hs i o ho a w (sees_atG hk h ho h3) hb
    have hls := left_set h2
    unfold wpOp
    rw [ho]
    simp only
    split
    · rename_i hw
      rw [if_pos hw] at hst
      refine .inl (wp_of_opC hst fun v w' hv => ?_)
      exact ih _ _ _ (by omega) (h.put hk ho h2 h3 hv.1 hv.2) (R.trans hb hv.2)
    · rename_i hw
      rw [if_neg hw] at hst
      exact ih _ _ _ (by omega) (h.put hk ho h2 h3 hst (R.refl _)) hb
/-- THE LAW: each operation's share, wherever it comes up. -/
theorem wp_region_flowG {id : Nat} {l : List Oper} {Q : Exit → Act → World → Prop} {a0 : Act} {w : World} (ds : List (Option Tmp)) (F : Nat → FlwG R) (hm : P.follows .mixedOrders = true)
    (hB : flowB l.toArray a0.tmps.size = true) (hd : l.map (·.dst) = ds) (hs : stepsFG P l.toArray ds F a0 w 0 l)
    (hq : ∀ (f : Nat → Value) w', (∀ (i : Nat) (d : Tmp), ds[i]? = some (some d) → (F i).p (f i) w') → (∀ (i : Nat) (o : Oper) (s : Tmp), l[i]? = some o → addrOf o = some s → (F i).p ((putF f ds 0 a0).eval (.tmp s)) w') → R.r w w' → Q .normal (putF f ds 0 a0) w') : (Code.region id l.toArray true).wp P Q a0 w := by
  subst hd
  refine wp_region_any hm (wpAny_flowG (F := F) (a0 := a0) (w0 := w) (flowOk hB) (fun i o ho => ?_) (fun f w' hf hn hb => ?_) _ _ _ _ ?_ ?_ ?_)
  · have := stepsF_atG hs i o (by simpa using ho)
    rwa [Nat.zero_add] at this
  · refine hq f w' (fun i d hi => ?_) (fun i o s h1 h2 => hn i o s (by simpa using h1) h2) hb
    rw [List.getElem?_map] at hi
    obtain ⟨o, h1, h2⟩ := Option.map_eq_some_iff.1 hi
    exact hf i o d (by simpa using h1) h2
  · exact left_new _
  · refine ⟨by simp, rfl, rfl, fun _ _ => rfl, fun i o d _ _ h => ?_, fun i o s _ _ h => ?_⟩
    · rw [Array.getElem?_replicate] at h
      split at h <;> cases h
    · rw [Array.getElem?_replicate] at h
      split at h <;> cases h
  · exact R.drew _
theorem AtFG.rest {ops : Array Oper} {F : Nat → FlwG R} {a0 a : Act} {listed : Array Bool} {w : World} {o : Oper} {l : List Oper} (hops : ops = (l ++ [o]).toArray) (hk : FlowOk ops a0.tmps.size) (h : AtFG ops F a0 listed a w) (hl : ∀ i, i < l.length → listed[i]? = some true) (hn : listed[l.length]? = some false) :
    ∃ f : Nat → Value, a = putF f (l.map (·.dst)) 0 a0 ∧ ∀ (i : Nat) (d : Tmp), (l.map (·.dst))[i]? = some (some d) → (F i).p (f i) w := by
  have hol : ∀ (i : Nat) (x : Oper), l[i]? = some x → ops[i]? = some x := fun i x hx => by
    rw [hops, List.getElem?_toArray, List.getElem?_append_left (List.getElem?_eq_some_iff.1 hx).1]
    exact hx
  have hlast : ops[l.length]? = some o := by rw [hops]; simp
  have hmap : ∀ (i : Nat) (d : Tmp), (l.map (·.dst))[i]? = some (some d) → ∃ x, l[i]? = some x ∧ x.dst = some d := fun i d hi => by
    rw [List.getElem?_map] at hi
    exact Option.map_eq_some_iff.1 hi
  refine ⟨fun i => match (ops[i]?).bind (·.dst) with | some d => a.eval (.tmp d) | none => undef, ?_, fun i d hi => ?_⟩
  · obtain ⟨s1, s2⟩ := putF_size (fun i => match (ops[i]?).bind (·.dst) with | some d => a.eval (.tmp d) | none => undef) (l.map (·.dst)) 0 a0
    refine act_ext (by rw [s1, h.sz]) (by rw [s2, h.df]) fun d => ?_
    cases e : wr d (l.map (·.dst)) 0 with
    | none =>
      have hw := wr_none e
      rw [putF_old _ _ _ _ _ hw]
      refine h.old d fun j oj hj hdj => ?_
      have hjs := size_of_some hj
      rw [hops] at hjs
      simp at hjs
      by_cases hjl : j < l.length
      · exfalso
        refine hw j ?_
        rw [List.getElem?_map]
        have : l[j]? = some oj := by
          rw [hops, List.getElem?_toArray, List.getElem?_append_left hjl] at hj
          exact hj
        rw [this]
        simp [hdj]
      · obtain rfl : j = l.length := by omega
        exact hn
    | some j =>
      obtain ⟨-, hj⟩ := wr_some e
      rw [Nat.sub_zero] at hj
      obtain ⟨oj, h1, h2⟩ := hmap j d hj
      have h1' := hol j oj h1
      have hdz := hk.lt j oj d h1' h2
      rw [putF_new _ _ _ _ d j hdz hj (fun i hi => by
        obtain ⟨oi, g1, g2⟩ := hmap i d hi
        exact hk.one j i oj oi d h1' (hol i oi g1) h2 g2)]
      have hd2 : d < a.tmps.size := by rw [h.sz]; exact hdz
      simp [h1', h2, Act.eval, Array.getD, hd2]
  · obtain ⟨oi, g1, g2⟩ := hmap i d hi
    simp only [hol i oi g1, Option.bind_some, g2]
    exact h.new i oi d (hol i oi g1) g2 (hl i (List.getElem?_eq_some_iff.1 g1).1)
theorem wpAny_flow_lastG {ops : Array Oper} {l : List Oper} {ol : Oper} (hops : ops = (l ++ [ol]).toArray) {F : Nat → FlwG R} {a0 : Act} {w0 : World} {Q : Exit → Act → World → Prop} (hk : FlowOk ops a0.tmps.size) (hc : coverB ops = true)
    (hs : ∀ (i : Nat) (o : Oper), l[i]? = some o → stepFG P ops (ops.toList.map (·.dst)) F a0 w0 i o)
    (hg : ol.guard = none)
    (hq : ∀ (f : Nat → Value) w, (∀ (i : Nat) (d : Tmp), (l.map (·.dst))[i]? = some (some d) → (F i).p (f i) w) → (∀ (i : Nat) (o : Oper) (s : Tmp), l[i]? = some o → addrOf o = some s → (F i).p ((putF f (l.map (·.dst)) 0 a0).eval (.tmp s)) w) → R.r w0 w →
      opC P ol (putF f (l.map (·.dst)) 0 a0) w (fun v w' => Q .normal ((putF f (l.map (·.dst)) 0 a0).put ol.dst v) w')) :
    ∀ (fuel : Nat) (listed : Array Bool) (a : Act) (w : World), leftF listed ≤ fuel → listed[l.length]? = some false → ClosedF ops listed → AtFG ops F a0 listed a w → R.r w0 w → wpAny P .any ops Q fuel listed a w := by
  have hlast : ops[l.length]? = some ol := by rw [hops]; simp
  have hsz : ops.size = l.length + 1 := by rw [hops]; simp
  have hopl : ∀ (i : Nat) (x : Oper), ops[i]? = some x → i ≠ l.length → l[i]? = some x := fun i x hx hi => by
    have := size_of_some hx
    rw [hops, List.getElem?_toArray, List.getElem?_append_left (by omega)] at hx
    exact hx
  intro fuel
  induction fuel with
  | zero =>
    intro listed a w hl hn _ _ _
    exact absurd hn (left_none (by omega) _)
  | succ fuel ih =>
    intro listed a w hl hn hcl h hb
    refine ⟨fun hr => ?_, fun i hi => ?_⟩
    · have := all_listed hk h.ls hr _ _ hlast
      rw [hn] at this
      cases this
    · obtain ⟨o, ho, h2, h3⟩ := ready_listed h.ls hi
      have hls := left_set h2
      by_cases hil : i = l.length
      · subst hil
        obtain rfl : ol = o := by rw [hlast] at ho; injection ho
        have hall : ∀ i, i < l.length → listed[i]? = some true := fun i hi => last_all hc hcl (by rw [hsz]; exact hlast) h3 _ i rfl (by omega)
        have hn9 := h.non
        obtain ⟨f, rfl, hf⟩ := h.rest hops hk hall h2
        have hns : ∀ (i : Nat) (o : Oper) (s : Tmp), l[i]? = some o → addrOf o = some s → (F i).p ((putF f (l.map (·.dst)) 0 a0).eval (.tmp s)) w := fun i o s h1 h9 => by
          have hil := (List.getElem?_eq_some_iff.1 h1).1
          refine (hn9 i o s ?_ h9 (hall i hil)).1
          rw [hops, List.getElem?_toArray, List.getElem?_append_left hil]
          exact h1
        unfold wpOp
        rw [ho]
        simp only
        have hw : Region.wanted ol (yielded ops (putF f (l.map (·.dst)) 0 a0).tmps) = true := by unfold Region.wanted; rw [hg]
        rw [if_pos hw]
        refine .inl (wp_of_opC (hq f w hf hns hb) fun v w' hv => ?_)
        have hr : Region.ready .any ops (listed.setIfInBounds l.length true) = [] := by
          rw [List.eq_nil_iff_forall_not_mem]
          intro i hi
          obtain ⟨o', ho', g2, _⟩ := ready_listed (by simp [h.ls]) hi
          by_cases hi2 : l.length = i
          · subst hi2
            rw [set_keeps_self (by rw [h.ls, hsz]; omega)] at g2
            cases g2
          · rw [Array.getElem?_setIfInBounds_ne hi2] at g2
            have := size_of_some ho'
            rw [hall i (by omega)] at g2
            cases g2
        cases fuel with
        | zero => exact ⟨hr, hv⟩
        | succ fuel => exact ⟨fun _ => hv, fun i hi => by rw [hr] at hi; cases hi⟩
      · have hst := hs i o (hopl i o ho hil) a w (sees_atG hk h ho h3) hb
        have hn' : (listed.setIfInBounds i true)[l.length]? = some false := by rw [Array.getElem?_setIfInBounds_ne hil]; exact hn
        unfold wpOp
        rw [ho]
        simp only
        split
        · rename_i hw
          rw [if_pos hw] at hst
          refine .inl (wp_of_opC hst fun v w' hv => ?_)
          exact ih _ _ _ (by omega) hn' (hcl.put ho h3) (h.put hk ho h2 h3 hv.1 hv.2) (R.trans hb hv.2)
        · rename_i hw
          rw [if_neg hw] at hst
          exact ih _ _ _ (by omega) hn' (hcl.put ho h3) (h.put hk ho h2 h3 hst (R.refl _)) hb
/-- THE LAW, the last operation (a store, say) apart. -/
theorem wp_region_flow_lastG {id : Nat} {l : List Oper} {ol : Oper} {ops : List Oper} {Q : Exit → Act → World → Prop} {a0 : Act} {w : World} (hops : ops = l ++ [ol]) (ds : List (Option Tmp)) (F : Nat → FlwG R) (hm : P.follows .mixedOrders = true)
    (hB : flowB ops.toArray a0.tmps.size = true) (hc : coverB ops.toArray = true) (hd : ops.map (·.dst) = ds ++ [ol.dst]) (hg : ol.guard = none) (hs : stepsFG P ops.toArray (ds ++ [ol.dst]) F a0 w 0 l)
    (hq : ∀ (f : Nat → Value) w', (∀ (i : Nat) (d : Tmp), ds[i]? = some (some d) → (F i).p (f i) w') → (∀ (i : Nat) (o : Oper) (s : Tmp), l[i]? = some o → addrOf o = some s → (F i).p ((putF f ds 0 a0).eval (.tmp s)) w') → R.r w w' → opC P ol (putF f ds 0 a0) w' (fun v w'' => Q .normal ((putF f ds 0 a0).put ol.dst v) w'')) : (Code.region id ops.toArray true).wp P Q a0 w := by
  subst hops
  have hd' : l.map (·.dst) = ds := by
    rw [List.map_append] at hd
    exact List.append_cancel_right hd
  subst hd'
  refine wp_region_any hm (wpAny_flow_lastG (l := l) (ol := ol) rfl (F := F) (a0 := a0) (w0 := w) (flowOk hB) hc (fun i o ho => ?_) hg hq _ _ _ _ ?_ ?_ ?_ ?_ ?_)
  · have := stepsF_atG hs i o ho
    rw [Nat.zero_add] at this
    rw [List.map_append] at hd
    simpa using this
  · exact left_new _
  · simp
  · intro i o _ h
    rw [Array.getElem?_replicate] at h
    split at h <;> cases h
  · refine ⟨by simp, rfl, rfl, fun _ _ => rfl, fun i o d _ _ h => ?_, fun i o s _ _ h => ?_⟩
    · rw [Array.getElem?_replicate] at h
      split at h <;> cases h
    · rw [Array.getElem?_replicate] at h
      split at h <;> cases h
  · exact R.drew _
theorem seesS_appG {ds : List (Option Tmp)} {F : Nat → FlwG R} {a0 a : Act} {w : World} : ∀ {l m : List Tmp}, seesSG ds F a0 a w (l ++ m) → seesSG ds F a0 a w l ∧ seesSG ds F a0 a w m
  | [], _, h => ⟨trivial, h⟩
  | _ :: _, _, h => ⟨⟨h.1, (seesS_appG h.2).1⟩, (seesS_appG h.2).2⟩
/-- An operation without a guard. -/
theorem step_freeG {ops : Array Oper} {ds : List (Option Tmp)} {F : Nat → FlwG R} {a0 : Act} {w0 : World} {i : Nat} {o : Oper} (hg : o.guard = none)
    (h : ∀ a w, seesSG ds F a0 a w (opndsF o) → R.r w0 w → opC P o a w (fun v w' => (F i).p (resV o a v) w' ∧ R.r w w')) : stepFG P ops ds F a0 w0 i o := fun a w hs hb => by
  have hw : Region.wanted o (yielded ops a.tmps) = true := by unfold Region.wanted; rw [hg]
  rw [if_pos hw]
  exact h a w (seesS_appG hs).1 hb
/-- An operation whose guard says yes. -/
theorem step_yesG {ops : Array Oper} {ds : List (Option Tmp)} {F : Nat → FlwG R} {a0 : Act} {w0 : World} {i : Nat} {o : Oper} (j : Nat) (d : Tmp) {want : Bool} (hg : o.guard = some (j, want)) (hd : (ops[j]?).bind (·.dst) = some d)
    (hF : ∀ a w, seeSG ds F a0 a w d → a.eval (.tmp d) = .bool want)
    (h : ∀ a w, seesSG ds F a0 a w (opndsF o) → R.r w0 w → opC P o a w (fun v w' => (F i).p (resV o a v) w' ∧ R.r w w')) : stepFG P ops ds F a0 w0 i o := fun a w hs hb => by
  obtain ⟨h1, h2⟩ := seesS_appG hs
  simp only [hg, hd, Option.toList] at h2
  have hw : Region.wanted o (yielded ops a.tmps) = true := by
    unfold Region.wanted
    simp only [hg, yield_of hd (hF a w h2.1)]
    cases want <;> rfl
  rw [if_pos hw]
  exact h a w h1 hb
/-- An operation whose guard says no. -/
theorem step_noG {ops : Array Oper} {ds : List (Option Tmp)} {F : Nat → FlwG R} {a0 : Act} {w0 : World} {i : Nat} {o : Oper} (j : Nat) (d : Tmp) {want : Bool} (hg : o.guard = some (j, want)) (hd : (ops[j]?).bind (·.dst) = some d)
    (hF : ∀ a w, seeSG ds F a0 a w d → a.eval (.tmp d) = .bool (!want)) (h : ∀ a w, (F i).p (resV o a undef) w) : stepFG P ops ds F a0 w0 i o := fun a w hs hb => by
  obtain ⟨h1, h2⟩ := seesS_appG hs
  simp only [hg, hd, Option.toList] at h2
  have hw : ¬ Region.wanted o (yielded ops a.tmps) = true := by
    unfold Region.wanted
    simp only [hg, yield_of hd (hF a w h2.1)]
    cases want <;> decide
  rw [if_neg hw]
  exact h a w
end flowG
end Go.Proofs.YtpbfipeinblfgaaGreatDoor
namespace Go.Proofs.YtpbfipeinblfgaaGreatDoor
open Go Go.RowKit

section
variable {P : Program}
def putL (cs : Array Value) : Nat → List Value → Array Value
  | _, [] => cs
  | o, v :: r => putL (cs.setIfInBounds o v) (o + 1) r
theorem putL_size (vs : List Value) : ∀ (cs : Array Value) (o : Nat), (putL cs o vs).size = cs.size := by
  induction vs with
  | nil => intro cs o; rfl
  | cons v r ih => intro cs o; simp [putL, ih]
theorem putL_at (vs : List Value) : ∀ (cs : Array Value) (o i : Nat), i < cs.size → (putL cs o vs)[i]? = if o ≤ i ∧ i < o + vs.length then vs[i - o]? else cs[i]? := by
  induction vs with
  | nil =>
    intro cs o i hi
    rw [if_neg (by simp)]
    rfl
  | cons v r ih =>
    intro cs o i hi
    simp only [putL]
    rw [ih _ _ _ (by simpa using hi)]
    by_cases h1 : i = o
    · subst h1
      rw [if_neg (by omega), if_pos (by simp)]
      simp [hi]
    · by_cases h2 : o ≤ i ∧ i < o + (v :: r).length
      · rw [if_pos h2, if_pos (by simp at h2; omega)]
        rw [show i - o = (i - (o + 1)) + 1 by omega]
        simp
      · rw [if_neg h2, if_neg (by simp at h2; omega), Array.getElem?_setIfInBounds_ne (by omega)]
theorem blk_setCells {g : Nat} {ty : TypeId} : ∀ (vs : List Value) (o : Nat) (w : World) (cs : Array Value), Blk w g ty cs → Blk (w.setCells g o vs) g ty (putL cs o vs)
  | [], _, _, _, h => h
  | v :: r, o, _, _, h => blk_setCells r (o + 1) _ _ (h.set_ o v)
theorem putL_all {cs : Array Value} {vs : Array Value} (h : cs.size = vs.size) : putL cs 0 vs.toList = vs := by
  apply Array.ext_getElem?
  intro i
  by_cases hi : i < cs.size
  · rw [putL_at _ _ _ _ hi, if_pos (by simp; omega)]
    simp
  · have h1 : (putL cs 0 vs.toList)[i]? = none := Array.getElem?_eq_none (by rw [putL_size]; omega)
    have h2 : vs[i]? = none := Array.getElem?_eq_none (by omega)
    rw [h1, h2]
theorem setCells_other (g : Nat) : ∀ (vs : List Value) (o : Nat) (w : World) (i : Nat), i ≠ g → (w.setCells g o vs).heap[i]? = w.heap[i]?
  | [], _, _, _, _ => rfl
  | _ :: r, o, _, i, h => (setCells_other g r (o + 1) _ i h).trans (Below.heap_setCell _ _ _ _ h)
theorem setCells_keeps (g : Nat) : ∀ (vs : List Value) (o : Nat) (w : World), (w.setCells g o vs).os = w.os ∧ (w.setCells g o vs).tape = w.tape ∧ (w.setCells g o vs).output = w.output ∧ (w.setCells g o vs).heap.size = w.heap.size
  | [], _, _ => ⟨rfl, rfl, rfl, rfl⟩
  | v :: r, o, w => by
    obtain ⟨h1, h2, h3, h4⟩ := setCells_keeps g r (o + 1) (w.setCell ⟨g, o, none⟩ v)
    have hb := (Below.refl 0 w).setCell (Nat.zero_le _) (p := ⟨g, o, none⟩) v
    exact ⟨h1.trans hb.os, h2.trans hb.tape, h3.trans hb.output, h4.trans (by simp [World.size_setCell])⟩
/-- Only block g has turned. -/
structure OnlyAt (g : Nat) (w w' : World) : Prop where
  os : w'.os = w.os
  tape : w'.tape = w.tape
  output : w'.output = w.output
  size : w'.heap.size = w.heap.size
  block : ∀ i : Nat, i ≠ g → w'.heap[i]? = w.heap[i]?
theorem onlyAt_setCells (g : Nat) (vs : List Value) (o : Nat) (w : World) : OnlyAt g w (w.setCells g o vs) := by
  obtain ⟨h1, h2, h3, h4⟩ := setCells_keeps g vs o w
  exact ⟨h1, h2, h3, h4, fun i hi => setCells_other g vs o w i hi⟩
/-- A whole block is written over. -/
theorem opC_store {t : TypeId} {s : Tmp} {x : Operand} {ty : TypeId} {pos : String} {af : Array Edge} {gd : Option (Nat × Bool)} {a : Act} {w : World} {K : Value → World → Prop} {g : Nat} {bt : TypeId} {cs vs : Array Value}
    (he : a.eval (.tmp s) = .pointer (some ⟨g, 0, none⟩)) (hx : a.eval x = .agg vs) (hb : Blk w g bt cs) (hs : cs.size = vs.size) (hi : (P.info? t).map (·.size) = some vs.size) (h1 : vs.all (·.oneCell') = true)
    (hk : ∀ w', OnlyAt g w w' → Blk w' g bt vs → K undef w') : opC P ⟨none, .store t (.tmp s) x, ty, pos, af, gd⟩ a w K := by
  have ht : w.there g 0 vs.size := fun j hj => by
    refine ⟨?_, by simpa using hb.frozen j⟩
    have := hb.cell j
    rw [Nat.zero_add, this]
    simp [hs, hj]
  refine opC_skip (w' := w.setCells g 0 vs.toList) ?_ (hk _ (onlyAt_setCells _ _ _ _) ?_)
  · simp [execOp, he, hx, run_storeAt_mid w g 0 t vs ht hi h1, Result.andThen]
  · have := blk_setCells vs.toList 0 w cs hb
    rwa [putL_all hs] at this
/-- What an object may turn into. -/
structure Turn where
  s : Obj → Obj → Prop
  refl : ∀ o, s o o
  trans : ∀ {a b c : Obj}, s a b → s b c → s a c
def turn1 (Z V : Obj) : Turn := ⟨fun o o' => o' = o ∨ (o = Z ∧ o' = V), fun _ => .inl rfl, fun {a b c} h1 h2 => by
  rcases h1 with rfl | ⟨rfl, rfl⟩
  · exact h2
  · rcases h2 with rfl | ⟨_, rfl⟩
    · exact .inr ⟨rfl, rfl⟩
    · exact .inr ⟨rfl, rfl⟩⟩
structure TurnR (base : Nat) (S : Turn) (w w' : World) : Prop where
  os : w'.os = w.os
  tape : w'.tape = w.tape
  output : w'.output = w.output
  size : w.heap.size ≤ w'.heap.size
  low : ∀ i : Nat, i < base → w'.heap[i]? = w.heap[i]?
  turn : ∀ (i : Nat) (o : Obj), w.heap[i]? = some o → ∃ o', w'.heap[i]? = some o' ∧ S.s o o'
theorem TurnR.of_below {base : Nat} {S : Turn} {w w' : World} (h : Below w.heap.size w w') (hb : base ≤ w.heap.size) : TurnR base S w w' :=
  ⟨h.os, h.tape, h.output, h.size, fun i hi => h.block i (by omega), fun i o ho => ⟨o, (h.block i (Array.getElem?_eq_some_iff.1 ho).1).trans ho, S.refl o⟩⟩
def relT (base : Nat) (S : Turn) : Rel := ⟨TurnR base S, fun _ => ⟨rfl, rfl, rfl, Nat.le_refl _, fun _ _ => rfl, fun _ o ho => ⟨o, ho, S.refl o⟩⟩,
  fun _ => ⟨rfl, rfl, rfl, Nat.le_refl _, fun _ _ => rfl, fun _ o ho => ⟨o, ho, S.refl o⟩⟩,
  fun h1 h2 => ⟨h2.os.trans h1.os, h2.tape.trans h1.tape, h2.output.trans h1.output, Nat.le_trans h1.size h2.size, fun i hi => (h2.low i hi).trans (h1.low i hi), fun i o ho => by
    obtain ⟨o', h3, h4⟩ := h1.turn i o ho
    obtain ⟨o'', h5, h6⟩ := h2.turn i o' h3
    exact ⟨o'', h5, S.trans h4 h6⟩⟩⟩
theorem TurnR.below {base : Nat} {S : Turn} {w w' : World} (h : TurnR base S w w') : Below base w w' := ⟨h.os, h.tape, h.output, h.size, h.low⟩
theorem TurnR.only {base g : Nat} {S : Turn} {w w' : World} {o o' : Obj} (h : OnlyAt g w w') (hb : base ≤ g) (ho : w.heap[g]? = some o) (ho' : w'.heap[g]? = some o') (hs : S.s o o') : TurnR base S w w' :=
  ⟨h.os, h.tape, h.output, Nat.le_of_eq h.size.symm, fun i hi => h.block i (by omega), fun i x hx => by
    by_cases e : i = g
    · subst e
      rw [ho] at hx
      cases hx
      exact ⟨o', ho', hs⟩
    · exact ⟨x, (h.block i e).trans hx, S.refl x⟩⟩
/-- A block made in the region: zero, or written. -/
def newF (base : Nat) (Z V : Obj) : FlwG (relT base (turn1 Z V)) := ⟨fun v w => ∃ g, v = .pointer (some ⟨g, 0, none⟩) ∧ base ≤ g ∧ (w.heap[g]? = some Z ∨ w.heap[g]? = some V), fun {_ w w'} ⟨g, h1, h2, h3⟩ hb => by
  refine ⟨g, h1, h2, ?_⟩
  rcases h3 with h3 | h3
  · obtain ⟨o', h4, h5⟩ := hb.turn g _ h3
    rcases h5 with rfl | ⟨_, rfl⟩
    · exact .inl h4
    · exact .inr h4
  · obtain ⟨o', h4, h5⟩ := hb.turn g _ h3
    rcases h5 with rfl | ⟨_, rfl⟩
    · exact .inr h4
    · exact .inr h4⟩
/-- .. written. -/
def doneF (base : Nat) (Z V : Obj) : FlwG (relT base (turn1 Z V)) := ⟨fun v w => ∃ g, v = .pointer (some ⟨g, 0, none⟩) ∧ base ≤ g ∧ w.heap[g]? = some V, fun {_ w w'} ⟨g, h1, h2, h3⟩ hb => by
  refine ⟨g, h1, h2, ?_⟩
  obtain ⟨o', h4, h5⟩ := hb.turn g _ h3
  rcases h5 with rfl | ⟨_, rfl⟩
  · exact h4
  · exact h4⟩
end
end Go.Proofs.YtpbfipeinblfgaaGreatDoor
namespace Go.Proofs.YtpbfipeinblfgaaGreatDoor
open Go Go.RowKit

/-- A type of structs (or arrays) of so many cells. -/
def RowT (P : Program) (t : TypeId) (n : Nat) : Prop := ∃ d, P.underlying t = some d ∧ d.isRow = true ∧ (P.info? t).map (·.size) = some n
def StopW (p : Prop) : Prop := p
section
variable {P : Program} {ops : Array Oper} {rest : List Oper} {o : Oper} {a : Act} {w : World} {Q : Exit → Act → World → Prop}
theorem stopAt (h : StopW (wpList P ops Q (o :: rest) a w)) : wpList P ops Q (o :: rest) a w := h
theorem blk_range {g : Nat} {bt : TypeId} {cs : Array Value} (hb : Blk w g bt cs) (k : Nat) (vs : Array Value) (hv : ∀ (j : Nat) v, vs[j]? = some v → cs[k + j]? = some v) : w.rangeAt g k vs.toList := fun j v h => by
  rw [hb.cell (k + j)]
  exact hv j v (by simpa using h)
theorem blk_there {g : Nat} {bt : TypeId} {cs : Array Value} (hb : Blk w g bt cs) (k n : Nat) (hs : k + n ≤ cs.size) : w.there g k n := fun j hj => by
  refine ⟨?_, hb.frozen (k + j)⟩
  have := hb.cell (k + j)
  rw [this]
  simp
  omega
theorem run_loadB {g : Nat} {bt : TypeId} {cs : Array Value} (hb : Blk w g bt cs) (t : TypeId) (k : Nat) (vs : Array Value) (hv : ∀ (j : Nat) v, vs[j]? = some v → cs[k + j]? = some v)
    (hr : RowT P t vs.size) : (Instr.loadAt t (.pointer (some ⟨g, k, none⟩))).run P w = .ok (.agg vs) w := by
  obtain ⟨d, hu, hd, hi⟩ := hr
  have := run_loadAt_mid (P := P) w g k t vs.toList d (blk_range hb k vs hv) hu hd (by rw [hi]; simp)
  simpa using this
/-- A struct is read. -/
theorem wpl_loadB (hg : o.guard = none) (t : TypeId) (x : Operand) (ho : o.op = .load t x) (g k : Nat) (hx : a.eval x = .pointer (some ⟨g, k, none⟩)) {bt : TypeId} {cs : Array Value} (hb : Blk w g bt cs) (vs : Array Value)
    (hv : ∀ (j : Nat) v, vs[j]? = some v → cs[k + j]? = some v) (hr : RowT P t vs.size)
    (h : wpList P ops Q rest (a.put o.dst (.agg vs)) w) : wpList P ops Q (o :: rest) a w := by
  obtain ⟨d, hu, hd, hi⟩ := hr
  refine wpList_load_mid hg t x ho g k hx vs.toList d (blk_range hb k vs hv) hu hd (by rw [hi]; simp) ?_
  simpa using h
/-- A struct is written. -/
theorem wpl_storeB (hg : o.guard = none) (t : TypeId) (x y : Operand) (ho : o.op = .store t x y) (g k : Nat) (hx : a.eval x = .pointer (some ⟨g, k, none⟩)) (vs : Array Value) (hy : a.eval y = .agg vs) {bt : TypeId} {cs : Array Value} (hb : Blk w g bt cs)
    (hs : k + vs.size ≤ cs.size) (hr : RowT P t vs.size) (h1 : vs.all (·.oneCell') = true)
    (h : ∀ w', OnlyAt g w w' → Blk w' g bt (putL cs k vs.toList) → wpList P ops Q rest (a.put o.dst undef) w') : wpList P ops Q (o :: rest) a w :=
  wpList_store_mid hg t x y ho g k vs hx hy (blk_there hb k _ hs) (by obtain ⟨_, _, _, hi⟩ := hr; exact hi) h1 (h _ (onlyAt_setCells _ _ _ _) (blk_setCells _ _ _ _ hb))
theorem wpl_storeA (hg : o.guard = none) (t : TypeId) (x y : Operand) (ho : o.op = .store t x y) (g : Nat) (hx : a.eval x = .pointer (some ⟨g, 0, none⟩)) (vs : Array Value) (hy : a.eval y = .agg vs) {bt : TypeId} {cs : Array Value} (hb : Blk w g bt cs)
    (hs : cs.size = vs.size) (hr : RowT P t vs.size) (h1 : vs.all (·.oneCell') = true)
    (h : ∀ w', OnlyAt g w w' → Blk w' g bt vs → wpList P ops Q rest (a.put o.dst undef) w') : wpList P ops Q (o :: rest) a w :=
  wpl_storeB hg t x y ho g 0 hx vs hy hb (by omega) hr h1 fun w' h2 h3 => h w' h2 (by rw [putL_all hs] at h3; exact h3)
theorem opC_loadB {dst : Option Tmp} {t : TypeId} {x : Operand} {ty : TypeId} {pos : String} {af : Array Edge} {gd : Option (Nat × Bool)} {K : Value → World → Prop} {g k : Nat} {bt : TypeId} {cs : Array Value}
    (he : a.eval x = .pointer (some ⟨g, k, none⟩)) (hb : Blk w g bt cs) (vs : Array Value) (hv : ∀ (j : Nat) v, vs[j]? = some v → cs[k + j]? = some v)
    (hr : RowT P t vs.size) (hk : K (.agg vs) w) : opC P ⟨dst, .load t x, ty, pos, af, gd⟩ a w K :=
  opC_load he (run_loadB hb t k vs hv hr) hk
end
/-- A part of a block's cells, told by places. -/
theorem part_of {cs vs : Array Value} {k : Nat} (h : cs.extract k (k + vs.size) = vs) : ∀ (j : Nat) v, vs[j]? = some v → cs[k + j]? = some v := fun j v hj => by
  rw [← h] at hj
  rw [Array.getElem?_extract] at hj
  split at hj
  · exact hj
  · cases hj
theorem OnlyAt.blk {g q : Nat} {w w' : World} {bt : TypeId} {cs : Array Value} (h : OnlyAt g w w') (hb : Blk w q bt cs) (hq : q ≠ g) : Blk w' q bt cs := (h.block q hq).trans hb
end Go.Proofs.YtpbfipeinblfgaaGreatDoor
namespace Go.Proofs.YtpbfipeinblfgaaGreatDoor
open Go.ChangeShapes Go.WideShapes Go.ChangeAt Go.RowKit

theorem cell_blkS {w w' : World} {p : Addr} (h : w'.heap[p.block]? = w.heap[p.block]?) : w'.cell? p = w.cell? p := by
  unfold World.cell?
  rw [h]
theorem OwnS.sameS {α : Type} {T : Lies α} {e : TypeId} {w w' : World} {b n : Nat} {v : Value} {l : List α} (h : OwnS T e w b v n l) (hk : ∀ g, v.ownBlock = some g → w'.heap[g]? = w.heap[g]?) : OwnS T e w' b v n l := by
  unfold OwnS at h ⊢
  refine ⟨h.1, ?_⟩
  rcases h.2 with ⟨h1, h2⟩ | ⟨g, cap, cur, rfl, h2, hg, h3⟩
  · exact .inl ⟨h1, h2⟩
  · exact .inr ⟨g, cap, cur, rfl, h2, (hk g rfl).trans hg, h3⟩
/-- An entry's row. -/
structure EnW where
  y : Ky
  A : Option Addr
  n : Nat
  c : Nat
def enC (d : EnW) : List Value := [.int .u32 (d.y.a : Int), .int .i32 d.y.d, .int .u8 (d.y.k : Int), .int .u32 (d.y.s : Int), .slice d.A d.n d.c]
def enT : Lies EnW := ⟨enC, 5, fun _ => rfl, fun d u hu => by
  simp [enC] at hu
  rcases hu with rfl | rfl | rfl | rfl | rfl <;> rfl⟩
theorem rowEn : RowOf enT Tryz.prog 53 61 40 := RowOf.of (z := .agg #[.int .u32 0, .int .i32 0, .int .u8 0, .int .u32 0, .slice none 0 0]) Tryz.underlying53 (by kernel_rfl) rfl (show 0 < 5 by decide)
def evC (e : Ev) : List Value := [.int .u32 (e.s : Int), .int .i32 e.d, .int .u8 (e.k : Int), .int .i64 e.a]
def evT : Lies Ev := ⟨evC, 4, fun _ => rfl, fun d u hu => by
  simp [evC] at hu
  rcases hu with rfl | rfl | rfl | rfl <;> rfl⟩
theorem rowEv : RowOf evT Tryz.prog 42 47 24 := RowOf.of (z := .agg #[.int .u32 0, .int .i32 0, .int .u8 0, .int .i64 0]) Tryz.underlying42 (by kernel_rfl) rfl (show 0 < 4 by decide)
theorem neEnTe : (61 : TypeId) ≠ 96 := by decide
theorem neLeTe : (99 : TypeId) ≠ 96 := by decide
theorem neEvTe : (47 : TypeId) ≠ 96 := by decide
theorem neEvEn : (47 : TypeId) ≠ 61 := by decide
theorem neLeEn : (99 : TypeId) ≠ 61 := by decide
/-- The entries that were told: each one's legs. -/
structure EntsV (w : World) (b0 : Nat) (V : List EnW) (L : List En) : Prop where
  len : V.length = L.length
  y : ∀ (i : Nat) v x, V[i]? = some v → L[i]? = some x → v.y = x.1 ∧ v.n = x.2.length ∧ v.n ≤ v.c ∧ v.c ≤ maxLen
  r : ∀ (i : Nat) v x, V[i]? = some v → L[i]? = some x → Rs legT w w.heap.size v.A x.2
  t : ∀ (i : Nat) (v : EnW) (p : Addr), V[i]? = some v → v.A = some p → b0 ≤ p.block ∧ ∃ cs, Blk w p.block 99 cs
def Ents (w : World) (b0 : Nat) (en : Value) (L : List En) : Prop := ∃ V, OwnS enT 61 w b0 en L.length V ∧ EntsV w b0 V L
/-- The events that are to come. -/
def Evs (w : World) (ev : Value) (l : List Ev) : Prop := ∃ (A : Option Addr) (c : Nat), ev = .slice A l.length c ∧ l.length ≤ c ∧ c ≤ maxLen ∧
  (0 < l.length → ∃ r k cs, A = some ⟨r, k, none⟩ ∧ Blk w r 47 cs ∧ ∀ (j : Nat) e, l[j]? = some e → ∀ (i : Nat) x, (evC e)[i]? = some x → cs[k + (j * 4 + i)]? = some x)
def telC (sp : Value) (x : TS) (day : Int) (ev en : Value) : Array Value := #[sp, .int .i64 x.f, .int .i64 x.i, .int .i64 x.p, .int .u64 (x.c : Int), .int .i64 x.d, .int .i64 x.s, .int .i64 x.r, .int .i64 x.h, .int .u8 (x.t : Int), .int .i32 day, ev, .int .i64 (x.m : Int), en]
/-- Block g is a teller on that day, that has come to x, with the events l to come. -/
def Tel (w : World) (b0 g : Nat) (sp : Value) (day : Int) (l : List Ev) (x : TS) : Prop :=
  ∃ ev en, Blk w g 96 (telC sp x day ev en) ∧ b0 ≤ g ∧ Ents w b0 en x.L ∧ Evs w ev l
/-- Block q is a story of that deal. -/
structure Sto (w : World) (b0 q : Nat) (o : Deal) : Prop where
  lt : q < b0
  lens : Lens w
  low : 2 < b0
  b : ∃ dq ds, Blk w q 89 #[.int .u32 (o.n : Int), .int .u8 (o.K : Int), .int .i64 o.P, .int .u32 (o.R : Int), .int .u8 (o.b : Int), .int .i64 (o.M : Int), .int .i32 o.S, .int .i64 o.F, .int .i64 o.G, .slice (some ⟨dq, 0, none⟩) o.M o.M] ∧
    Blk w dq 76 ds ∧ dq < b0 ∧ ∀ k, k < o.M → ds[k * 2]? = some (.int .i32 (o.D k)) ∧ ds[k * 2 + 1]? = some (.int .i64 (o.Sm k))
section
variable {w w' : World} {b0 g q : Nat} {sp : Value} {day : Int} {l : List Ev} {x : TS} {o : Deal} {en ev : Value} {L : List En}
theorem Sto.below (h : Sto w b0 q o) (hb : Below b0 w w') : Sto w' b0 q o := by
  obtain ⟨h1, hl, hg, dq, ds, h2, h3, h4, h5⟩ := h
  exact ⟨h1, fun m m1 m2 => (hb.cell (p := ⟨2, _, none⟩) hg).trans (hl m m1 m2), hg, dq, ds, h2.below hb h1, h3.below hb h4, h4, h5⟩
theorem Ents.keep (h : Ents w b0 en L) (hs : w.heap.size ≤ w'.heap.size) (hk : ∀ (i : Nat) T cs, Blk w i T cs → T = 61 ∨ T = 99 → w'.heap[i]? = w.heap[i]?) : Ents w' b0 en L := by
  obtain ⟨V, h1, h2⟩ := h
  refine ⟨V, h1.sameS fun i hi => ?_, h2.len, h2.y, fun i v z hv hx => ?_, fun i v p hv hp => ?_⟩
  · unfold OwnS at h1
    rcases h1.2 with ⟨rfl, _⟩ | ⟨j, cap, cur, rfl, _, hj, _⟩
    · cases hi
    · cases hi
      exact hk j _ cur hj (.inl rfl)
  · intro hn
    obtain ⟨b, off, e, hb, hc⟩ := h2.r i v z hv hx hn
    obtain ⟨_, cs, hB⟩ := h2.t i v _ hv e
    exact ⟨b, off, e, by omega, fun j u hu k y hy => (cell_blkS (hk b _ cs hB (.inr rfl))).trans (hc j u hu k y hy)⟩
  · obtain ⟨h3, cs, hB⟩ := h2.t i v p hv hp
    exact ⟨h3, cs, (hk _ _ cs hB (.inr rfl)).trans hB⟩
theorem Evs.keep (h : Evs w ev l) (hk : ∀ (i : Nat) cs, Blk w i 47 cs → w'.heap[i]? = w.heap[i]?) : Evs w' ev l := by
  obtain ⟨A, c, h1, h2, h3, h4⟩ := h
  refine ⟨A, c, h1, h2, h3, fun hn => ?_⟩
  obtain ⟨r, k, cs, e, hB, hc⟩ := h4 hn
  exact ⟨r, k, cs, e, (hk r cs hB).trans hB, hc⟩
theorem Tel.below (h : Tel w b0 g sp day l x) (hb : Below w.heap.size w w') : Tel w' b0 g sp day l x := by
  obtain ⟨ev, en, h1, h2, h3, h4⟩ := h
  exact ⟨ev, en, h1.below hb h1.lt, h2, h3.keep hb.size fun i _ _ hB _ => hb.block i hB.lt, h4.keep fun i _ hB => hb.block i hB.lt⟩
/-- The teller's own block is written over, whole. -/
theorem Tel.only {y : TS} {day' : Int} (h : Tel w b0 g sp day l x) (hw : OnlyAt g w w') (hL : y.L = x.L) (hB : ∀ ev en, Blk w g 96 (telC sp x day ev en) → Blk w' g 96 (telC sp y day' ev en)) : Tel w' b0 g sp day' l y := by
  obtain ⟨ev, en, h1, h2, h3, h4⟩ := h
  refine ⟨ev, en, hB ev en h1, h2, ?_, h4.keep fun i cs hb => ?_⟩
  · rw [hL]
    refine h3.keep (by rw [hw.size]; exact Nat.le_refl _) fun i T cs hb hT => hw.block i fun e => ?_
    subst e
    unfold Blk at hb h1
    rw [h1] at hb
    simp only [Option.some.injEq, Obj.cells.injEq] at hb
    rcases hT with rfl | rfl
    · exact neEnTe hb.2.1.symm
    · exact neLeTe hb.2.1.symm
  · refine hw.block i fun e => ?_
    subst e
    unfold Blk at hb h1
    rw [h1] at hb
    simp only [Option.some.injEq, Obj.cells.injEq] at hb
    exact neEvTe hb.2.1.symm
theorem Tel.lt (h : Tel w b0 g sp day l x) : g < w.heap.size := by
  obtain ⟨ev, en, h1, _⟩ := h
  exact h1.lt
theorem Tel.base (h : Tel w b0 g sp day l x) : b0 ≤ g := by
  obtain ⟨ev, en, _, h2, _⟩ := h
  exact h2
theorem only_set (w : World) (g k : Nat) (v : Value) : OnlyAt g w (w.setCell ⟨g, k, none⟩ v) := onlyAt_setCells g [v] k w
/-- One cell of it. -/
theorem Tel.set {y : TS} {k : Nat} {v : Value} (h : Tel w b0 g sp day l x) (hL : y.L = x.L) (hc : ∀ ev en, (telC sp x day ev en).setIfInBounds k v = telC sp y day ev en) : Tel (w.setCell ⟨g, k, none⟩ v) b0 g sp day l y :=
  h.only (only_set w g k v) hL fun ev en hB => by
    have := hB.set_ k v
    rwa [hc] at this
end
end Go.Proofs.YtpbfipeinblfgaaGreatDoor
