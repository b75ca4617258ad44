/-
drum.blank: a drum of n sectors of noughts. Condition: not more than the document bears.
drum's seen: where the sector i lies as the last write has it. Conditions: the head is known, the sector is there, its last write's place is known.
A drum whole in memory: its sectors, its writes that wait, the places of the last ones; what seen tells of it.
-/
import Derived.Test.YtbaenpgjggojaaaDrumBZ9
import Derived.Deep.RegionHeld3
import Derived.Laws.CopyOwn
import Derived.Test.YtbaenpgjggojaaaDrMZ9
namespace Go.Proofs.Ytbaenpgjggojaaa
open Go.RowKit

theorem infoI : (Try.prog.info? 3).map (fun i => (i.zero, i.size, i.bytes)) = some (some (.int .i64 0), 1, 8) := by kernel_rfl
theorem infoS : (Try.prog.info? 78).map (fun i => (i.zero, i.size, i.bytes)) = some (some (.agg (Array.replicate 256 (.int .u8 0))), 256, 256) := by kernel_rfl

/-- n sectors of noughts. -/
def void (n : Nat) : Array Value := madeCells #[.int .u8 0] (n * 256)
def nones (n : Nat) : Array Value := madeCells #[.int .i64 0] n

theorem madeCells_rep (z : Value) (k n : Nat) (hk : 0 < k) : madeCells (Array.replicate k z) n = madeCells #[z] n := by
  apply Array.ext_getElem?
  intro j
  by_cases hj : j < n
  · have h1 : j % k < k := Nat.mod_lt _ hk
    simp [madeCells, hj, h1, Nat.mod_one]
  · simp [madeCells, hj]

theorem makeS (n : Nat) (hn : n ≤ 8192) (u : World) :
    (Instr.makeSlice 82 (.int .i64 (n : Int)) (.int .i64 (n : Int))).run Try.prog u = .ok (.slice (some ⟨u.heap.size, 0, none⟩) n n) (u.alloc (.cells (void n) 78)) := by
  obtain ⟨i0, hi, hz0, hz1, hz2⟩ := info_parts infoS
  have h := run_make (P := Try.prog) u 82 78 i0 (.agg (Array.replicate 256 (.int .u8 0))) Try.underlying82 hi hz0 .i64 .i64 (n : Int) (n : Int) (by omega) (Int.le_refl _) (by rw [hz2]; omega) (by omega)
  rw [Int.toNat_natCast, hz1, show Value.cells (.agg (Array.replicate 256 (.int .u8 0))) = Array.replicate 256 (.int .u8 0) from rfl, madeCells_rep _ _ _ (by decide)] at h
  exact h
theorem makeI (n : Nat) (hn : n ≤ 8192) (u : World) :
    (Instr.makeSlice 84 (.int .i64 (n : Int)) (.int .i64 (n : Int))).run Try.prog u = .ok (.slice (some ⟨u.heap.size, 0, none⟩) n n) (u.alloc (.cells (nones n) 3)) := by
  obtain ⟨i0, hi, hz0, hz1, hz2⟩ := info_parts infoI
  have h := run_make (P := Try.prog) u 84 3 i0 (.int .i64 0) Try.underlying84 hi hz0 .i64 .i64 (n : Int) (n : Int) (by omega) (Int.le_refl _) (by rw [hz2]; omega) (by omega)
  rw [Int.toNat_natCast, hz1, show Value.cells (.int .i64 0) = #[.int .i64 0] from rfl, Nat.mul_one] at h
  exact h

/-- A new drum, all noughts, not armed: three blocks of its own. -/
def BlankPost (n : Nat) (w : World) (e : Ending) (w' : World) : Prop :=
  ∃ d f g, e = .returned (.pointer (some ⟨d, 0, none⟩)) ∧ Below w.heap.size w w' ∧ w.heap.size ≤ d ∧ w.heap.size ≤ f ∧ w.heap.size ≤ g ∧ d ≠ f ∧ d ≠ g ∧ f ≠ g ∧
    Blk w' d 86 (dhead (some ⟨f, 0, none⟩) n n none 0 0 (some ⟨g, 0, none⟩) n n (-1)) ∧ Blk w' f 78 (void n) ∧ Blk w' g 3 (nones n)

theorem three (w : World) (t1 t2 t3 : TypeId) (c1 c2 c3 : Array Value) :
    Blk (((w.alloc (.cells c1 t1)).alloc (.cells c2 t2)).alloc (.cells c3 t3)).drew w.heap.size t1 c1 ∧
    Blk (((w.alloc (.cells c1 t1)).alloc (.cells c2 t2)).alloc (.cells c3 t3)).drew (w.heap.size + 1) t2 c2 ∧
    Blk (((w.alloc (.cells c1 t1)).alloc (.cells c2 t2)).alloc (.cells c3 t3)).drew (w.heap.size + 1 + 1) t3 c3 ∧
    Below w.heap.size w (((w.alloc (.cells c1 t1)).alloc (.cells c2 t2)).alloc (.cells c3 t3)).drew := by
  have s1 : (w.alloc (.cells c1 t1)).heap.size = w.heap.size + 1 := by simp
  have s2 : ((w.alloc (.cells c1 t1)).alloc (.cells c2 t2)).heap.size = w.heap.size + 1 + 1 := by simp
  have h2 := ((Blk.new (w.alloc (.cells c1 t1)) t2 c2).alloc (.cells c3 t3)).drew
  have h3 := (Blk.new ((w.alloc (.cells c1 t1)).alloc (.cells c2 t2)) t3 c3).drew
  rw [s1] at h2
  rw [s2] at h3
  refine ⟨(((Blk.new w t1 c1).alloc _).alloc _).drew, h2, h3, ?_⟩
  exact ((((Below.refl _ w).alloc (Nat.le_refl _) _).alloc (by rw [s1]; omega) _).alloc (by rw [s2]; omega) _).drew

set_option maxHeartbeats 1000000 in
theorem dblank_any (n : Nat) (hn : n ≤ 8192) (w : World) : Calls Try.prog 26 #[.int .i64 (n : Int)] w (BlankPost n w) := by
  have hS := makeS n hn
  have hI := makeI n hn
  go_enter Try.func26, Try.ntmps26
  go_wp2
  go_region_held3 (fun w' => True) (trivial) (fail)
  all_goals
    clear hS hI
    go_wp2
    go_ret
  · obtain ⟨h1, h2, h3, hb⟩ := three w 78 3 86 (void n) (nones n) (dhead (some ⟨w.heap.size, 0, none⟩) n n none 0 0 (some ⟨w.heap.size + 1, 0, none⟩) n n (-1))
    exact ⟨w.heap.size + 1 + 1, w.heap.size, w.heap.size + 1, rfl, hb, by omega, by omega, by omega, by omega, by omega, by omega, h3, h1, h2⟩
  · obtain ⟨h1, h2, h3, hb⟩ := three w 3 78 86 (nones n) (void n) (dhead (some ⟨w.heap.size + 1, 0, none⟩) n n none 0 0 (some ⟨w.heap.size, 0, none⟩) n n (-1))
    exact ⟨w.heap.size + 1 + 1, w.heap.size + 1, w.heap.size, rfl, hb, by omega, by omega, by omega, by omega, by omega, by omega, h3, h2, h1⟩

/-- New: a drum, where there may be one. -/
theorem New_any (n : Nat) (h1 : 1 ≤ n) (hn : n ≤ 8192) (w : World) : Calls Try.prog 7 #[.int .i64 (n : Int)] w fun e w' =>
    ∃ v, e = .returned (.tuple #[v, .nilIface]) ∧ BlankPost n w (.returned v) w' := by
  have n1 : ¬ (n : Int) < 1 := by omega
  have n2 : ¬ 8192 < (n : Int) := by omega
  go_enter Try.func7, Try.ntmps7
  go_wp2_with fail
  refine (dblank_any n hn _).mono ?_
  rintro e w1 ⟨d, f, g, rfl, h⟩
  go_wp2
  go_ret2
  exact ⟨_, rfl, d, f, g, rfl, h⟩
end Go.Proofs.Ytbaenpgjggojaaa
namespace Go.Proofs.Ytbaenpgjggojaaa
open Go.RowKit

section
variable {V : Option Addr} {f g v n nv cv cf cl : Nat} {left : Int} {w : World} {d : Nat}

/-- No write of it waits: it lies among the sectors. -/
theorem seen_still (i : Nat) (h : Blk w d 86 (dhead (some ⟨f, 0, none⟩) n cf V nv cv (some ⟨g, 0, none⟩) n cl left)) (hi : i < n) (_hn : n ≤ 8192) (hc : w.cell? ⟨g, i, none⟩ = some (.int .i64 0)) :
    Calls Try.prog 47 #[.pointer (some ⟨d, 0, none⟩), .int .i64 (i : Int)] w fun e w' => e = .returned (.pointer (some ⟨f, i * 256, none⟩)) ∧ w' = w := by
  obtain ⟨h0, -, h2, -, -, -, -⟩ := dhead_cells h
  clear h
  have i1 : (0 : Int) ≤ (i : Int) := by omega
  have i2 : (i : Int) < (n : Int) := by omega
  go_enter Try.func47, Try.ntmps47
  go_wp2
  go_ret
  exact ⟨rfl, rfl⟩
/-- Its last write is the one at place k. -/
theorem seen_wait (i k : Nat) (h : Blk w d 86 (dhead (some ⟨f, 0, none⟩) n cf (some ⟨v, 0, none⟩) nv cv (some ⟨g, 0, none⟩) n cl left)) (hi : i < n) (_hn : n ≤ 8192) (hk : k < nv) (hv : nv ≤ maxLen) (hc : w.cell? ⟨g, i, none⟩ = some (.int .i64 ((k : Int) + 1))) :
    Calls Try.prog 47 #[.pointer (some ⟨d, 0, none⟩), .int .i64 (i : Int)] w fun e w' => e = .returned (.pointer (some ⟨v, k * 257 + 1, none⟩)) ∧ w' = w := by
  obtain ⟨h0, h1, h2, -, -, -, -⟩ := dhead_cells h
  clear h
  unfold maxLen at hv
  have i1 : (0 : Int) ≤ (i : Int) := by omega
  have i2 : (i : Int) < (n : Int) := by omega
  have i3 : (0 : Int) < (k : Int) + 1 := by omega
  have i4 : IntKind.i64.wrap ((k : Int) + 1 - 1) = (k : Int) := by rw [IntKind.wrap_i64]; omega
  have i5 : (0 : Int) ≤ (k : Int) := by omega
  have i6 : (k : Int) < (nv : Int) := by omega
  go_enter Try.func47, Try.ntmps47
  go_wp2
  go_ret
  exact ⟨rfl, rfl⟩
end
end Go.Proofs.Ytbaenpgjggojaaa
namespace Go.Proofs.Ytbaenpgjggojaaa
open Go.RowKit

theorem flatten_at {α : Type} (k : Nat) : ∀ (L : List (List α)) (_ : ∀ s ∈ L, s.length = k) (i : Nat) (s : List α) (_ : L[i]? = some s) (j : Nat) (_ : j < k), L.flatten[i * k + j]? = s[j]?
  | [], _, i, s, hs, _, _ => by simp at hs
  | x :: L, h, 0, s, hs, j, hj => by
    have hx : x.length = k := h x (List.mem_cons_self ..)
    simp only [List.getElem?_cons_zero, Option.some.injEq] at hs
    subst hs
    rw [Nat.zero_mul, Nat.zero_add, List.flatten_cons, List.getElem?_append_left (by omega)]
  | x :: L, h, i + 1, s, hs, j, hj => by
    have hx : x.length = k := h x (List.mem_cons_self ..)
    rw [List.getElem?_cons_succ] at hs
    have e : (i + 1) * k + j = k + (i * k + j) := by rw [Nat.succ_mul]; omega
    rw [e, List.flatten_cons, List.getElem?_append_right (by omega), hx, Nat.add_sub_cancel_left]
    exact flatten_at k L (fun s hs => h s (List.mem_cons_of_mem _ hs)) i s hs j hj

/-- A write as cells: its sector's number, its bytes. -/
def encW (x : Nat × List UInt8) : List Value := .int .i64 (x.1 : Int) :: x.2.map enc8
def flatW (ws : List (Nat × List UInt8)) : List Value := (ws.map encW).flatten
def flatS (fl : List (List UInt8)) : Array Value := (fl.map (List.map enc8)).flatten.toArray
def encI (ls : List Nat) : Array Value := (ls.map fun k : Nat => Value.int .i64 (k : Int)).toArray

/-- What lies behind a drum's sectors, and behind the places of the last writes. -/
structure Tails where
  cf : Nat
  cl : Nat
  tf : Array Value
  tg : Array Value

theorem flatS_size (fl : List (List UInt8)) (h : ∀ s ∈ fl, s.length = 256) : (flatS fl).size = fl.length * 256 := by
  unfold flatS
  rw [List.size_toArray, List.length_flatten, List.map_map]
  induction fl with
  | nil => rfl
  | cons s fl ih =>
    rw [List.map_cons, List.sum_cons, ih (fun s hs => h s (List.mem_cons_of_mem _ hs)), Function.comp_apply, List.length_map, h s (List.mem_cons_self ..), List.length_cons]
    omega
theorem encI_size (ls : List Nat) : (encI ls).size = ls.length := by unfold encI; rw [List.size_toArray, List.length_map]

structure Dru (w : World) (base d f g : Nat) (V : Option Addr) (cv : Nat) (T : Tails) (fl : List (List UInt8)) (ws : List (Nat × List UInt8)) (ls : List Nat) (left : Int) : Prop where
  head : Blk w d 86 (dhead (some ⟨f, 0, none⟩) fl.length T.cf V ws.length cv (some ⟨g, 0, none⟩) fl.length T.cl left)
  rows : Blk w f 78 (flatS fl ++ T.tf)
  last : Blk w g 3 (encI ls ++ T.tg)
  row : w.ownsRow base 89 257 (.slice V ws.length cv) ws.length (flatW ws)
  far : base ≤ d ∧ base ≤ f ∧ base ≤ g ∧ d ≠ f ∧ d ≠ g ∧ f ≠ g ∧ ∀ a, V = some a → a.block ≠ d ∧ a.block ≠ f ∧ a.block ≠ g
  len : ls.length = fl.length
  full : ∀ s ∈ fl, s.length = 256
  fullW : ∀ x ∈ ws, x.2.length = 256
  le : ∀ k ∈ ls, k ≤ ws.length
  few : fl.length ≤ 8192
  fewW : ws.length ≤ 1000000

section
variable {w : World} {base d f g : Nat} {V : Option Addr} {cv : Nat} {T : Tails} {fl : List (List UInt8)} {ws : List (Nat × List UInt8)} {ls : List Nat} {left : Int}

theorem Dru.rdS (h : Dru w base d f g V cv T fl ws ls left) (i : Nat) (hi : i < fl.length) : Rd w w.heap.size (some ⟨f, i * 256, none⟩) (fl.getD i []) := by
  refine h.rows.rd h.rows.lt fun j u hu => ?_
  have e : fl.getD i [] = fl[i] := by rw [List.getD_eq_getElem?_getD, List.getElem?_eq_getElem hi]; rfl
  rw [e] at hu
  have hl : fl[i].length = 256 := h.full _ (List.getElem_mem hi)
  have hj : j < 256 := by
    rcases Nat.lt_or_ge j 256 with h' | h'
    · exact h'
    · rw [List.getElem?_eq_none (by omega)] at hu; cases hu
  have hx := flatten_at 256 (fl.map (List.map enc8)) (fun s hs => by
    obtain ⟨x, hx, rfl⟩ := List.mem_map.1 hs
    rw [List.length_map]; exact h.full x hx) i (fl[i].map enc8) (by rw [List.getElem?_map, List.getElem?_eq_getElem hi]; rfl) j hj
  rw [Array.getElem?_append_left (by rw [flatS_size _ h.full]; have := Nat.mul_le_mul_right 256 hi; rw [Nat.succ_mul] at this; omega)]
  unfold flatS
  rw [List.getElem?_toArray, hx, List.getElem?_map, hu]
  rfl
theorem Dru.rdW (h : Dru w base d f g V cv T fl ws ls left) (k : Nat) (hk : k < ws.length) : ∃ v, V = some ⟨v, 0, none⟩ ∧ Rd w w.heap.size (some ⟨v, k * 257 + 1, none⟩) (ws.getD k (0, [])).2 := by
  have hr := h.row
  obtain ⟨v, cap, hv, _, hlt⟩ := hr.form (by omega)
  injection hv with hV _ hc
  subst hV hc
  refine ⟨v, rfl, fun _ => ⟨v, k * 257 + 1, rfl, hlt, fun j u hu => ?_⟩⟩
  have e : ws.getD k (0, []) = ws[k] := by rw [List.getD_eq_getElem?_getD, List.getElem?_eq_getElem hk]; rfl
  rw [e] at hu
  have hl : ws[k].2.length = 256 := h.fullW _ (List.getElem_mem hk)
  have hj : j < 256 := by
    rcases Nat.lt_or_ge j 256 with h' | h'
    · exact h'
    · rw [List.getElem?_eq_none (by omega)] at hu; cases hu
  have hx := flatten_at 257 (ws.map encW) (fun s hs => by
    obtain ⟨x, hx, rfl⟩ := List.mem_map.1 hs
    have := h.fullW x hx
    simp [encW, this]) k (encW ws[k]) (by rw [List.getElem?_map, List.getElem?_eq_getElem hk]; rfl) (j + 1) (by omega)
  have hc := hr.cellAt (k * 257 + 1 + j) (by have := Nat.mul_le_mul_right 257 hk; rw [Nat.succ_mul] at this; omega)
  rw [hc]
  unfold flatW
  rw [show k * 257 + 1 + j = k * 257 + (j + 1) by omega, hx, encW, List.getElem?_cons_succ, List.getElem?_map, hu]
  rfl

/-- seen: where the sector lies as the last write has it. -/
theorem seen_any (i : Nat) (h : Dru w base d f g V cv T fl ws ls left) (hi : i < fl.length) :
    Calls Try.prog 47 #[.pointer (some ⟨d, 0, none⟩), .int .i64 (i : Int)] w fun e w' => (∃ b o, e = .returned (.pointer (some ⟨b, o, none⟩)) ∧ Rd w w.heap.size (some ⟨b, o, none⟩) (nowOf fl ws ls i)) ∧ w' = w := by
  have hil : i < ls.length := by rw [h.len]; exact hi
  have hc : w.cell? ⟨g, i, none⟩ = some (.int .i64 ((ls[i] : Nat) : Int)) := by
    rw [h.last.cell, Array.getElem?_append_left (by rw [encI_size]; exact hil)]
    unfold encI
    rw [List.getElem?_toArray, List.getElem?_map, List.getElem?_eq_getElem hil]
    rfl
  have e : ls.getD i 0 = ls[i] := by rw [List.getD_eq_getElem?_getD, List.getElem?_eq_getElem hil]; rfl
  have hle := h.le _ (List.getElem_mem hil)
  unfold nowOf
  rw [e]
  generalize ls[i] = q at hc hle
  rcases q with _ | k
  · refine (seen_still i h.head hi h.few hc).mono ?_
    rintro e w' ⟨rfl, rfl⟩
    exact ⟨⟨_, _, rfl, h.rdS i hi⟩, rfl⟩
  · obtain ⟨v, rfl, hr⟩ := h.rdW k hle
    refine (seen_wait i k h.head hi h.few hle (by have := h.fewW; unfold maxLen; omega) hc).mono ?_
    rintro e w' ⟨rfl, rfl⟩
    exact ⟨⟨_, _, rfl, hr⟩, rfl⟩
end
end Go.Proofs.Ytbaenpgjggojaaa
