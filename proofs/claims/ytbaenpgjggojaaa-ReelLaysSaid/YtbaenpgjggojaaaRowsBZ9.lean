/-
Rows of rows: what they read as; what is appended to one; one among a law's arguments, opened. No condition.
-/
import Derived.Test.YtbaenpgjggojaaaAppZ9
import Derived.Test.YtbaenpgjggojaaaShutZ9
import Derived.Laws.AppendOwnNone
import Derived.Deep.Slices
import Derived.Deep.Grids
import Derived.Test.YtbaenpgjggojaaaDrumBZ9
namespace Go.Proofs.Ytbaenpgjggojaaa
open Go.ChangeShapes Go.WideShapes Go.ChangeAt Go.RowKit

/-- A slice whose cells are these values, in one block. -/
def Cs (w : World) (B : Nat) (A : Option Addr) (l : List Value) : Prop :=
  0 < l.length → ∃ b o, A = some ⟨b, o, none⟩ ∧ b < B ∧ ∀ (j : Nat) u, l[j]? = some u → w.cell? ⟨b, o + j, none⟩ = some u
theorem Cs.at_ {w : World} {B : Nat} {A : Option Addr} {l : List Value} {k : Nat} (h : Cs w B A l) (hk : k < l.length) : ∃ b o, A = some ⟨b, o, none⟩ ∧ b < B ∧ w.cell? ⟨b, o + k, none⟩ = some (l[k]'hk) := by
  obtain ⟨b, o, e, hb, hc⟩ := h (by omega)
  exact ⟨b, o, e, hb, hc k _ (List.getElem?_eq_getElem hk)⟩
theorem Cs.below {w w' : World} {B : Nat} {A : Option Addr} {l : List Value} (h : Cs w B A l) (hb : Below B w w') : Cs w' B A l := fun hn => by
  obtain ⟨b, o, e, hlt, hc⟩ := h hn
  exact ⟨b, o, e, hlt, fun j u hu => (hb.cell (p := ⟨b, _, none⟩) hlt).trans (hc j u hu)⟩

/-- A row: where it lies, how much room it has, its bytes. -/
structure Rw where
  A : Option Addr
  c : Nat
  l : List UInt8
def Rw.val (r : Rw) : Value := .slice r.A r.l.length r.c
/-- All of these rows are there. -/
def RwsIn (w : World) (B : Nat) (rs : List Rw) : Prop := ∀ r ∈ rs, r.l.length ≤ r.c ∧ r.c ≤ maxLen ∧ Rd w B r.A r.l

theorem infoR : (Try.prog.info? 35).map (fun i => (i.zero, i.size, i.bytes)) = some (some (.slice none 0 0), 1, 24) := by kernel_rfl
def OwnR (w : World) (base : Nat) (v : Value) (n : Nat) (l : List Value) : Prop := w.ownsRow base 35 1 v n l
theorem OwnR.alloc {w : World} {b n : Nat} {v : Value} {l : List Value} (h : OwnR w b v n l) (o : Obj) : OwnR (w.alloc o) b v n l := World.ownsRow.alloc h o
theorem OwnR.below {w w' : World} {b n : Nat} {v : Value} {l : List Value} (h : OwnR w b v n l) (hb : Below w.heap.size w w') : OwnR w' b v n l := by
  refine ⟨h.1, ?_⟩
  rcases h.2 with h | ⟨g, cap, cur, h1, h2, h3, h4⟩
  · exact Or.inl h
  · exact Or.inr ⟨g, cap, cur, h1, h2, (hb.block g (Array.getElem?_eq_some_iff.1 h3).1).trans h3, h4⟩
theorem wpList_appendR {w : World} {ops : Array Oper} {rest : List Oper} {o : Oper} {a : Act} {Q : Exit → Act → World → Prop} (hgd : o.guard = Option.none) (s x : Operand)
    (ho : o.op = .call { callee := .builtin .append, args := #[s, x], argTypes := #[22, 22] })
    (base : Nat) (v : Value) (n : Nat) (l : List Value) (hs : a.eval s = v) (hown : OwnR w base v n l)
    (b : Nat) (u : Value) (hx : a.eval x = .slice (some ⟨b, 0, none⟩) 1 1) (hR : w.cell? ⟨b, 0, none⟩ = some u) (hu : u.oneCell' = true) (hsz : n ≤ 1000) (hbase : base ≤ w.heap.size)
    (h : ∀ v' w', OwnR w' base v' (n + 1) (l ++ [u]) → w.grownBy w' v.ownBlock → wpList Try.prog ops Q rest (a.put o.dst v') w') : wpList Try.prog ops Q (o :: rest) a w := by
  refine wpList_plain hgd fun _ hK => ?_
  obtain ⟨i0, hi, hz0, hz1, hz2⟩ := info_parts infoR
  obtain ⟨v', w', hr, h2, h3, _⟩ := run_append_own (P := Try.prog) w base 22 o.type 35 i0 (.slice none 0 0) 1 24 Try.underlying22 hi hz0 hz1 hz2 rfl (by decide) v n l hown
      ⟨b, 0, none⟩ 1 1 [u] rfl (fun j y hy => by
        rcases j with _ | j
        · simp only [List.getElem?_cons_zero, Option.some.injEq] at hy
          subst hy
          simpa [go_sem] using hR
        · simp at hy) (fun y hy => by rw [List.mem_singleton.1 hy]; exact hu) (by unfold maxLen; omega) (by omega) hbase
  unfold Oper.wp execOp
  simp only [ho, resolve, invoke, builtin, Sem.run_bind, Sem.run_pure, Result.andThen_ok, List.map_toArray, List.map_cons, List.map_nil, hs, hx, hr]
  exact hK _ _ (h v' w' h2 h3)
theorem own_formR {w : World} {base : Nat} {v : Value} {n : Nat} {l : List Value} (h : OwnR w base v n l) :
    l.length = n ∧ ∃ A c, v = .slice A n c ∧ n ≤ c ∧ c ≤ maxLen ∧ Cs w w.heap.size A l := by
  have hl : l.length = n := by have := h.1; omega
  refine ⟨hl, ?_⟩
  unfold OwnR at h
  rcases h.2 with ⟨rfl, rfl⟩ | ⟨g, cap, cur, rfl, _, hg, hnc, hcm, _⟩
  · exact ⟨_, _, rfl, Nat.le_refl _, by decide, fun hn => by omega⟩
  · refine ⟨_, _, rfl, hnc, hcm, fun _ => ⟨g, 0, rfl, (Array.getElem?_eq_some_iff.1 hg).1, fun j u hu => ?_⟩⟩
    have := World.ownsRow.cells h (g := g) rfl j u hu
    simpa [go_sem] using this

/-- A row of bytes of the call's own. -/
def ClW (w : World) (l : List UInt8) (e : Ending) (w' : World) : Prop := ∃ v, e = .returned v ∧ OwnB w' w.heap.size v l.length l ∧ Below w.heap.size w w'
theorem own_lenW {w : World} {base : Nat} {v : Value} {n : Nat} {l : List UInt8} (h : OwnB w base v n l) : l.length = n := by
  have := h.1
  simpa using this


set_option maxHeartbeats 1000000 in
theorem CutW_any (A : Option Addr) (n c B most : Nat) (l : List UInt8) (w : World) (hR : Rd w B A l) (hn : l.length = n) (hm : n ≤ 9223372036854775807) (hmost : most ≤ 140737488355328) (hB : B ≤ w.heap.size) :
    Calls Try.prog 24 #[.slice A n c, .int .i64 most] w (ClW w (l.take most)) := by
  subst hn
  go_enter Try.func24, Try.ntmps24
  go_wp2
  go_loopw [5, 10] (fun v i wr => ∃ k : Nat, k ≤ l.length ∧ i = .int .i64 k ∧ OwnB wr w.heap.size v (min k most) (l.take (min k most)) ∧ Below w.heap.size w wr) (fun _ i _ => l.length - (intOf i).toNat)
  case atStart => exact ⟨0, Nat.zero_le _, rfl, by simpa using OwnB.nil_ _ _, Below.refl _ _⟩
  case round =>
    obtain ⟨k, hk, rfl, hown, hbl⟩ := hrel
    by_cases hlt : k < l.length
    · obtain ⟨b, o, rfl, hb, hc0⟩ := hR.at_ hlt
      have hc := (hbl.cell (p := ⟨b, o + k, none⟩) (by exact Nat.lt_of_lt_of_le hb hB)).trans hc0
      have hsz := hbl.size
      by_cases hmk : k < most
      · rw [Nat.min_eq_left (by omega : k ≤ most)] at hown
        have HO := Lib.hid (hown.alloc (.cells #[.int .u8 ((l[k]).toNat : Int)] 5))
        have HT := Lib.hid (show l.take k ++ [l[k]] = l.take (min (k + 1) most) from by rw [Nat.min_eq_left (by omega), List.take_succ_eq_append_getElem hlt])
        have HR1 := Lib.hid (rd_one wr l[k])
        clear hown
        go_wp2_with (with_reducible refine wpList_append_bytes (o := ⟨some 21, _, _, _, _, _⟩) rfl (.tmp 18) (.tmp 20) rfl w.heap.size _ k (l.take k) ?h1 HO.out (wr.heap.size + 1) (some ⟨wr.heap.size, 0, none⟩) 1 1 [l[k]] ?h2 HR1.out rfl ?h3 ?h4 ?_)
        case h1 => rfl
        case h2 => rfl
        case h3 => omega
        case h4 => simp; omega
        intro v' w1 hown' hg
        have hbl' := hg.below HO.out (hbl.alloc hsz _) (Nat.le_refl _) (by simp; omega)
        have HO' := Lib.hid hown'
        clear hown' hg
        go_wp2
        go_roundw
        case rel => exact ⟨k + 1, by omega, by go_num, by rw [Nat.min_eq_left (by omega)]; simpa using HO'.out, hbl'⟩
        case measure => simp [intOf]; omega
      · have e1 : min k most = most := Nat.min_eq_right (by omega)
        have e2 : min (k + 1) most = most := Nat.min_eq_right (by omega)
        have HE := Lib.hid e1
        have HE2 := Lib.hid e2
        have HO := Lib.hid hown
        clear hown e1 e2
        go_wp2
        go_roundw
        case rel => exact ⟨k + 1, by omega, by go_num, by rw [HE2.out]; have h := HO.out; rw [HE.out] at h; exact h, hbl⟩
        case measure => simp [intOf]; omega
    · have HO := Lib.hid hown
      clear hown
      go_wp2
      go_ret
      have h := HO.out
      have e : l.take (min k most) = l.take most := by
        obtain rfl : k = l.length := by omega
        rcases Nat.le_total l.length most with h1 | h1
        · rw [Nat.min_eq_left h1, List.take_of_length_le (Nat.le_refl _), List.take_of_length_le h1]
        · rw [Nat.min_eq_right h1]
      rw [e] at h
      have hl := own_lenW h
      exact ⟨_, rfl, by rw [hl]; exact h, hbl⟩


section
variable {H : Type} {enc : TypeId × Value → H} {W : World}
theorem cellsR : Try.prog.cellsOf 35 = 1 := by kernel_rfl
theorem cells8R : Try.prog.cellsOf 5 = 1 := by kernel_rfl
set_option maxRecDepth 20000 in
theorem open_row {w : World} {n : Nat} {v : Value} {x : DataW H × List MemPlace} (h : DataW.trod enc Try.prog w 0 (fun _ => true) true n 35 [v] = some x) (hlt : ∀ y ∈ x.2, y.block < w.heap.size) :
    ∃ r : Rw, v = r.val ∧ r.l.length ≤ r.c ∧ r.c ≤ maxLen ∧ Rd w w.heap.size r.A r.l := by
  rcases open_ints Try.underlying35 Try.underlying5 cells8R h with ⟨hcs, hx⟩ | ⟨a, len, cap, zs, hcs, _, hl, hm, hz, hx, hcell, hwz⟩
  · obtain rfl := List.head_eq_of_cons_eq hcs
    exact ⟨⟨none, 0, []⟩, rfl, Nat.le_refl _, by decide, Rd.nil_⟩
  · obtain rfl := List.head_eq_of_cons_eq hcs
    subst hx
    simp only [if_true] at hz
    refine ⟨⟨some a, cap, bytesOf (zs.take len)⟩, ?_, ?_, hm, fun h0 => ?_⟩
    · unfold Rw.val
      simp only
      rw [show (bytesOf (zs.take len)).length = len by rw [bytesOf, List.length_map, List.length_take]; omega]
    · simp only
      rw [bytesOf, List.length_map, List.length_take]
      omega
    · have h0' : 0 < len := by
        simp only at h0
        rw [bytesOf, List.length_map, List.length_take] at h0
        omega
      obtain ⟨b, off, spot⟩ := a
      have hspot : spot = Option.none := by simpa [Addr.add] using World.cell?_spot (hcell 0 (by omega))
      subst hspot
      refine ⟨b, off, rfl, hlt (.cell b off) (by first | exact MemPlace.mem_row.2 ⟨0, by omega, by simp⟩ | exact List.mem_append_left _ (MemPlace.mem_row.2 ⟨0, by omega, by simp⟩)), fun j u hu => ?_⟩
      obtain ⟨hj, hv⟩ := bytesOf_at (fun z hz' => hwz z (List.mem_of_mem_take hz')) hu
      rw [List.length_take] at hj
      have hc := hcell j (by omega)
      rw [add_plain] at hc
      rw [hc, hv]
      congr 2
      rw [List.getD_eq_getElem?_getD, List.getD_eq_getElem?_getD, List.getElem?_take_of_lt (by omega)]
set_option maxRecDepth 20000 in
theorem open_rws {b0 : Nat} {v : Value} {d : DataW H} {p : List MemPlace} (hval : Value.okWide Try.prog W .any b0 22 v) (h : DataW.Trod enc Try.prog W 0 (fun _ => true) true 22 v d p) (hlt : ∀ x ∈ p, x.block < W.heap.size) :
    ∃ (A : Option Addr) (n c : Nat) (rs : List Rw), v = .slice A n c ∧ rs.length = n ∧ n ≤ c ∧ c ≤ maxLen ∧ Cs W W.heap.size A (rs.map Rw.val) ∧ RwsIn W W.heap.size rs := by
  obtain ⟨a0, len, cap, rfl⟩ := okWide_slice Try.underlying22 hval
  obtain ⟨fuel, hf⟩ := h
  rcases Go.Deep.open_slice1 Try.underlying22 cellsR hf with ⟨hcs, hx⟩ | ⟨a, len', cap', m, n, V, D, Pl, hcs, _, hl, hm, hmm, hx, hi⟩
  · simp [Value.cells] at hcs
    obtain ⟨rfl, rfl, rfl⟩ := hcs
    exact ⟨Option.none, 0, 0, [], rfl, rfl, Nat.le_refl _, Nat.zero_le _, (fun hn => absurd hn (by simp)), (fun u hu => nomatch hu)⟩
  · simp [Value.cells] at hcs
    obtain ⟨rfl, rfl, rfl⟩ := hcs
    simp only [if_true] at hmm
    subst hmm
    simp only [Prod.mk.injEq] at hx
    obtain ⟨_, rfl⟩ := hx
    have hl2 : ∀ k, k ≤ len → ∃ rs : List Rw, rs.length = k ∧ RwsIn W W.heap.size rs ∧ ∀ (j : Nat) r, rs[j]? = some r → W.cell? (a.add j) = some r.val := by
      intro k
      induction k with
      | zero => exact fun _ => ⟨[], rfl, (fun u hu => nomatch hu), (fun j v hv => by simp at hv)⟩
      | succ k ih =>
        intro hk
        obtain ⟨rs, h1, h2, h3⟩ := ih (by omega)
        obtain ⟨hc, ht⟩ := hi k (by omega)
        obtain ⟨r, hr, g1, g2, g3⟩ := open_row ht (fun y hy => hlt y (List.mem_append_right _ (List.mem_flatMap.2 ⟨k, List.mem_range.2 (by omega), hy⟩)))
        refine ⟨rs ++ [r], by simp [h1], fun u hu => ?_, fun j u hu => ?_⟩
        · rcases List.mem_append.1 hu with hu | hu
          · exact h2 u hu
          · rw [List.mem_singleton.1 hu]; exact ⟨g1, g2, g3⟩
        · rcases Nat.lt_or_ge j k with hj | hj
          · rw [List.getElem?_append_left (by omega)] at hu
            exact h3 j u hu
          · rw [List.getElem?_append_right (by omega), h1] at hu
            have hj2 : j = k := by
              rcases Nat.lt_or_ge k j with h | h
              · rw [List.getElem?_eq_none (by simp; omega)] at hu; cases hu
              · omega
            subst hj2
            simp only [Nat.sub_self, List.getElem?_cons_zero, Option.some.injEq] at hu
            subst hu
            rw [hc, hr]
    obtain ⟨rs, h1, h2, h3⟩ := hl2 len (Nat.le_refl _)
    refine ⟨some a, len, m, rs, rfl, h1, hl, hm, fun hn => ?_, h2⟩
    rw [List.length_map, h1] at hn
    obtain ⟨b, off, spot⟩ := a
    have h0 := h3 0 _ (List.getElem?_eq_getElem (by omega))
    have hspot : spot = Option.none := by simpa [Addr.add] using World.cell?_spot h0
    subst hspot
    refine ⟨b, off, rfl, hlt (.cell b off) (List.mem_append_left _ (MemPlace.mem_row.2 ⟨0, by omega, by simp⟩)), fun j v hv => ?_⟩
    rw [List.getElem?_map] at hv
    cases hr : rs[j]? with
    | none => rw [hr] at hv; cases hv
    | some r =>
      rw [hr] at hv
      have := h3 j r hr
      rw [add_plain] at this
      rw [this]
      exact hv
end

section
variable {H : Type} {enc : TypeId × Value → H} {W : World}
theorem cellsL : Try.prog.cellsOf 4 = 1 := by kernel_rfl
set_option maxRecDepth 100000 in
/-- An argument that is a slice of Bools. -/
theorem open_bls {b0 : Nat} {v : Value} {d : DataW H} {p : List MemPlace} (hval : Value.okWide Try.prog W .any b0 23 v) (h : DataW.Trod enc Try.prog W 0 (fun _ => true) true 23 v d p) (hlt : ∀ x ∈ p, x.block < W.heap.size) :
    ∃ A n c l, v = .slice A n c ∧ l.length = n ∧ n ≤ c ∧ c ≤ maxLen ∧ Rb W W.heap.size A l := by
  obtain ⟨a0, len, cap, rfl⟩ := okWide_slice Try.underlying23 hval
  obtain ⟨fuel, hf⟩ := h
  rcases Go.Deep.open_bools Try.underlying23 Try.underlying4 cellsL hf with ⟨hcs, hx⟩ | ⟨a, len', cap', Bf, hcs, _, hl, hm, hx, hcell⟩
  · simp [Value.cells] at hcs
    obtain ⟨rfl, rfl, rfl⟩ := hcs
    exact ⟨Option.none, 0, 0, [], rfl, rfl, Nat.le_refl _, by decide, fun h => absurd h (by simp)⟩
  · simp [Value.cells] at hcs
    obtain ⟨rfl, rfl, rfl⟩ := hcs
    simp only [Prod.mk.injEq] at hx
    obtain ⟨rfl, rfl⟩ := hx
    refine ⟨some a, len, cap, (List.range len).map Bf, rfl, by rw [List.length_map, List.length_range], hl, hm, fun h0 => ?_⟩
    have h0' : 0 < len := by rw [List.length_map, List.length_range] at h0; omega
    obtain ⟨b, off, spot⟩ := a
    have hspot : spot = Option.none := by simpa [Addr.add] using World.cell?_spot (hcell 0 (by omega))
    subst hspot
    refine ⟨b, off, rfl, hlt (.cell b off) (MemPlace.mem_row.2 ⟨0, by omega, by simp⟩), fun j u hu => ?_⟩
    have hj : j < len := by
      rcases Nat.lt_or_ge j len with h | h
      · exact h
      · rw [List.getElem?_eq_none (by rw [List.length_map, List.length_range]; exact h)] at hu; cases hu
    have hc := hcell j (by omega)
    rw [add_plain] at hc
    rw [List.getElem?_map, List.getElem?_range hj] at hu
    injection hu with hu
    rw [hc, hu]
end
end Go.Proofs.Ytbaenpgjggojaaa
