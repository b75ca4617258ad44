/-
A drum as the laws see it: where it is, which blocks are its own, its sectors, its writes that wait. No condition of its own.
-/
import Derived.Test.YtbaenpgjggojaaaDrumWZ9
import Derived.Test.YtbaenpgjggojaaaDrumHZ9
namespace Go.Proofs.Ytbaenpgjggojaaa
open Go.RowKit

/-- A drum in memory. -/
def Dr (w : World) (base d : Nat) (o : Nat → Prop) (fl : List (List UInt8)) (ws : List (Nat × List UInt8)) (left : Int) : Prop :=
  ∃ f g V cv T ls, Dru w base d f g V cv T fl ws ls left ∧ Ri fl.length ws ls ∧ o = ownOf d f g V
/-- A slice of bytes that no act on the drum turns. -/
def RdK (o : Nat → Prop) (w : World) (A : Option Addr) (l : List UInt8) : Prop :=
  0 < l.length → ∃ b q, A = some ⟨b, q, none⟩ ∧ b < w.heap.size ∧ ¬ o b ∧ ∀ (j : Nat) u, l[j]? = some u → w.cell? ⟨b, q + j, none⟩ = some (.int .u8 (u.toNat : Int))
/-- How many more go well, behind one. -/
def less (left : Int) : Int := if left < 0 then left else left - 1
/-- A sector as the last write has it. -/
def now (fl : List (List UInt8)) (ws : List (Nat × List UInt8)) (i : Nat) : List UInt8 := (app fl ws).getD i []

section
variable {w w' : World} {base d n : Nat} {o o' : Nat → Prop} {fl : List (List UInt8)} {ws : List (Nat × List UInt8)} {left : Int} {A : Option Addr} {l : List UInt8}
theorem RdK.rd (h : RdK o w A l) : Rd w w.heap.size A l := fun hn => by
  obtain ⟨b, q, e, hb, _, hc⟩ := h hn
  exact ⟨b, q, e, hb, hc⟩
theorem RdK.kept (h : RdK o w A l) (hk : Kept o w w') (ho : ∀ i, i < w.heap.size → o' i → o i) : RdK o' w' A l := fun hn => by
  obtain ⟨b, q, e, hb, hno, hc⟩ := h hn
  exact ⟨b, q, e, Nat.lt_of_lt_of_le hb hk.size, fun e => hno (ho b hb e), fun j u hu => (World.cell?_of_block (hk.block b hb hno)).trans (hc j u hu)⟩
theorem RdK.below (h : RdK o w A l) (hb : Below w.heap.size w w') : RdK o w' A l := h.kept (Kept.of_below hb) fun _ _ h => h
theorem RdK.of_rd {B : Nat} (h : Rd w B A l) (hB : B ≤ w.heap.size) (ho : ∀ i, o i → B ≤ i) : RdK o w A l := fun hn => by
  obtain ⟨b, q, e, hb, hc⟩ := h hn
  exact ⟨b, q, e, Nat.lt_of_lt_of_le hb hB, fun e => absurd (ho b e) (by omega), hc⟩
/-- What was made behind the drum. -/
theorem RdK.of_new {B : Nat} (h : Rd w w.heap.size A l) (hA : ∀ b q, A = some ⟨b, q, none⟩ → B ≤ b) (ho : ∀ i, o i → i < B) : RdK o w A l := fun hn => by
  obtain ⟨b, q, e, hb, hc⟩ := h hn
  exact ⟨b, q, e, hb, fun e' => absurd (ho b e') (by have := hA b q e; omega), hc⟩

theorem Dr.lt (h : Dr w base d o fl ws left) : ∀ i, o i → i < w.heap.size := by
  obtain ⟨f, g, V, cv, T, ls, h, hr, rfl⟩ := h
  rintro i (rfl | rfl | rfl | ⟨a, e, rfl⟩)
  · exact h.head.lt
  · exact h.rows.lt
  · exact h.last.lt
  · exact h.vlt a e
theorem Dr.ge (h : Dr w base d o fl ws left) : ∀ i, o i → base ≤ i := by
  obtain ⟨f, g, V, cv, T, ls, h, hr, rfl⟩ := h
  rintro i (rfl | rfl | rfl | ⟨a, e, rfl⟩)
  · exact h.far.1
  · exact h.far.2.1
  · exact h.far.2.2.1
  · rcases h.row.2 with ⟨hv, _⟩ | ⟨k, cap, cur, hv, hb, _⟩
    · injection hv with hv _ _; rw [hv] at e; cases e
    · injection hv with hv _ _
      rw [hv] at e
      injection e with e
      subst e
      exact hb
theorem Dr.below (h : Dr w base d o fl ws left) (hb : Below w.heap.size w w') : Dr w' base d o fl ws left := by
  obtain ⟨f, g, V, cv, T, ls, h, hr, rfl⟩ := h
  exact ⟨f, g, V, cv, T, ls, h.below hb, hr, rfl⟩
theorem Dr.keep {own : Nat → Prop} (h : Dr w base d o fl ws left) (hk : Kept own w w') (hn : ∀ i, o i → ¬ own i) : Dr w' base d o fl ws left := by
  obtain ⟨f, g, V, cv, T, ls, h, hr, rfl⟩ := h
  exact ⟨f, g, V, cv, T, ls, h.keep hk hn, hr, rfl⟩
theorem Dr.full (h : Dr w base d o fl ws left) : ∀ s ∈ fl, s.length = 256 := by obtain ⟨f, g, V, cv, T, ls, h, hr, rfl⟩ := h; exact h.full
theorem Dr.fullW (h : Dr w base d o fl ws left) : ∀ x ∈ ws, x.2.length = 256 := by obtain ⟨f, g, V, cv, T, ls, h, hr, rfl⟩ := h; exact h.fullW
theorem Dr.few (h : Dr w base d o fl ws left) : fl.length ≤ 8192 := by obtain ⟨f, g, V, cv, T, ls, h, hr, rfl⟩ := h; exact h.few
theorem Dr.at_ (h : Dr w base d o fl ws left) : ∀ x ∈ ws, x.1 < fl.length := by obtain ⟨f, g, V, cv, T, ls, h, hr, rfl⟩ := h; exact hr.at_

theorem New_dr (n : Nat) (h1 : 1 ≤ n) (hn : n ≤ 8192) (w : World) : Calls Try.prog 7 #[.int .i64 (n : Int)] w fun e w' =>
    ∃ d o, e = .returned (.tuple #[.pointer (some ⟨d, 0, none⟩), .nilIface]) ∧ Dr w' w.heap.size d o (List.replicate n zeros) [] (-1) ∧ Below w.heap.size w w' := by
  refine (New_any n h1 hn w).mono ?_
  rintro e w1 ⟨v, rfl, h⟩
  obtain ⟨d, f, g, e, h2, hb⟩ := Dru.blank hn h
  injection e with e
  subst e
  exact ⟨d, _, rfl, ⟨f, g, none, 0, _, _, h2, by rw [List.length_replicate]; exact Ri.nil n, rfl⟩, hb⟩

theorem spend_ok {F V L : Option Addr} {nf cf nv cv nl cl : Nat} (h : Blk w d 86 (dhead F nf cf V nv cv L nl cl left)) (hl : left ≠ 0) (hm : left < 9223372036854775808) :
    ∃ w2, (Calls Try.prog 56 #[.pointer (some ⟨d, 0, none⟩)] w fun e w' => e = .returned .nilIface ∧ w' = w2) ∧ Kept (fun i => i = d) w w2 ∧ Blk w2 d 86 (dhead F nf cf V nv cv L nl cl (less left)) := by
  unfold less
  by_cases h0 : left < 0
  · rw [if_pos h0]
    exact ⟨w, spend_all h h0, Kept.refl _ _, h⟩
  · rw [if_neg h0]
    exact ⟨_, spend_one h (by omega) hm, kept_set w d 3 none _, dhead_spent h _⟩
theorem Dru.spent {f g cv : Nat} {V : Option Addr} {T : Tails} {ls : List Nat} {left' : Int} (h : Dru w base d f g V cv T fl ws ls left) (hk : Kept (fun i => i = d) w w') (hd : Blk w' d 86 (dhead (some ⟨f, 0, none⟩) fl.length T.cf V ws.length cv (some ⟨g, 0, none⟩) fl.length T.cl left')) : Dru w' base d f g V cv T fl ws ls left' where
  head := hd
  rows := (hk.block f h.rows.lt (Ne.symm h.far.2.2.2.1)).trans h.rows
  last := (hk.block g h.last.lt (Ne.symm h.far.2.2.2.2.1)).trans h.last
  row := by
    refine ⟨h.row.1, ?_⟩
    rcases h.row.2 with h' | ⟨k, cap, cur, hv, hb, hg, r⟩
    · exact .inl h'
    · refine .inr ⟨k, cap, cur, hv, hb, ?_, r⟩
      rw [hk.block k (Array.getElem?_eq_some_iff.1 hg).1 (fun e => (h.far.2.2.2.2.2.2 ⟨k, 0, none⟩ (by injection hv)).1 e)]
      exact hg
  far := h.far
  len := h.len
  full := h.full
  fullW := h.fullW
  le := h.le
  few := h.few
  fewW := h.fewW

theorem Write_dr (h : Dr w base d o fl ws left) (hl : left ≠ 0) (hm : left < 9223372036854775808) (i c : Nat) (hi : i < fl.length) (hR : RdK o w A l) (hn : l.length = n) (hn2 : n ≤ 256) (hws : ws.length < 1000000) :
    Calls Try.prog 42 #[.pointer (some ⟨d, 0, none⟩), .int .i64 (i : Int), .slice A n c] w fun e w' =>
      e = .returned .nilIface ∧ ∃ o', Dr w' base d o' fl (ws ++ [(i, full l)]) (less left) ∧ Kept o w w' ∧ ∀ i, i < w.heap.size → o' i → o i := by
  obtain ⟨f, g, V, cv, T, ls, h, hr, rfl⟩ := h
  obtain ⟨w2, hsp, hk2, hd2⟩ := spend_ok h.head hl hm
  have hko : Kept (ownOf d f g V) w w2 := hk2.mono fun i e => .inl e
  have hR2 := (hR.kept hko fun _ _ h => h).rd
  refine (Write_ok i A n c w2.heap.size l h.head hsp (less left) (h.spent hk2 hd2) hi hR2 (Nat.le_refl _) hn hn2 hws).mono ?_
  rintro e w' ⟨rfl, ⟨V', cv', h', hloc⟩, hk⟩
  refine ⟨rfl, _, ⟨f, g, V', cv', T, _, h', hr.write h.len h.le i hi _, rfl⟩, hko.trans hk (fun _ _ h => h), ?_⟩
  rintro j hj (e | e | e | ⟨a, e, rfl⟩)
  · exact .inl e
  · exact .inr (.inl e)
  · exact .inr (.inr (.inl e))
  · rcases hloc a e with ⟨a', e1, e2⟩ | h1
    · exact .inr (.inr (.inr ⟨a', e1, e2⟩))
    · exact absurd hj (by have := hk2.size; omega)
theorem Flush_dr (h : Dr w base d o fl ws left) (hl : left ≠ 0) (hm : left < 9223372036854775808) :
    Calls Try.prog 32 #[.pointer (some ⟨d, 0, none⟩)] w fun e w' =>
      e = .returned .nilIface ∧ ∃ o', Dr w' base d o' (app fl ws) [] (less left) ∧ Kept o w w' ∧ ∀ i, i < w.heap.size → o' i → o i := by
  obtain ⟨f, g, V, cv, T, ls, h, hr, rfl⟩ := h
  obtain ⟨w2, hsp, hk2, hd2⟩ := spend_ok h.head hl hm
  have hko : Kept (ownOf d f g V) w w2 := hk2.mono fun i e => .inl e
  refine (Flush_ok h.head hsp (less left) (h.spent hk2 hd2) hr).mono ?_
  rintro e w' ⟨rfl, h', hk⟩
  refine ⟨rfl, _, ⟨f, g, none, 0, T, _, h', by rw [app_length]; exact Ri.nil _, rfl⟩, hko.trans hk (fun _ _ h => h), ?_⟩
  rintro j hj (e | e | e | ⟨a, e, rfl⟩)
  · exact .inl e
  · exact .inr (.inl e)
  · exact .inr (.inr (.inl e))
  · cases e
theorem Fall_dr (h : Dr w base d o fl ws left) (c B : Nat) (keep : List Bool) (hK : Rb w B A keep) (hB : B ≤ w.heap.size) (hn : keep.length = n) (hm : n ≤ maxLen) (torn : Int) :
    Calls Try.prog 25 #[.pointer (some ⟨d, 0, none⟩), .slice A n c, .int .i64 torn] w fun e w' =>
      ∃ d' o', e = .returned (.pointer (some ⟨d', 0, none⟩)) ∧ Dr w' w.heap.size d' o' (fallOf fl ws keep torn) [] (-1) ∧ Below w.heap.size w w' := by
  obtain ⟨f, g, V, cv, T, ls, h, hr, rfl⟩ := h
  refine (Fall_any h hr A n c B keep hK hB hn hm torn).mono ?_
  rintro e w' ⟨d', f', g', rfl, h', hb⟩
  exact ⟨d', _, rfl, ⟨f', g', none, 0, _, _, h', by rw [show (fallOf fl ws keep torn).length = fl.length from fallK_length ..]; exact Ri.nil _, rfl⟩, hb⟩
theorem Read_dr (h : Dr w base d o fl ws left) (i : Nat) (hi : i < fl.length) :
    Calls Try.prog 14 #[.pointer (some ⟨d, 0, none⟩), .int .i64 (i : Int)] w fun e w' =>
      e = .returned (.tuple #[.slice (some ⟨w.heap.size, 0, none⟩) 256 256, .nilIface]) ∧ Blk w' w.heap.size 5 ((now fl ws i).map enc8).toArray ∧ Below w.heap.size w w' := by
  obtain ⟨f, g, V, cv, T, ls, h, hr, rfl⟩ := h
  have := Read_any i h hi
  rw [hr.now fl rfl i hi] at this
  exact this
theorem Clean_dr (h : Dr w base d o fl ws left) (i : Nat) (hi : i < fl.length) :
    Calls Try.prog 16 #[.pointer (some ⟨d, 0, none⟩), .int .i64 (i : Int)] w fun e w' => e = .returned (.bool (decide (now fl ws i = zeros))) ∧ w' = w := by
  obtain ⟨f, g, V, cv, T, ls, h, hr, rfl⟩ := h
  have := Clean_any i h hi
  rw [hr.now fl rfl i hi] at this
  exact this
theorem Dr.now_len (h : Dr w base d o fl ws left) (i : Nat) (hi : i < fl.length) : (now fl ws i).length = 256 := by
  unfold now
  exact getD_full (app_full ws h.fullW fl h.full) (by rw [app_length]; exact hi)
end

theorem full_step (l : List UInt8) (k : Nat) (hk : k < l.length) (h : l.length ≤ 256) : (full (l.take k)).set k l[k] = full (l.take (k + 1)) := by
  unfold full
  have h1 : (l.take k).length = k := by rw [List.length_take]; omega
  rw [List.take_succ_eq_append_getElem hk, List.set_append_right _ _ (by rw [h1]; omega), h1, Nat.sub_self, List.append_assoc, List.length_append, h1]
  obtain ⟨m, hm⟩ : ∃ m, 256 - k = m + 1 := ⟨255 - k, by omega⟩
  rw [hm, List.replicate_succ, show 256 - (k + [l[k]].length) = m by simp; omega]
  rfl
set_option maxRecDepth 20000 in
set_option maxHeartbeats 800000 in
theorem Full_any (A : Option Addr) (n c B : Nat) (l : List UInt8) (w : World) (hR : Rd w B A l) (hB : B ≤ w.heap.size) (hn : l.length = n) (hm : n ≤ 256) :
    Calls Try.prog 67 #[.slice A n c] w fun e w' => e = .returned (.slice (some ⟨w.heap.size, 0, none⟩) 256 256) ∧ Blk w' w.heap.size 5 ((full l).map enc8).toArray ∧ Below w.heap.size w w' := by
  subst hn
  have hmk := makeB256
  go_enter Try.func67, Try.ntmps67
  go_wp2
  go_loopw [4, 5, 9] (fun _ _ i wr => ∃ k : Nat, k ≤ l.length ∧ i = .int .i64 k ∧ Blk wr w.heap.size 5 ((full (l.take k)).map enc8).toArray ∧ Below w.heap.size w wr) (fun _ _ i _ => l.length - (intOf i).toNat)
  case atStart =>
    refine ⟨0, Nat.zero_le _, rfl, ?_, (Below.refl _ w).alloc (Nat.le_refl _) _⟩
    have e : ((full (l.take 0)).map enc8).toArray = madeCells #[.int .u8 0] 256 := by
      apply Array.toList_inj.1
      rw [toList_madeCells_one]
      unfold full
      rw [List.take_zero, List.nil_append, List.map_replicate]
      rfl
    rw [e]
    exact Blk.new w _ _
  case round =>
    obtain ⟨k, hk, rfl, hb1, hbl⟩ := hrel
    by_cases hlt : k < l.length
    · obtain ⟨b, q, rfl, hb, hc0⟩ := hR.at_ hlt
      have hc := (hbl.cell (p := ⟨b, q + k, none⟩) (by exact Nat.lt_of_lt_of_le hb hB)).trans hc0
      have hfl : (full (l.take k)).length = 256 := full_length _ (by rw [List.length_take]; omega)
      have hcell : wr.cell? ⟨w.heap.size, k, none⟩ = some (enc8 ((full (l.take k))[k]'(by omega))) := by
        rw [hb1.cell, List.getElem?_toArray, List.getElem?_map, List.getElem?_eq_getElem (by omega)]; rfl
      have hfz := hb1.frozen k
      have HS : Hid (Blk (wr.setCell ⟨w.heap.size, k, none⟩ (.int .u8 ((l[k]).toNat : Int))) w.heap.size 5 ((full (l.take (k + 1))).map enc8).toArray) := Lib.hid (by
        have h := hb1.set_ k (.int .u8 ((l[k]).toNat : Int))
        rw [← full_step l k hlt hm, List.map_set]
        simpa [enc8] using h)
      have HBL := Lib.hid hbl
      generalize (full (l.take k))[k]'(by omega) = old at hcell
      unfold enc8 at hcell
      clear hb1 hbl hfl
      go_wp2
      go_roundw
      case rel => exact ⟨k + 1, by omega, by go_num, HS.out, HBL.out.setCell (by exact Nat.le_refl _) _⟩
      case measure => simp [intOf]; omega
    · have HB1 := Lib.hid hb1
      have HBL := Lib.hid hbl
      clear hb1 hbl
      go_wp2
      go_ret
      refine ⟨rfl, ?_, HBL.out⟩
      have h := HB1.out
      rw [List.take_of_length_le (by omega)] at h
      exact h
end Go.Proofs.Ytbaenpgjggojaaa
