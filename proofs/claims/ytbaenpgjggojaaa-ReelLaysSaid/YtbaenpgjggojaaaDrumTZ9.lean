/-
A new drum is a drum whole; a drum stands where others' blocks turn.
drum.Write's errors: no such sector, too many bytes, no power. Conditions: the head is known.
A drum's sectors as cells: a cell of one, some of them laid anew; a drum whose sectors have turned. No condition.
drum.Turn: bits of a sector turned, one by one. Conditions: the drum is known whole, the sector and the bit are there.
-/
import Derived.Test.YtbaenpgjggojaaaDrumIZ9
import Derived.BigRegion
import Derived.RegionTactic
namespace Go.Proofs.Ytbaenpgjggojaaa
open Go.RowKit

/-- A sector of noughts. -/
def zeros : List UInt8 := List.replicate 256 0
theorem void_flat (n : Nat) : void n = flatS (List.replicate n zeros) := by
  apply Array.toList_inj.1
  unfold void flatS zeros
  rw [toList_madeCells_one, List.map_replicate, List.map_replicate, List.flatten_replicate_replicate]
  rfl
theorem nones_flat (n : Nat) : nones n = encI (List.replicate n 0) := by
  apply Array.toList_inj.1
  unfold nones encI
  rw [toList_madeCells_one, List.map_replicate]
  rfl

/-- A new drum, whole. -/
theorem Dru.blank {n : Nat} (hn : n ≤ 8192) {w w' : World} {e : Ending} (h : BlankPost n w e w') :
    ∃ d f g, e = .returned (.pointer (some ⟨d, 0, none⟩)) ∧ Dru w' w.heap.size d f g none 0 ⟨n, n, #[], #[]⟩ (List.replicate n zeros) [] (List.replicate n 0) (-1) ∧ Below w.heap.size w w' := by
  obtain ⟨d, f, g, rfl, hb, h1, h2, h3, h4, h5, h6, hd, hf, hg⟩ := h
  refine ⟨d, f, g, rfl, ⟨?_, ?_, ?_, ?_, ⟨h1, h2, h3, h4, h5, h6, fun a e => by cases e⟩, ?_, ?_, ?_, ?_, ?_, ?_⟩, hb⟩
  · rw [List.length_replicate]; exact hd
  · rw [Array.append_empty, ← void_flat]; exact hf
  · rw [Array.append_empty, ← nones_flat]; exact hg
  · exact World.ownsRow_nil _ _ _ _
  · rw [List.length_replicate, List.length_replicate]
  · intro s hs; rw [(List.mem_replicate.1 hs).2]; exact List.length_replicate ..
  · intro x hx; cases hx
  · intro k hk; rw [(List.mem_replicate.1 hk).2]; exact Nat.zero_le _
  · rw [List.length_replicate]; exact hn
  · exact Nat.zero_le _

theorem Kept.refl (own : Nat → Prop) (w : World) : Kept own w w := ⟨rfl, rfl, rfl, Nat.le_refl _, fun _ _ _ => rfl⟩
theorem Kept.trans {own own' : Nat → Prop} {a b c : World} (h : Kept own a b) (k : Kept own' b c) (hs : ∀ i, i < a.heap.size → own' i → own i) : Kept own a c :=
  ⟨k.os.trans h.os, k.tape.trans h.tape, k.output.trans h.output, Nat.le_trans h.size k.size, fun i hi hn => (k.block i (Nat.lt_of_lt_of_le hi h.size) (fun e => hn (hs i hi e))).trans (h.block i hi hn)⟩
theorem Kept.of_below {own : Nat → Prop} {a b : World} (h : Below a.heap.size a b) : Kept own a b := ⟨h.os, h.tape, h.output, h.size, fun i hi _ => h.block i hi⟩
theorem Kept.below {own : Nat → Prop} {a b : World} {B : Nat} (h : Kept own a b) (hB : B ≤ a.heap.size) (hn : ∀ i, i < B → ¬ own i) : Below B a b := ⟨h.os, h.tape, h.output, h.size, fun i hi => h.block i (by omega) (hn i hi)⟩
/-- A drum stands where blocks of others turn. -/
theorem Dru.keep {w w' : World} {base d f g : Nat} {V : Option Addr} {cv : Nat} {T : Tails} {fl : List (List UInt8)} {ws : List (Nat × List UInt8)} {ls : List Nat} {left : Int} {own : Nat → Prop}
    (h : Dru w base d f g V cv T fl ws ls left) (hk : Kept own w w') (hn : ∀ i, ownOf d f g V i → ¬ own i) : Dru w' base d f g V cv T fl ws ls left where
  head := (hk.block d h.head.lt (hn d (.inl rfl))).trans h.head
  rows := (hk.block f h.rows.lt (hn f (.inr (.inl rfl)))).trans h.rows
  last := (hk.block g h.last.lt (hn g (.inr (.inr (.inl rfl))))).trans h.last
  row := by
    refine ⟨h.row.1, ?_⟩
    rcases h.row.2 with h' | ⟨k, cap, cur, hv, hb, hg, r⟩
    · exact .inl h'
    · refine .inr ⟨k, cap, cur, hv, hb, ?_, r⟩
      rw [hk.block k (Array.getElem?_eq_some_iff.1 hg).1 (hn k (.inr (.inr (.inr ⟨⟨k, 0, none⟩, by injection hv, rfl⟩))))]
      exact hg
  far := h.far
  len := h.len
  full := h.full
  fullW := h.fullW
  le := h.le
  few := h.few
  fewW := h.fewW
end Go.Proofs.Ytbaenpgjggojaaa
namespace Go.Proofs.Ytbaenpgjggojaaa
open Go.RowKit

section
variable {F V L : Option Addr} {nf cf nv cv nl cl : Nat} {left : Int} {w : World} {d : Nat}
theorem Write_index (i : Int) (A : Option Addr) (n c : Nat) (h : Blk w d 86 (dhead F nf cf V nv cv L nl cl left)) (hi : ¬ (0 ≤ i ∧ i < (nf : Int))) :
    Calls Try.prog 42 #[.pointer (some ⟨d, 0, none⟩), .int .i64 i, .slice A n c] w fun e w' => e = .returned (.iface 54 (.int .i64 7)) ∧ w' = w := by
  go_enter Try.func42, Try.ntmps42
  go_wp2_with fail
  refine (has_any i h).mono ?_
  rintro e w1 ⟨rfl, rfl⟩
  rw [decide_eq_false hi]
  go_wp2_with fail
  go_ret
  exact ⟨rfl, rfl⟩
theorem Write_long (i : Int) (A : Option Addr) (n c : Nat) (h : Blk w d 86 (dhead F nf cf V nv cv L nl cl left)) (hi : 0 ≤ i ∧ i < (nf : Int)) (hn : 256 < n) :
    Calls Try.prog 42 #[.pointer (some ⟨d, 0, none⟩), .int .i64 i, .slice A n c] w fun e w' => e = .returned (.iface 54 (.int .i64 4)) ∧ w' = w := by
  have n1 : 256 < (n : Int) := by omega
  go_enter Try.func42, Try.ntmps42
  go_wp2_with fail
  refine (has_any i h).mono ?_
  rintro e w1 ⟨rfl, rfl⟩
  rw [decide_eq_true hi]
  go_wp2_with fail
  go_ret
  exact ⟨rfl, rfl⟩
theorem Write_off (i : Int) (A : Option Addr) (n c : Nat) (h : Blk w d 86 (dhead F nf cf V nv cv L nl cl 0)) (hi : 0 ≤ i ∧ i < (nf : Int)) (hn : n ≤ 256) :
    Calls Try.prog 42 #[.pointer (some ⟨d, 0, none⟩), .int .i64 i, .slice A n c] w fun e w' => e = .returned (.iface 54 (.int .i64 8)) ∧ w' = w := by
  have n1 : ¬ 256 < (n : Int) := by omega
  go_enter Try.func42, Try.ntmps42
  go_wp2_with fail
  refine (has_any i h).mono ?_
  rintro e w1 ⟨rfl, rfl⟩
  rw [decide_eq_true hi]
  go_wp2_with fail
  refine (spend_no h).mono ?_
  rintro e w1 ⟨rfl, rfl⟩
  go_wp2_with fail
  go_ret
  exact ⟨rfl, rfl⟩
end
end Go.Proofs.Ytbaenpgjggojaaa
namespace Go.Proofs.Ytbaenpgjggojaaa
open Go.RowKit

theorem flatS_get (fl : List (List UInt8)) (h : ∀ s ∈ fl, s.length = 256) (tf : Array Value) (n : Nat) :
    (flatS fl ++ tf)[n]? = if n < fl.length * 256 then some (enc8 ((fl.getD (n / 256) []).getD (n % 256) 0)) else tf[n - fl.length * 256]? := by
  by_cases hn : n < fl.length * 256
  · rw [if_pos hn, Array.getElem?_append_left (by rw [flatS_size _ h]; exact hn)]
    have hi : n / 256 < fl.length := by omega
    have hj : n % 256 < 256 := Nat.mod_lt _ (by decide)
    have hl : fl[n / 256].length = 256 := h _ (List.getElem_mem hi)
    have hx := flatten_at 256 (fl.map (List.map enc8)) (fun s hs => by
      obtain ⟨x, hx, rfl⟩ := List.mem_map.1 hs
      rw [List.length_map]; exact h x hx) (n / 256) (fl[n / 256].map enc8) (by rw [List.getElem?_map, List.getElem?_eq_getElem hi]; rfl) (n % 256) hj
    unfold flatS
    rw [List.getElem?_toArray]
    rw [show n / 256 * 256 + n % 256 = n by omega] at hx
    rw [hx, List.getElem?_map, List.getD_eq_getElem?_getD, List.getD_eq_getElem?_getD, List.getElem?_eq_getElem hi, Option.getD_some, List.getElem?_eq_getElem (by omega)]
    rfl
  · rw [if_neg hn, Array.getElem?_append_right (by rw [flatS_size _ h]; omega), flatS_size _ h]
theorem set_full {fl : List (List UInt8)} (h : ∀ s ∈ fl, s.length = 256) (i : Nat) {x : List UInt8} (hx : x.length = 256) : ∀ s ∈ fl.set i x, s.length = 256 := fun s hs => by
  rcases List.mem_or_eq_of_mem_set hs with h' | rfl
  · exact h s h'
  · exact hx
theorem getD_full {fl : List (List UInt8)} (h : ∀ s ∈ fl, s.length = 256) {i : Nat} (hi : i < fl.length) : (fl.getD i []).length = 256 := by
  rw [List.getD_eq_getElem?_getD, List.getElem?_eq_getElem hi]; exact h _ (List.getElem_mem hi)
set_option maxRecDepth 20000 in
theorem flatS_set1 (fl : List (List UInt8)) (h : ∀ s ∈ fl, s.length = 256) (tf : Array Value) (i j : Nat) (x : UInt8) (hi : i < fl.length) (hj : j < 256) :
    (flatS fl ++ tf).setIfInBounds (i * 256 + j) (.int .u8 (x.toNat : Int)) = flatS (fl.set i ((fl.getD i []).set j x)) ++ tf := by
  have hl := getD_full h hi
  have h' := set_full h i (x := (fl.getD i []).set j x) (by rw [List.length_set]; exact hl)
  have hle : i * 256 + 256 ≤ fl.length * 256 := by have := Nat.mul_le_mul_right 256 hi; rw [Nat.succ_mul] at this; omega
  apply Array.ext_getElem?
  intro n
  rw [Array.getElem?_setIfInBounds, flatS_get _ h', flatS_get _ h, List.length_set, Array.size_append, flatS_size _ h]
  by_cases e : i * 256 + j = n
  · subst e
    rw [if_pos rfl, if_pos (by omega), if_pos (by omega), show (i * 256 + j) / 256 = i by omega, show (i * 256 + j) % 256 = j by omega, getD_set _ _ _ _ _ hi, if_pos rfl, getD_set _ _ _ _ _ (by omega), if_pos rfl]
    rfl
  · rw [if_neg e]
    by_cases hn : n < fl.length * 256
    · rw [if_pos hn, if_pos hn, getD_set _ _ _ _ _ hi]
      by_cases e2 : n / 256 = i
      · rw [if_pos e2, getD_set _ _ _ _ _ (by omega), if_neg (by omega), e2]
      · rw [if_neg e2]
    · rw [if_neg hn, if_neg hn]
theorem tear_get (m : Nat) (p s : List UInt8) (hp : p.length = 256) (_hs : s.length = 256) (hm : m ≤ 256) (j : Nat) : (tear m p s).getD j 0 = if j < m then p.getD j 0 else s.getD j 0 := by
  unfold tear
  rw [List.getD_eq_getElem?_getD, List.getD_eq_getElem?_getD, List.getD_eq_getElem?_getD]
  by_cases h : j < m
  · rw [if_pos h, List.getElem?_append_left (by rw [List.length_take]; omega), List.getElem?_take, if_pos h]
  · rw [if_neg h, List.getElem?_append_right (by rw [List.length_take]; omega), List.length_take, List.getElem?_drop, show m + (j - min m p.length) = j by omega]
set_option maxRecDepth 20000 in
theorem flatS_splice (fl : List (List UInt8)) (h : ∀ s ∈ fl, s.length = 256) (tf : Array Value) (i m : Nat) (p : List UInt8) (hi : i < fl.length) (hp : p.length = 256) (hm : m ≤ 256) :
    (splice (flatS fl ++ tf).toList (i * 256) ((p.take m).map enc8)).toArray = flatS (fl.set i (tear m p (fl.getD i []))) ++ tf := by
  have hl := getD_full h hi
  have h' := set_full h i (x := tear m p (fl.getD i [])) (tear_length m p _ hp hl)
  have hle : i * 256 + 256 ≤ fl.length * 256 := by have := Nat.mul_le_mul_right 256 hi; rw [Nat.succ_mul] at this; omega
  have hX : ((p.take m).map enc8).length = m := by rw [List.length_map, List.length_take]; omega
  have hC : (flatS fl ++ tf).toList.length = fl.length * 256 + tf.size := by rw [Array.length_toList, Array.size_append, flatS_size _ h]
  apply Array.ext_getElem?
  intro n
  rw [List.getElem?_toArray, splice_at _ _ _ _ (by rw [hX, hC]; omega), hX, flatS_get _ h', List.length_set]
  have q : ∀ n, (flatS fl ++ tf).toList[n]? = (flatS fl ++ tf)[n]? := fun n => Array.getElem?_toList
  rw [q, flatS_get _ h]
  by_cases hn : n < fl.length * 256
  · rw [if_pos hn, if_pos hn, getD_set _ _ _ _ _ hi]
    by_cases e2 : n / 256 = i
    · rw [if_pos e2, tear_get _ _ _ hp hl hm, if_neg (show ¬ n < i * 256 by omega)]
      by_cases hj : n % 256 < m
      · have e3 : n - i * 256 = n % 256 := by omega
        have e4 : p[n % 256]? = some (p.getD (n % 256) 0) := by rw [List.getD_eq_getElem?_getD, List.getElem?_eq_getElem (by omega)]; rfl
        rw [if_pos hj, if_pos (by omega), List.getElem?_map, List.getElem?_take, if_pos (by omega), e3, e4]
        rfl
      · rw [if_neg hj, if_neg (by omega), e2]
    · rw [if_neg e2]
      by_cases h1 : n < i * 256
      · rw [if_pos h1]
      · rw [if_neg h1, if_neg (by omega)]
  · rw [if_neg hn, if_neg hn, if_neg (by omega), if_neg (by omega)]

section
variable {w w' : World} {base d f g : Nat} {V : Option Addr} {cv : Nat} {T : Tails} {fl : List (List UInt8)} {ws : List (Nat × List UInt8)} {ls : List Nat} {left : Int}
/-- A drum whose sectors have turned, and nothing else. -/
theorem Dru.sectors (h : Dru w base d f g V cv T fl ws ls left) {fl' : List (List UInt8)} (hl : fl'.length = fl.length) (hf : ∀ s ∈ fl', s.length = 256) (hg : w.grownBy w' (some f)) (hb : Blk w' f 78 (flatS fl' ++ T.tf)) : Dru w' base d f g V cv T fl' ws ls left where
  head := by rw [hl]; exact h.head.grown hg (fun e => h.far.2.2.2.1 (by injection e))
  rows := hb
  last := h.last.grown hg (fun e => h.far.2.2.2.2.2.1 (by injection e with e; exact e.symm))
  row := h.row.kept hg (by
    cases V with
    | none => exact .inl rfl
    | some a => exact .inr (fun e => (h.far.2.2.2.2.2.2 a rfl).2.1 (by simpa [Value.ownBlock] using e)))
  far := h.far
  len := by rw [hl]; exact h.len
  full := hf
  fullW := h.fullW
  le := h.le
  few := by rw [hl]; exact h.few
  fewW := h.fewW
end
end Go.Proofs.Ytbaenpgjggojaaa
namespace Go.Proofs.Ytbaenpgjggojaaa
open Go.RowKit

section
variable {w : World} {base d f g : Nat} {V : Option Addr} {cv : Nat} {T : Tails} {fl : List (List UInt8)} {ws : List (Nat × List UInt8)} {ls : List Nat} {left : Int}

theorem turnK_full {fl : List (List UInt8)} (h : ∀ s ∈ fl, s.length = 256) {i : Nat} (hi : i < fl.length) (bit mask k : Nat) : (turnK (fl.getD i []) bit mask k).length = 256 := by rw [turnK_length, getD_full h hi]

theorem and_one (y : Nat) (h1 : y < 4294967296) : bits .and .u32 (y : Int) 1 = ((y % 2 : Nat) : Int) := by
  rw [u32_and _ _ (by omega) (by omega) (by omega) (by omega)]
  have : ((y : Int).toNat &&& (1 : Int).toNat) = y % 2 := Nat.and_two_pow_sub_one_eq_mod _ 1
  rw [this]
theorem mask_bit (mask k : Nat) (hm : mask < 4294967296) : (bits .and .u32 ((mask : Int) / 2 ^ k) 1 == 1) = mask.testBit k := by
  have h1 : mask / 2 ^ k < 4294967296 := Nat.lt_of_le_of_lt (Nat.div_le_self _ _) hm
  have e0 : ((mask : Int) / 2 ^ k) = ((mask / 2 ^ k : Nat) : Int) := by push_cast; rfl
  rw [e0, and_one _ h1, Nat.testBit_eq_decide_div_mod_eq]
  rcases Nat.mod_two_eq_zero_or_one (mask / 2 ^ k) with h | h <;> rw [h] <;> rfl
theorem xor_two (x : UInt8) (y : Nat) (hy : y < 256) : bits .xor .u8 (x.toNat : Int) ((y : Int) % 256) = ((x.toNat ^^^ y : Nat) : Int) := by
  have hx : x.toNat < 256 := x.toNat_lt
  rw [u8_xor _ _ (by omega) (by omega) (by omega) (by omega), show ((y : Int) % 256).toNat = y by omega]
  rfl
theorem xor8 (x : UInt8) (j : Nat) (hj : j < 8) : bits .xor .u8 (x.toNat : Int) (2 ^ j % 256) = (((UInt8.ofNat (x.toNat ^^^ 2 ^ j)).toNat : Nat) : Int) := by
  have h2 : 2 ^ j < 256 := Nat.pow_lt_pow_right (m := j) (n := 8) (by decide) hj
  have e0 : ((2 : Int) ^ j) = ((2 ^ j : Nat) : Int) := by push_cast; rfl
  rw [e0, xor_two x _ h2, UInt8.toNat_ofNat', Nat.mod_eq_of_lt (xor_u8 _ _ hj)]
theorem sect_cell {w : World} {f : Nat} {fl : List (List UInt8)} {tf : Array Value} (h : Blk w f 78 (flatS fl ++ tf)) (hf : ∀ s ∈ fl, s.length = 256) (i j : Nat) (hi : i < fl.length) (hj : j < 256) : w.cell? ⟨f, i * 256 + j, none⟩ = some (.int .u8 ((((fl.getD i []).getD j 0).toNat : Nat) : Int)) := by
  rw [h.cell, flatS_get _ hf, if_pos (by have := Nat.mul_le_mul_right 256 hi; rw [Nat.succ_mul] at this; omega), show (i * 256 + j) / 256 = i by omega, show (i * 256 + j) % 256 = j by omega]
  rfl

end
end Go.Proofs.Ytbaenpgjggojaaa
