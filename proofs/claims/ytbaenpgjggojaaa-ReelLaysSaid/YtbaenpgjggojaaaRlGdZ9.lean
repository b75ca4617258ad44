/-
Records. Conditions: a reel's records in memory, a thousand at most.
A drum that holds a reel: what its acts make of it, what Open finds of it. Conditions: a generation that there is; records that aren't too long.
-/
import Derived.Test.YtbaenpgjggojaaaRlYZ9
namespace Go.Proofs.Ytbaenpgjggojaaa
open Go.ChangeShapes Go.WideShapes Go.RowKit

theorem makeR (n : Nat) (hn : n ≤ 100000) (u : World) :
    (Instr.makeSlice 22 (.int .i64 (n : Int)) (.int .i64 (n : Int))).run Try.prog u = .ok (.slice (some ⟨u.heap.size, 0, none⟩) n n) (u.alloc (.cells (madeCells #[.slice none 0 0] n) 35)) := by
  obtain ⟨i0, hi, hz0, hz1, hz2⟩ := info_parts infoR
  have h := run_make (P := Try.prog) u 22 35 i0 (.slice none 0 0) Try.underlying22 hi hz0 .i64 .i64 (n : Int) (n : Int) (by omega) (Int.le_refl _) (by rw [hz2]; omega) (by omega)
  simpa [hz1, Value.cells] using h
/-- A list of records that was made since: its row, each record a row of its own. -/
def Recs (B q : Nat) (Ls : List (List UInt8)) (vs : List Value) (W : World) : Prop :=
  Blk W q 35 vs.toArray ∧ vs.length = Ls.length ∧ ∀ (i : Nat) v b, vs[i]? = some v → Ls[i]? = some b → OwnB W B v b.length b ∧ v.ownBlock ≠ some q
def RecsPost (w : World) (Ls : List (List UInt8)) (e : Ending) (w' : World) : Prop :=
  ∃ q vs, e = .returned (.slice (some ⟨q, 0, none⟩) Ls.length Ls.length) ∧ w.heap.size ≤ q ∧ Recs w.heap.size q Ls vs w' ∧ Below w.heap.size w w'
/-- Between two rounds. -/
def RecRel (w : World) (q : Nat) (Ls : List (List UInt8)) (k : Nat) (W : World) : Prop :=
  ∃ vs : List Value, vs.length = k ∧ Blk W q 35 (vs ++ List.replicate (Ls.length - k) (Value.slice none 0 0)).toArray ∧ (∀ (i : Nat) v b, vs[i]? = some v → Ls[i]? = some b → OwnB W w.heap.size v b.length b ∧ v.ownBlock ≠ some q) ∧ Below w.heap.size w W
section
variable {w : World} {r d g u c B q : Nat} {Ls : List (List UInt8)} {R : Option Addr} {vals : List Value}
theorem rec_store {W W2 : World} {k : Nat} {A : Option Addr} {c9 : Nat} {b : List UInt8} (h : RecRel w q Ls k W) (hk : k < Ls.length) (hb : Ls[k]? = some b) (hq : w.heap.size ≤ q) (hbl : Below W.heap.size W W2) (hx : OwnB W2 W.heap.size (.slice A b.length c9) b.length b) :
    RecRel w q Ls (k + 1) (W2.setCell ⟨q, k, none⟩ (.slice A b.length c9)) := by
  obtain ⟨vs, hl, hB, ho, hw⟩ := h
  have hql := hB.lt
  have hs := hw.size
  have e : (vs ++ List.replicate (Ls.length - k) (Value.slice none 0 0)).toArray.setIfInBounds k (.slice A b.length c9) = (vs ++ [Value.slice A b.length c9] ++ List.replicate (Ls.length - (k + 1)) (Value.slice none 0 0)).toArray := by
    rw [List.setIfInBounds_toArray, List.set_append_right _ _ (by omega), show k - vs.length = 0 from by omega, show Ls.length - k = Ls.length - (k + 1) + 1 from by omega, List.replicate_succ, List.set_cons_zero]
    simp
  have hks : Kept (fun i => i = q) W2 (W2.setCell ⟨q, k, none⟩ (.slice A b.length c9)) := kept_set W2 q k none _
  refine ⟨vs ++ [.slice A b.length c9], by simp [hl], ?_, ?_, (hw.trans (hbl.mono hs)).setCell (p := ⟨q, k, none⟩) hq _⟩
  · have h2 := (hB.below hbl hql).set_ k (.slice A b.length c9)
    rw [e] at h2
    exact h2
  · intro i v b' hv hb'
    by_cases hi : i < k
    · rw [List.getElem?_append_left (by omega)] at hv
      obtain ⟨h1, h2⟩ := ho i v b' hv hb'
      exact ⟨ownB_kept (h1.below hbl) hks fun z hz e => h2 (by rw [hz, e]), h2⟩
    · have hi2 : i = k := by
        have := (List.getElem?_eq_some_iff.1 hv).1
        simp at this
        omega
      subst hi2
      rw [List.getElem?_append_right (by omega), hl, Nat.sub_self] at hv
      simp only [List.getElem?_cons_zero, Option.some.injEq] at hv
      rw [hb] at hb'
      injection hb' with hb'
      subst hb'
      subst hv
      have hxl := fun z hz => World.ownsRow.lt hx z hz
      exact ⟨(ownB_kept hx hks fun z hz e => by have := hxl z hz; omega).low (by omega), fun e => by have := hxl q e; omega⟩
set_option maxRecDepth 20000 in
set_option maxHeartbeats 4000000 in
theorem Records_any (h : HeldAt B r d g Ls u R c vals w) (hB : B ≤ w.heap.size) (hL : Ls.length ≤ 1000) (hb : ∀ b ∈ Ls, b.length ≤ 1000000) :
    Calls Try.prog 10 #[.pointer (some ⟨r, 0, none⟩)] w (RecsPost w Ls) := by
  obtain ⟨-, -, c2, -⟩ := rhead_cells h.1
  obtain ⟨n, hn⟩ : ∃ n, Ls.length = n := ⟨_, rfl⟩
  have hmk := makeR n (by omega) w
  have h0 : RecRel w w.heap.size Ls 0 (w.alloc (.cells (madeCells #[.slice none 0 0] n) 35)) := ⟨[], rfl, by
    have e : (madeCells #[(.slice none 0 0 : Value)] n) = ([] ++ List.replicate (Ls.length - 0) (Value.slice none 0 0)).toArray := by
      apply Array.toList_inj.1
      rw [toList_madeCells_one]
      simp [hn]
    rw [e]
    exact Blk.new w _ _, fun i v b hv => by simp at hv, (Below.refl _ _).alloc (Nat.le_refl _) _⟩
  have hb1 : Below w.heap.size w (w.alloc (.cells (madeCells #[.slice none 0 0] n) 35)) := (Below.refl _ _).alloc (Nat.le_refl _) _
  obtain ⟨W1, hW1⟩ : ∃ W, w.alloc (.cells (madeCells #[.slice none 0 0] n) 35) = W := ⟨_, rfl⟩
  obtain ⟨q, hq⟩ : ∃ q, w.heap.size = q := ⟨_, rfl⟩
  rw [hW1] at hmk h0 hb1
  rw [hq] at hmk
  have hc1 := (rhead_cells (h.1.below hb1 h.1.lt)).2.2.1
  have H0 := Lib.hid h0
  have HH := Lib.hid (And.intro h (And.intro hB (And.intro hL hb)))
  have HN := Lib.hid (And.intro hn hq)
  have hn1 : (n : Int) ≤ 1000 := by omega
  rw [hn] at c2 hc1
  have e9 : w.heap.size = q := hq
  clear h hB hL hb hn h0 hb1 hW1 hq
  go_enter Try.func10, Try.ntmps10
  go_wp2_with fail
  go_loopw [4, 5, 19] (fun _ _ i wr => ∃ k : Nat, k ≤ n ∧ i = .int .i64 (k : Int) ∧ RecRel w q Ls k wr) (fun _ _ i _ => n - (intOf i).toNat)
  case atStart => exact ⟨0, Nat.zero_le _, rfl, by rw [← HN.out.2]; exact H0.out⟩
  case round =>
    obtain ⟨k, hk, rfl, hrel⟩ := hrel
    have HR := Lib.hid hrel
    clear hrel
    have hk1 : (k : Int) ≤ 1000 := by omega
    by_cases hlt : k < n
    · have hlt2 : (k : Int) < (n : Int) := by omega
      obtain ⟨b, hbk⟩ : ∃ b, Ls[k]? = some b := ⟨_, List.getElem?_eq_getElem (by rw [HN.out.1]; exact hlt)⟩
      obtain ⟨v, hvk⟩ : ∃ v, vals[k]? = some v := ⟨_, List.getElem?_eq_getElem (by rw [HH.out.1.2.2.1, HN.out.1]; exact hlt)⟩
      have hbw : Below w.heap.size w wr := by
        obtain ⟨vs, -, -, -, h⟩ := HR.out
        exact h
      have hh := HH.out.1.below hbw
      obtain ⟨hov, -⟩ := hh.2.2.2.2 k v b hvk hbk
      obtain ⟨-, A, c9, rfl, hc9, hcm, hrd⟩ := own_form hov
      obtain ⟨gR, cR, hRv, -, -⟩ := World.ownsRow.form hh.2.1 (by rw [HN.out.1]; omega)
      have hcell := World.ownsRow.cells hh.2.1 (g := gR) (by rw [hRv]; rfl) k _ hvk
      have hRR : R = some ⟨gR, 0, none⟩ := by injection hRv
      subst hRR
      have cC := CloneL_any A b.length c9 wr.heap.size b wr hrd rfl (by have := HH.out.2.2.2 b (List.mem_of_getElem? hbk); omega) (Nat.le_refl _)
      have hbl : b.length ≤ 1000000 := HH.out.2.2.2 b (List.mem_of_getElem? hbk)
      have HB := Lib.hid (And.intro hbk (And.intro hbl hbw))
      have hcell2 : wr.cell? ⟨gR, k, none⟩ = some (.slice A b.length c9) := by simpa [go_sem] using hcell
      clear hbk hvk hh hov hrd hRv hcell hbw hlt hbl
      go_wp2_with fail
      refine cC.mono ?_
      rintro e W2 ⟨A2, c8, rfl, -, -, hx, hb2⟩
      obtain ⟨vs, hvl, hqb, -, -⟩ := HR.out
      have hqb2 := hqb.below hb2 hqb.lt
      have s1 : W2.frozen? ⟨q, k, none⟩ = false := hqb2.frozen k
      have s0 : ∃ u, W2.cell? ⟨q, k, none⟩ = some u := by
        rw [hqb2.cell k, List.getElem?_toArray]
        exact ⟨_, List.getElem?_eq_getElem (by simp; have := HN.out.1; omega)⟩
      obtain ⟨u0, s0⟩ := s0
      have HS := Lib.hid (rec_store HR.out (by rw [HN.out.1]; omega) HB.out.1 (by rw [HN.out.2]; exact Nat.le_refl _) hb2 hx)
      clear cC hqb hqb2 hvl hx hb2
      go_wp2_with fail
      go_roundw
      case rel => exact ⟨k + 1, by omega, congrArg (Value.int .i64) (by omega), HS.out⟩
      case measure => simp [intOf]; omega
    · have hlt2 : ¬ (k : Int) < (n : Int) := by omega
      have hkn : k = n := by omega
      subst hkn
      clear hlt
      go_wp2_with fail
      go_ret
      obtain ⟨vs, h1, h2, h3, h4⟩ := HR.out
      refine ⟨q, vs, by rw [HN.out.1]; rfl, by rw [HN.out.2]; exact Nat.le_refl _, ⟨?_, by rw [h1, HN.out.1], h3⟩, h4⟩
      rw [HN.out.1, Nat.sub_self] at h2
      simpa using h2
end
end Go.Proofs.Ytbaenpgjggojaaa
namespace Go.Proofs.Ytbaenpgjggojaaa
open Go.ChangeShapes Go.WideShapes Go.RowKit

theorem hdN_head (g : Nat) (hg : g < 4294967296) (k : Nat) : hdN (headL g) k = if k = g % 2 then g else 0 := by
  have hb : bodyOf (headL g) = Crc.frm 0 (Crc.wrd g) ++ List.replicate 242 0 := by
    unfold headL
    rw [bodyOf_sector]
    have hl : (Crc.frm 0 (Crc.wrd g)).length = 12 := by rw [Crc.frm_length, Crc.wrd_length]
    rw [List.take_of_length_le (by omega), hl]
  have h1 : nxtErr 0 (Crc.frm 0 (Crc.wrd g) ++ List.replicate 242 0) = 0 := by
    rw [nxt_frm 0 0 (Crc.wrd g) _ (by rw [Crc.wrd_length]; omega), frm_blank 0 (Crc.wrd g) _ (by rw [Crc.wrd_length]; decide) (by rw [Crc.wrd_length]; decide)]
    simp
  obtain ⟨h2, h3⟩ := nxt_frm_body 0 (Crc.wrd g) (List.replicate 242 0) (by rw [Crc.wrd_length]; omega)
  rw [Crc.wrd_length] at h2
  have h4 : valK (Crc.wrd g) 4 = g := by
    have h := headOf_wrd g [] hg
    rw [List.append_nil] at h
    exact h
  have h5 : markOf (headL g) = markN g := by
    unfold headL
    rw [markOf_sector]
    have := mark_u8 g
    omega
  unfold hdN
  rw [hb, h3, h4, if_pos ⟨h1, h2⟩, h5]
  by_cases hk : k = g % 2
  · rw [if_pos ⟨rfl, hk⟩, if_pos hk]
  · rw [if_neg (fun h => hk h.2), if_neg hk]
theorem hdN_zeros (k : Nat) : hdN zeros k = 0 := by
  have h : nxtErr 0 (bodyOf zeros) ≠ 0 := by decide +kernel
  unfold hdN
  rw [if_neg (fun e => h e.1)]
/-- A drum that holds a reel of a generation with these records. -/
def Good (fl : List (List UInt8)) (ws : List (Nat × List UInt8)) (g : Nat) (Ls : List (List UInt8)) : Prop :=
  1 ≤ g ∧ g < 2147483648 ∧ 6 ≤ fl.length ∧ Ls ≠ [] ∧ now fl ws (g % 2) = headL g ∧ hdN (now fl ws ((g + 1) % 2)) ((g + 1) % 2) < g ∧ Stands fl ws (startN fl.length g) (halfN fl.length) g Ls
section
variable {fl fl' : List (List UInt8)} {ws ws' : List (Nat × List UInt8)} {g : Nat} {Ls : List (List UInt8)} {b : List UInt8}
theorem Good.new (h : Good fl ws g Ls) : newN fl ws = g := by
  obtain ⟨h1, h2, -, -, h4, h5, -⟩ := h
  have e := hdN_head g (by omega) (g % 2)
  rw [if_pos rfl] at e
  unfold newN
  rcases Nat.mod_two_eq_zero_or_one g with hg | hg
  · rw [hg] at h4 e
    rw [show (g + 1) % 2 = 1 from by omega] at h5
    rw [h4, e]
    omega
  · rw [hg] at h4 e
    rw [show (g + 1) % 2 = 0 from by omega] at h5
    rw [h4, e]
    omega
theorem Good.same (h : Good fl ws g Ls) (hl : fl'.length = fl.length) (hn : ∀ j, j < fl.length → now fl' ws' j = now fl ws j) : Good fl' ws' g Ls := by
  obtain ⟨h1, h2, h3, h4, h5, h6, h7, h8, h9⟩ := h
  have hb := half_bounds fl.length g h3
  have q1 : g % 2 < 2 := Nat.mod_lt _ (by decide)
  have q2 : (g + 1) % 2 < 2 := Nat.mod_lt _ (by decide)
  unfold Good Stands
  rw [hl]
  exact ⟨h1, h2, h3, h4, by rw [hn _ (by omega)]; exact h5, by rw [hn _ (by omega)]; exact h6, h7, h8, fun i hi => by rw [hn _ (by omega)]; exact h9 i hi⟩
theorem Good.found (h : Good fl ws g Ls) {j : Nat} {M : List (List UInt8)} (hj : j ≤ halfN fl.length) (hm : ∀ i, i < j → markOf (now fl ws (startN fl.length (newN fl ws) + i)) = 165)
    (he : j = halfN fl.length ∨ markOf (now fl ws (startN fl.length (newN fl ws) + j)) ≠ 165) (hM : Founds (newN fl ws) 0 (preL fl ws (startN fl.length (newN fl ws)) j) M) : j = usedN Ls ∧ M = Ls := by
  rw [h.new] at hm he hM
  exact h.2.2.2.2.2.2.found hj hm he hM
theorem Good.noErr (h : Good fl ws g Ls) (k : Nat) : ¬ OpenErr fl ws k := by
  rintro (⟨-, e⟩ | ⟨-, -, e⟩ | ⟨-, -, -, j, h1, h2, h3, h4⟩)
  · have := h.2.2.1; omega
  · rw [h.new] at e
    have := h.1; omega
  · exact h.2.2.2.1 (h.found h1 h2 h3 h4).2.symm
/-- What Open leaves of a drum that holds a reel. -/
theorem Good.opened (h : Good fl ws g Ls) (hl : fl'.length = fl.length) (hn : ∀ i, now fl' ws' i = if startN fl.length (newN fl ws) + usedN Ls ≤ i ∧ i < startN fl.length (newN fl ws) + halfN fl.length then zeros else now fl ws i) : Good fl' ws' g Ls := by
  refine h.same hl fun j hj => ?_
  rw [hn j, h.new]
  split
  · rename_i hh
    obtain ⟨i, rfl⟩ : ∃ i, j = startN fl.length g + i := ⟨j - startN fl.length g, by omega⟩
    rw [h.2.2.2.2.2.2.2.2 i (by omega), List.getD_eq_getElem?_getD, List.getElem?_eq_none (by rw [secsL_len]; omega)]
    rfl
  · rfl
theorem Good.append (h : Good fl ws g Ls) (hb : b.length ≤ 100000) (hu : usedN Ls + pagesN b.length ≤ halfN fl.length) : Good fl (addW fl ws g Ls b) g (Ls ++ [b]) := by
  obtain ⟨h1, h2, h3, h4, h5, h6, h7, h8, h9⟩ := h
  have hh := half_bounds fl.length g h3
  have hl := secs_len (seedN g Ls.length) b
  have q1 : g % 2 < 2 := Nat.mod_lt _ (by decide)
  have q2 : (g + 1) % 2 < 2 := Nat.mod_lt _ (by decide)
  have hn : ∀ j, now fl (addW fl ws g Ls b) j = if startN fl.length g + usedN Ls ≤ j ∧ j < startN fl.length g + usedN Ls + pagesN b.length then (secs (seedN g Ls.length) b).getD (j - (startN fl.length g + usedN Ls)) [] else now fl ws j := fun j => by
    unfold addW
    rw [now_puts fl ws _ j (secs (seedN g Ls.length) b) _ (List.reverse_reverse _).symm (by rw [hl]; omega), hl]
  refine ⟨h1, h2, h3, by simp, by rw [hn, if_neg (by omega)]; exact h5, by rw [hn, if_neg (by omega)]; exact h6, by rw [usedN_snoc]; exact hu, fun p hp => ?_, fun i hi => ?_⟩
  · rcases List.mem_append.1 hp with hp | hp
    · exact h8 p hp
    · rw [List.mem_singleton.1 hp]; exact hb
  · rw [hn, secsL_snoc, Nat.zero_add]
    have hsl := secsL_len g Ls 0
    by_cases hi2 : usedN Ls ≤ i ∧ i < usedN Ls + pagesN b.length
    · rw [if_pos (by omega), List.getD_eq_getElem?_getD, List.getD_eq_getElem?_getD, List.getElem?_append_right (by omega), show i - (secsL g 0 Ls).length = startN fl.length g + i - (startN fl.length g + usedN Ls) from by omega, List.getElem?_eq_getElem (by omega)]
      rfl
    · rw [if_neg (by omega), h9 i hi, List.getD_eq_getElem?_getD, List.getD_eq_getElem?_getD]
      by_cases hi3 : i < usedN Ls
      · rw [List.getElem?_append_left (by omega)]
      · rw [List.getElem?_eq_none (by omega), List.getElem?_eq_none (by rw [List.length_append]; omega)]
theorem stands_one (fl' : List (List UInt8)) (ws' : List (Nat × List UInt8)) (a N g : Nat) (b : List UInt8) (hb : b.length ≤ 100000) (hu : pagesN b.length ≤ N) (h : ∀ i, i < N → now fl' ws' (a + i) = (secs (seedN g 0) b).getD i zeros) : Stands fl' ws' a N g [b] := by
  refine ⟨by show (List.map _ [b]).sum ≤ N; simpa using hu, fun p hp => by rw [List.mem_singleton.1 hp]; exact hb, fun i hi => ?_⟩
  rw [h i hi]
  show _ = (secs (seedN g 0) b ++ secsL g 1 []).getD i zeros
  rw [show secsL g 1 [] = [] from rfl, List.append_nil]
theorem good_make (hl : fl'.length = fl.length) (h6 : 6 ≤ fl.length) (hb : b.length ≤ 100000) (hu : pagesN b.length ≤ halfN fl.length) (hn : ∀ j, j < fl.length → now fl' [] j = makeNow fl.length b j) : Good fl' [] 1 [b] := by
  have hh := half_bounds fl.length 1 h6
  unfold Good
  rw [hl]
  refine ⟨Nat.le_refl _, by decide, h6, by simp, ?_, ?_, stands_one _ _ _ _ _ _ hb hu fun i hi => ?_⟩
  · rw [hn _ (by omega)]
    rfl
  · rw [show (1 + 1) % 2 = 0 from rfl, hn _ (by omega)]
    unfold makeNow
    rw [if_neg (by decide), if_neg (by omega), hdN_zeros]
    decide
  · rw [hn _ (by omega)]
    unfold makeNow
    rw [if_neg (by omega), if_pos (by omega), show startN fl.length 1 + i - startN fl.length 1 = i from by omega]
theorem Good.turn (h : Good fl ws g Ls) (hg : g + 1 < 2147483648) (hl : fl'.length = fl.length) (hb : b.length ≤ 100000) (hu : pagesN b.length ≤ halfN fl.length) (hn : ∀ j, j < fl.length → now fl' [] j = begNow fl ws (g + 1) b j) : Good fl' [] (g + 1) [b] := by
  have h3 := h.2.2.1
  have hh := half_bounds fl.length (g + 1) h3
  have hh0 := half_bounds fl.length g h3
  have q1 : (g + 1) % 2 < 2 := Nat.mod_lt _ (by decide)
  have q2 : (g + 1 + 1) % 2 = g % 2 := by omega
  have q3 : g % 2 < 2 := Nat.mod_lt _ (by decide)
  unfold Good
  rw [hl]
  refine ⟨by omega, hg, h3, by simp, ?_, ?_, stands_one _ _ _ _ _ _ hb hu fun i hi => ?_⟩
  · rw [hn _ (by omega)]
    unfold begNow
    rw [if_pos rfl]
  · rw [q2, hn _ (by omega)]
    unfold begNow
    rw [if_neg (by omega), if_neg (by omega), h.2.2.2.2.1, hdN_head g (by have := h.2.1; omega), if_pos rfl]
    omega
  · rw [hn _ (by omega)]
    unfold begNow
    rw [if_neg (by omega), if_pos (by omega), show startN fl.length (g + 1) + i - startN fl.length (g + 1) = i from by omega]
end
end Go.Proofs.Ytbaenpgjggojaaa
