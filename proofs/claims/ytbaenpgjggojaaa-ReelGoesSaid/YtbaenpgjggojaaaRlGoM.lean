/-
The references' Join. Conditions: the bytes are there, and not more than memory bears.
Lists of records that a law gathers beside a reel; the laws' cut. No condition but sizes.
-/
import Derived.Test.YtbaenpgjggojaaaRlSmM
import Derived.Test.YtbaenpgjggojaaaRlSnM
namespace Go.Proofs.Ytbaenpgjggojaaa
open Go.RowKit

/-- A slice's parts: its address, its capacity, its bytes. -/
structure Seg where
  at_ : Option Addr
  cap : Nat
  l : List UInt8
def Seg.val (g : Seg) : Value := .slice g.at_ g.l.length g.cap
def glue : List Seg → List UInt8
  | [] => []
  | g :: gs => g.l ++ glue gs
theorem glue_snoc (gs : List Seg) (g : Seg) : glue (gs ++ [g]) = glue gs ++ g.l := by
  induction gs with
  | nil => simp [glue]
  | cons x gs ih => simp [glue, ih]
theorem glue_take (gs : List Seg) (k : Nat) (hk : k < gs.length) : glue (gs.take (k + 1)) = glue (gs.take k) ++ (gs[k]).l := by
  rw [List.take_succ_eq_append_getElem hk, glue_snoc]
theorem glue_take_le (gs : List Seg) (k : Nat) : (glue (gs.take k)).length ≤ (glue gs).length := by
  induction gs generalizing k with
  | nil => simp [glue]
  | cons g gs ih =>
    cases k with
    | zero => simp [glue]
    | succ k =>
      have := ih k
      simp only [List.take_succ_cons, glue, List.length_append]
      omega
/-- The cells of a slice of slices of bytes. -/
def Segs (w : World) (B b o : Nat) (gs : List Seg) : Prop := ∀ (j : Nat) g, gs[j]? = some g → w.cell? ⟨b, o + j, none⟩ = some (.slice g.at_ g.l.length g.cap) ∧ Rd w B g.at_ g.l

def OwnPost (B : Nat) (w : World) (l : List UInt8) (e : Ending) (w' : World) : Prop := ∃ v, e = .returned v ∧ OwnB w' B v l.length l ∧ Below B w w'
theorem OwnPost.cut {B : Nat} {w w' : World} {l : List UInt8} {e : Ending} (h : OwnPost B w l e w') : CutPost B w l e w' := by
  obtain ⟨v, rfl, ho, hb⟩ := h
  obtain ⟨hl, A', c', hv, hc1, hc2, hrd⟩ := own_form ho
  exact ⟨A', c', by rw [← hv], hc1, hc2, hrd, hb⟩

set_option maxHeartbeats 1000000 in
theorem Join_own (b o c B : Nat) (gs : List Seg) (n : Nat) (w : World) (hS : Segs w B b o gs) (hbB : b < B) (hB : B ≤ w.heap.size) (hn : gs.length = n) (hnm : n ≤ 140737488355328) (hm : (glue gs).length ≤ 140737488355328) :
    Calls Try.prog 37 #[.slice (some ⟨b, o, none⟩) n c] w (OwnPost w.heap.size w (glue gs)) := by
  subst hn
  go_enter Try.func37, Try.ntmps37
  go_wp2
  go_loopw [3, 8] (fun v i wr => ∃ k : Nat, k ≤ gs.length ∧ i = .int .i64 k ∧ OwnB wr w.heap.size v (glue (gs.take k)).length (glue (gs.take k)) ∧ Below w.heap.size w wr) (fun _ i _ => gs.length - (intOf i).toNat)
  case atStart => exact ⟨0, Nat.zero_le _, rfl, OwnB.nil_ _ _, Below.refl _ _⟩
  case round =>
    obtain ⟨k, hk, rfl, hown, hbl⟩ := hrel
    have hsz := hbl.size
    by_cases hlt : k < gs.length
    · obtain ⟨hc0, hr0⟩ := hS k _ (List.getElem?_eq_getElem hlt)
      have hc := (hbl.cell (p := ⟨b, o + k, none⟩) (by exact Nat.lt_of_lt_of_le hbB hB)).trans hc0
      have hr := Lib.hid ((hr0.more hB).below hbl)
      have HT := Lib.hid (glue_take gs k hlt)
      have hle := glue_take_le gs (k + 1)
      rw [HT.out, List.length_append] at hle
      have HO := Lib.hid hown
      clear hown hr0 hc0
      generalize glue (gs.take k) = sofar at HT HO hle
      generalize gs[k] = g at hc hr HT hle
      go_wp2_with (with_reducible refine wpList_append_bytes (o := ⟨some 14, _, _, _, _, _⟩) rfl (.tmp 12) (.tmp 13) rfl w.heap.size _ sofar.length sofar ?h1 HO.out w.heap.size g.at_ g.l.length g.cap g.l ?h2 hr.out rfl ?h3 hsz ?_)
      case h1 => rfl
      case h2 => rfl
      case h3 => omega
      intro v' w1 hown' hg
      have hbl' := hg.below HO.out hbl (Nat.le_refl _) hsz
      have HO' := Lib.hid hown'
      clear hown' hg
      go_wp2
      go_roundw
      case rel => exact ⟨k + 1, by omega, by go_num, by rw [HT.out, List.length_append]; exact HO'.out, hbl'⟩
      case measure => simp [intOf]; omega
    · obtain rfl : k = gs.length := by omega
      rw [List.take_of_length_le (Nat.le_refl _)] at hown
      have HO := Lib.hid hown
      clear hown
      go_wp2
      go_ret
      exact ⟨_, rfl, HO.out, hbl⟩
theorem Join_any (b o c B : Nat) (gs : List Seg) (n : Nat) (w : World) (hS : Segs w B b o gs) (hbB : b < B) (hB : B ≤ w.heap.size) (hn : gs.length = n) (hnm : n ≤ 140737488355328) (hm : (glue gs).length ≤ 140737488355328) :
    Calls Try.prog 37 #[.slice (some ⟨b, o, none⟩) n c] w (CutPost w.heap.size w (glue gs)) := (Join_own b o c B gs n w hS hbB hB hn hnm hm).mono fun _ _ h => h.cut

theorem seg_rd {w : World} {B : Nat} {A : Option Addr} {l : List UInt8} (h : Rd w B A l) (hB : B ≤ w.heap.size) (o : Obj) : Rd (w.alloc o) (w.heap.size + 1) A l := (h.alloc hB o).more (by omega)
/-- Join of two. -/
theorem Join_two (A1 A2 : Option Addr) (n1 n2 c1 c2 B1 B2 : Nat) (l1 l2 : List UInt8) (w : World) (h1 : Rd w B1 A1 l1) (hB1 : B1 ≤ w.heap.size) (h2 : Rd w B2 A2 l2) (hB2 : B2 ≤ w.heap.size) (hn1 : l1.length = n1) (hn2 : l2.length = n2) (hm : n1 + n2 ≤ 140737488355328) :
    Calls Try.prog 37 #[.slice (some ⟨w.heap.size, 0, none⟩) 2 2] (w.alloc (.cells #[.slice A1 n1 c1, .slice A2 n2 c2] 35)) (CutPost w.heap.size w (l1 ++ l2)) := by
  subst hn1 hn2
  have h := Join_any w.heap.size 0 2 (w.heap.size + 1) [⟨A1, c1, l1⟩, ⟨A2, c2, l2⟩] 2 (w.alloc (.cells #[.slice A1 l1.length c1, .slice A2 l2.length c2] 35)) (fun j g hg => by
      rcases j with _ | _ | j
      · simp only [List.getElem?_cons_zero, Option.some.injEq] at hg
        subst hg
        exact ⟨by simp [go_sem], seg_rd h1 hB1 _⟩
      · simp only [List.getElem?_cons_succ, List.getElem?_cons_zero, Option.some.injEq] at hg
        subst hg
        exact ⟨by simp [go_sem], seg_rd h2 hB2 _⟩
      · simp at hg) (by omega) (by simp) rfl (by decide) (by simp [glue]; omega)
  refine h.mono fun e w' hp => ?_
  obtain ⟨A, c, he, hc1, hc2, hr, hb⟩ := hp
  have e1 : glue [⟨A1, c1, l1⟩, ⟨A2, c2, l2⟩] = l1 ++ l2 := by simp [glue]
  rw [e1] at he hc1 hr
  exact ⟨A, c, he, hc1, hc2, hr, ((Below.refl _ w).alloc (Nat.le_refl _) _).trans (hb.mono (by simp))⟩
/-- Join of one. -/
theorem Join_one_own (A1 : Option Addr) (n1 c1 B1 : Nat) (l1 : List UInt8) (w : World) (h1 : Rd w B1 A1 l1) (hB1 : B1 ≤ w.heap.size) (hn1 : l1.length = n1) (hm : n1 ≤ 140737488355328) :
    Calls Try.prog 37 #[.slice (some ⟨w.heap.size, 0, none⟩) 1 1] (w.alloc (.cells #[.slice A1 n1 c1] 35)) (OwnPost w.heap.size w l1) := by
  subst hn1
  have h := Join_own w.heap.size 0 1 (w.heap.size + 1) [⟨A1, c1, l1⟩] 1 (w.alloc (.cells #[.slice A1 l1.length c1] 35)) (fun j g hg => by
      rcases j with _ | j
      · simp only [List.getElem?_cons_zero, Option.some.injEq] at hg
        subst hg
        exact ⟨by simp [go_sem], seg_rd h1 hB1 _⟩
      · simp at hg) (by omega) (by simp) rfl (by decide) (by simp [glue]; omega)
  refine h.mono fun e w' hp => ?_
  obtain ⟨v, he, ho, hb⟩ := hp
  have e1 : glue [⟨A1, c1, l1⟩] = l1 := by simp [glue]
  rw [e1] at ho
  refine ⟨v, he, ⟨ho.1, ?_⟩, ((Below.refl _ w).alloc (Nat.le_refl _) _).trans (hb.mono (by simp))⟩
  rcases ho.2 with h | ⟨g, cap, cur, ha, hg, hr⟩
  · exact .inl h
  · refine .inr ⟨g, cap, cur, ha, ?_, hr⟩
    have : (w.alloc (.cells #[.slice A1 l1.length c1] 35)).heap.size = w.heap.size + 1 := by simp
    omega
theorem Join_one (A1 : Option Addr) (n1 c1 B1 : Nat) (l1 : List UInt8) (w : World) (h1 : Rd w B1 A1 l1) (hB1 : B1 ≤ w.heap.size) (hn1 : l1.length = n1) (hm : n1 ≤ 140737488355328) :
    Calls Try.prog 37 #[.slice (some ⟨w.heap.size, 0, none⟩) 1 1] (w.alloc (.cells #[.slice A1 n1 c1] 35)) (CutPost w.heap.size w l1) := (Join_one_own A1 n1 c1 B1 l1 w h1 hB1 hn1 hm).mono fun _ _ h => h.cut
end Go.Proofs.Ytbaenpgjggojaaa
namespace Go.Proofs.Ytbaenpgjggojaaa
open Go.ChangeShapes Go.WideShapes Go.RowKit

/-- A list of records in a row of its own, off a reel's blocks. -/
def Gath (B : Nat) (own : Nat → Prop) (A : Option Addr) (c : Nat) (vals : List Value) (Ls : List (List UInt8)) (W : World) : Prop :=
  OwnR W B (.slice A Ls.length c) Ls.length vals ∧ vals.length = Ls.length ∧ (∀ q, (Value.slice A Ls.length c).ownBlock = some q → ¬ own q) ∧
    ∀ (i : Nat) v b, vals[i]? = some v → Ls[i]? = some b → OwnB W B v b.length b ∧ ∀ q, v.ownBlock = some q → ¬ own q ∧ (Value.slice A Ls.length c).ownBlock ≠ some q
section
variable {W W' W2 : World} {B c : Nat} {own own' : Nat → Prop} {A : Option Addr} {vals : List Value} {Ls : List (List UInt8)}
theorem Gath.keep (h : Gath B own A c vals Ls W) (k : Ks W own W' own') : Gath B own' A c vals Ls W' := by
  obtain ⟨h1, h2, h3, h4⟩ := h
  refine ⟨ownR_kept h1 k.1 h3, h2, fun q hq e => h3 q hq (k.2 q (World.ownsRow.lt h1 q hq).2 e), fun i v b hv hb => ?_⟩
  obtain ⟨g1, g2⟩ := h4 i v b hv hb
  exact ⟨ownB_kept g1 k.1 fun q hq => (g2 q hq).1, fun q hq => ⟨fun e => (g2 q hq).1 (k.2 q (World.ownsRow.lt g1 q hq).2 e), (g2 q hq).2⟩⟩
theorem Gath.below (h : Gath B own A c vals Ls W) (hb : Below W.heap.size W W') : Gath B own A c vals Ls W' := h.keep (Ks.below hb)
theorem Gath.lst (h : Gath B own A c vals Ls W) : ∃ rs, Lst W A Ls.length c rs ∧ lsOf rs = Ls := by
  obtain ⟨h1, h2, h3, h4⟩ := h
  obtain ⟨rs, k1, k2, k3⟩ := rows_of (fun r => r.l.length ≤ r.c ∧ r.c ≤ maxLen ∧ Rd W W.heap.size r.A r.l) vals Ls h2 (fun i v b hv hb => rw_own (h4 i v b hv hb).1)
  obtain ⟨-, A', c', e, hc1, hc2, hcs⟩ := own_formR h1
  injection e with e1 e2 e3
  subst e1
  subst e3
  exact ⟨rs, ⟨by rw [← h2, ← k1, List.length_map], hc1, hc2, by rw [k1]; exact hcs, k3⟩, k2⟩
theorem Gath.low {b' : Nat} (h : Gath B own A c vals Ls W) (hb : b' ≤ B) : Gath b' own A c vals Ls W := by
  obtain ⟨h1, h2, h3, h4⟩ := h
  refine ⟨⟨h1.1, ?_⟩, h2, h3, fun i v b hv hl => ⟨(h4 i v b hv hl).1.low hb, (h4 i v b hv hl).2⟩⟩
  rcases h1.2 with k | ⟨g, cap, cur, k1, k2, k3⟩
  · exact .inl k
  · exact .inr ⟨g, cap, cur, k1, by omega, k3⟩
/-- A list of one record of nothing. -/
theorem Gath.one (W : World) (own : Nat → Prop) (hlt : ∀ i, own i → i < W.heap.size) : Gath W.heap.size own (some ⟨W.heap.size, 0, none⟩) 1 [.slice none 0 0] [[]] (W.alloc (.cells #[.slice none 0 0] 35)) := by
  refine ⟨World.ownsRow_lit W #[.slice none 0 0] 1 (Nat.le_refl _) (by decide) (by simp), rfl, fun q hq e => ?_, fun i v b hv hb => ?_⟩
  · simp [Value.ownBlock] at hq
    have := hlt q e
    omega
  · have hi : i = 0 := by
      have := (List.getElem?_eq_some_iff.1 hv).1
      simp at this
      exact this
    subst hi
    simp only [List.getElem?_cons_zero, Option.some.injEq] at hv hb
    subst hv
    subst hb
    exact ⟨OwnB.nil_ _ _, fun q hq => by simp [Value.ownBlock] at hq⟩
/-- One more. -/
theorem Gath.more {W3 : World} {A5 : Option Addr} {c5 : Nat} {P : List UInt8} {v' : Value} (h : Gath B own A c vals Ls W) (hlt : ∀ i, own i → i < W.heap.size) (hP : OwnB W B (.slice A5 P.length c5) P.length P) (hPo : ∀ q, (Value.slice A5 P.length c5).ownBlock = some q → ¬ own q ∧ (Value.slice A Ls.length c).ownBlock ≠ some q)
    (hown : OwnR W3 B v' (Ls.length + 1) (vals ++ [.slice A5 P.length c5])) (hg : (W.alloc (.cells #[.slice A5 P.length c5] 35)).grownBy W3 (Value.slice A Ls.length c).ownBlock)
    (hloc : v'.ownBlock = (Value.slice A Ls.length c).ownBlock ∨ v'.ownBlock = some (W.alloc (.cells #[.slice A5 P.length c5] 35)).heap.size) :
    ∃ A' c', v' = .slice A' (Ls.length + 1) c' ∧ Gath B own A' c' (vals ++ [.slice A5 P.length c5]) (Ls ++ [P]) W3 ∧ Kept (fun i => (Value.slice A Ls.length c).ownBlock = some i) W W3 := by
  have hsz : (W.alloc (.cells #[.slice A5 P.length c5] 35)).heap.size = W.heap.size + 1 := by simp
  have hk : Kept (fun i => (Value.slice A Ls.length c).ownBlock = some i) W W3 := (Kept.of_below (own := fun i => (Value.slice A Ls.length c).ownBlock = some i) ((Below.refl W.heap.size W).alloc (Nat.le_refl _) _)).trans (kept_grown hg) (fun _ _ h => h)
  obtain ⟨h1, h2, h3, h4⟩ := h
  obtain ⟨-, A', c', rfl, -, -, -⟩ := own_formR hown
  have e1 : (Ls ++ [P]).length = Ls.length + 1 := by simp
  have hnew : ∀ q, (Value.slice A' (Ls.length + 1) c').ownBlock = some q → (Value.slice A Ls.length c).ownBlock = some q ∨ W.heap.size ≤ q := fun q hq => by
    rcases hloc with e | e
    · exact .inl (by rw [← e]; exact hq)
    · right
      rw [e] at hq
      injection hq with hq
      omega
  refine ⟨A', c', rfl, ?_, hk⟩
  unfold Gath
  rw [e1]
  refine ⟨hown, by simp [h2], fun q hq e => ?_, fun i v b hv hb => ?_⟩
  · rcases hnew q hq with h | h
    · exact h3 q h e
    · have := hlt q e; omega
  · by_cases hi : i < Ls.length
    · rw [List.getElem?_append_left (by omega)] at hv hb
      obtain ⟨g1, g2⟩ := h4 i v b hv hb
      refine ⟨ownB_kept g1 hk fun q hq e => (g2 q hq).2 e, fun q hq => ⟨(g2 q hq).1, fun e => ?_⟩⟩
      rcases hnew q e with h | h
      · exact (g2 q hq).2 h
      · have := (World.ownsRow.lt g1 q hq).2; omega
    · have hi2 : i = Ls.length := by
        have := (List.getElem?_eq_some_iff.1 hb).1
        rw [e1] at this
        omega
      subst hi2
      rw [List.getElem?_append_right (by omega), h2, Nat.sub_self] at hv
      rw [List.getElem?_append_right (Nat.le_refl _), Nat.sub_self] at hb
      simp only [List.getElem?_cons_zero, Option.some.injEq] at hv hb
      subst hv
      subst hb
      refine ⟨ownB_kept hP hk fun q hq e => (hPo q hq).2 e, fun q hq => ⟨(hPo q hq).1, fun e => ?_⟩⟩
      rcases hnew q e with h | h
      · exact (hPo q hq).2 h
      · have := (World.ownsRow.lt hP q hq).2; omega
end
/-- What cut makes of a record. -/
def cutLs (l : List UInt8) (long : Bool) : List UInt8 := if long then l.take 200 ++ (List.replicate 300 0 ++ l.take 200) else l.take 200
theorem cutLs_len (l : List UInt8) (long : Bool) : (cutLs l long).length ≤ 700 := by
  have h : (l.take 200).length ≤ 200 := by rw [List.length_take]; omega
  unfold cutLs
  split
  · rw [List.length_append, List.length_append, List.length_replicate]
    omega
  · omega
theorem make300 (u : World) : (Instr.makeSlice 35 (.int .i64 300) (.int .i64 300)).run Try.prog u = .ok (.slice (some ⟨u.heap.size, 0, none⟩) 300 300) (u.alloc (.cells (madeCells #[.int .u8 0] 300) 5)) := makeB 292 (by decide) u
set_option maxRecDepth 20000 in
set_option maxHeartbeats 2000000 in
theorem cut_any (A : Option Addr) (n c B : Nat) (l : List UInt8) (long : Bool) (w : World) (hR : Rd w B A l) (hn : l.length = n) (hm : n ≤ 9223372036854775807) (hB : B ≤ w.heap.size) :
    Calls Try.prog 11 #[.slice A n c, .bool long] w (ClW w (cutLs l long)) := by
  have cC := CutW_any A n c B 200 l w hR hn hm (by decide) hB
  cases long with
  | false =>
    clear hR hn hm hB
    go_enter Try.func11, Try.ntmps11
    go_wp2_with fail
    refine cC.mono ?_
    rintro e w1 ⟨v, rfl, ho, hb⟩
    obtain ⟨-, A1, c1, rfl, -, -, -⟩ := own_form ho
    obtain ⟨P, hP⟩ : ∃ P, l.take 200 = P := ⟨_, rfl⟩
    rw [hP] at ho ⊢
    have HO := Lib.hid (And.intro ho (And.intro hb (show cutLs l false = P from hP)))
    clear cC ho hb hP
    go_wp2_with fail
    go_ret
    exact ⟨_, rfl, by rw [HO.out.2.2]; exact HO.out.1, HO.out.2.1⟩
  | true =>
    clear hR hn hm hB
    go_enter Try.func11, Try.ntmps11
    go_wp2_with fail
    refine cC.mono ?_
    rintro e w1 ⟨v, rfl, ho, hb⟩
    obtain ⟨-, A1, c1, rfl, -, -, hrd⟩ := own_form ho
    obtain ⟨P, hP⟩ : ∃ P, l.take 200 = P := ⟨_, rfl⟩
    have hPl : P.length ≤ 200 := by rw [← hP, List.length_take]; omega
    rw [hP] at hrd ⊢
    have hmk := make300 w1
    have hk2 : Blk (w1.alloc (.cells (madeCells #[.int .u8 0] 300) 5)) w1.heap.size 5 ((List.replicate 300 (0 : UInt8)).map enc8).toArray := by
      have e : madeCells #[(.int .u8 0 : Value)] 300 = ((List.replicate 300 (0 : UInt8)).map enc8).toArray := by
        apply Array.toList_inj.1
        rw [toList_madeCells_one, List.map_replicate]
        exact congrArg (List.replicate 300) (rfl : (Value.int .u8 0) = enc8 0)
      rw [e]
      exact Blk.new w1 _ _
    have hb2 : Below w1.heap.size w1 (w1.alloc (.cells (madeCells #[.int .u8 0] 300) 5)) := (Below.refl _ _).alloc (Nat.le_refl _) _
    obtain ⟨w2, hw2⟩ : ∃ W, w1.alloc (.cells (madeCells #[.int .u8 0] 300) 5) = W := ⟨_, rfl⟩
    rw [hw2] at hmk hk2 hb2
    have hb3 : Below w2.heap.size w2 (w2.alloc (.cells #[.slice A1 P.length c1, .slice (some ⟨w1.heap.size, 0, none⟩) 300 300, .slice A1 P.length c1] 35)) := (Below.refl _ _).alloc (Nat.le_refl _) _
    have hk3 := Blk.new w2 35 #[.slice A1 P.length c1, .slice (some ⟨w1.heap.size, 0, none⟩) 300 300, .slice A1 P.length c1]
    have HO := Lib.hid (And.intro hb (And.intro hb2 (And.intro hb3 (And.intro hk2 (And.intro hk3 (And.intro hrd (And.intro hPl hP)))))))
    clear cC ho hb hrd hk2 hb2 hb3 hk3 hw2 hPl hP
    go_wp2_with fail
    obtain ⟨w3, hw3⟩ : ∃ W, w2.alloc (.cells #[.slice A1 P.length c1, .slice (some ⟨w1.heap.size, 0, none⟩) 300 300, .slice A1 P.length c1] 35) = W := ⟨_, rfl⟩
    rw [hw3] at HO ⊢
    clear hw3
    obtain ⟨hb, hb2, hb3, hk2, hk3, hrd, hPl, hP⟩ := HO.out
    have hb13 := hb2.trans (hb3.mono hb2.size)
    have r1 : Rd w3 w3.heap.size A1 P := (hrd.below hb13).more hb13.size
    have r2 : Rd w3 w3.heap.size (some ⟨w1.heap.size, 0, none⟩) (List.replicate 300 (0 : UInt8)) := ((blk_rd hk2).below hb3).more hb3.size
    have cJ := Join_own w2.heap.size 0 3 w3.heap.size [⟨A1, c1, P⟩, ⟨some ⟨w1.heap.size, 0, none⟩, 300, List.replicate 300 0⟩, ⟨A1, c1, P⟩] 3 w3 (fun j g hj => by
      match j, hj with
      | 0, hj => injection hj with hj; subst hj; exact ⟨hk3.cell 0, r1⟩
      | 1, hj => injection hj with hj; subst hj; exact ⟨by rw [hk3.cell]; simp, r2⟩
      | 2, hj => injection hj with hj; subst hj; exact ⟨hk3.cell 2, r1⟩
      | n + 3, hj => simp at hj) hk3.lt (Nat.le_refl _) rfl (by decide) (by unfold glue; simp [glue]; omega)
    have hgl : glue [⟨A1, c1, P⟩, ⟨some ⟨w1.heap.size, 0, none⟩, 300, List.replicate 300 0⟩, ⟨A1, c1, P⟩] = cutLs l true := by
      unfold cutLs
      rw [if_pos rfl, hP]
      simp [glue]
    rw [hgl] at cJ
    have HF := Lib.hid (hb.trans (hb13.mono hb.size))
    clear hb hb2 hb3 hk2 hk3 hrd hPl hP hb13 r1 r2 hgl HO hmk
    refine cJ.mono ?_
    rintro e w4 ⟨v, rfl, ho, hb4⟩
    obtain ⟨-, A4, c4, rfl, -, -, -⟩ := own_form ho
    have HO := Lib.hid (And.intro (ho.low HF.out.size) (HF.out.trans (hb4.mono HF.out.size)))
    clear cJ ho hb4
    go_wp2_with fail
    go_ret
    exact ⟨_, rfl, HO.out.1, HO.out.2⟩
end Go.Proofs.Ytbaenpgjggojaaa
