/-
The references' Join. Conditions: the bytes are there, and not more than memory bears.
-/
import Derived.Test.YtbaenpgjggojaaaSameRZ9
namespace Go.Proofs.Ytbaenpgjggojaaa
open Go.RowKit

/-- A slice's parts: its address, its capacity, its bytes. -/
structure Seg where
  at_ : Option Addr
  cap : Nat
  l : List UInt8
def Seg.val (g : Seg) : Value := .slice g.at_ g.l.length g.cap
def glue : List Seg → List UInt8
  | [] => []
  | g :: gs => g.l ++ glue gs
theorem glue_snoc (gs : List Seg) (g : Seg) : glue (gs ++ [g]) = glue gs ++ g.l := by
  induction gs with
  | nil => simp [glue]
  | cons x gs ih => simp [glue, ih]
theorem glue_take (gs : List Seg) (k : Nat) (hk : k < gs.length) : glue (gs.take (k + 1)) = glue (gs.take k) ++ (gs[k]).l := by
  rw [List.take_succ_eq_append_getElem hk, glue_snoc]
theorem glue_take_le (gs : List Seg) (k : Nat) : (glue (gs.take k)).length ≤ (glue gs).length := by
  induction gs generalizing k with
  | nil => simp [glue]
  | cons g gs ih =>
    cases k with
    | zero => simp [glue]
    | succ k =>
      have := ih k
      simp only [List.take_succ_cons, glue, List.length_append]
      omega
/-- The cells of a slice of slices of bytes. -/
def Segs (w : World) (B b o : Nat) (gs : List Seg) : Prop := ∀ (j : Nat) g, gs[j]? = some g → w.cell? ⟨b, o + j, none⟩ = some (.slice g.at_ g.l.length g.cap) ∧ Rd w B g.at_ g.l

def OwnPost (B : Nat) (w : World) (l : List UInt8) (e : Ending) (w' : World) : Prop := ∃ v, e = .returned v ∧ OwnB w' B v l.length l ∧ Below B w w'
theorem OwnPost.cut {B : Nat} {w w' : World} {l : List UInt8} {e : Ending} (h : OwnPost B w l e w') : CutPost B w l e w' := by
  obtain ⟨v, rfl, ho, hb⟩ := h
  obtain ⟨hl, A', c', hv, hc1, hc2, hrd⟩ := own_form ho
  exact ⟨A', c', by rw [← hv], hc1, hc2, hrd, hb⟩

set_option maxHeartbeats 1000000 in
theorem Join_own (b o c B : Nat) (gs : List Seg) (n : Nat) (w : World) (hS : Segs w B b o gs) (hbB : b < B) (hB : B ≤ w.heap.size) (hn : gs.length = n) (hnm : n ≤ 140737488355328) (hm : (glue gs).length ≤ 140737488355328) :
    Calls Try.prog 37 #[.slice (some ⟨b, o, none⟩) n c] w (OwnPost w.heap.size w (glue gs)) := by
  subst hn
  go_enter Try.func37, Try.ntmps37
  go_wp2
  go_loopw [3, 8] (fun v i wr => ∃ k : Nat, k ≤ gs.length ∧ i = .int .i64 k ∧ OwnB wr w.heap.size v (glue (gs.take k)).length (glue (gs.take k)) ∧ Below w.heap.size w wr) (fun _ i _ => gs.length - (intOf i).toNat)
  case atStart => exact ⟨0, Nat.zero_le _, rfl, OwnB.nil_ _ _, Below.refl _ _⟩
  case round =>
    obtain ⟨k, hk, rfl, hown, hbl⟩ := hrel
    have hsz := hbl.size
    by_cases hlt : k < gs.length
    · obtain ⟨hc0, hr0⟩ := hS k _ (List.getElem?_eq_getElem hlt)
      have hc := (hbl.cell (p := ⟨b, o + k, none⟩) (by exact Nat.lt_of_lt_of_le hbB hB)).trans hc0
      have hr := Lib.hid ((hr0.more hB).below hbl)
      have HT := Lib.hid (glue_take gs k hlt)
      have hle := glue_take_le gs (k + 1)
      rw [HT.out, List.length_append] at hle
      have HO := Lib.hid hown
      clear hown hr0 hc0
      generalize glue (gs.take k) = sofar at HT HO hle
      generalize gs[k] = g at hc hr HT hle
      go_wp2_with (with_reducible refine wpList_append_bytes (o := ⟨some 14, _, _, _, _, _⟩) rfl (.tmp 12) (.tmp 13) rfl w.heap.size _ sofar.length sofar ?h1 HO.out w.heap.size g.at_ g.l.length g.cap g.l ?h2 hr.out rfl ?h3 hsz ?_)
      case h1 => rfl
      case h2 => rfl
      case h3 => omega
      intro v' w1 hown' hg
      have hbl' := hg.below HO.out hbl (Nat.le_refl _) hsz
      have HO' := Lib.hid hown'
      clear hown' hg
      go_wp2
      go_roundw
      case rel => exact ⟨k + 1, by omega, by go_num, by rw [HT.out, List.length_append]; exact HO'.out, hbl'⟩
      case measure => simp [intOf]; omega
    · obtain rfl : k = gs.length := by omega
      rw [List.take_of_length_le (Nat.le_refl _)] at hown
      have HO := Lib.hid hown
      clear hown
      go_wp2
      go_ret
      exact ⟨_, rfl, HO.out, hbl⟩
theorem Join_any (b o c B : Nat) (gs : List Seg) (n : Nat) (w : World) (hS : Segs w B b o gs) (hbB : b < B) (hB : B ≤ w.heap.size) (hn : gs.length = n) (hnm : n ≤ 140737488355328) (hm : (glue gs).length ≤ 140737488355328) :
    Calls Try.prog 37 #[.slice (some ⟨b, o, none⟩) n c] w (CutPost w.heap.size w (glue gs)) := (Join_own b o c B gs n w hS hbB hB hn hnm hm).mono fun _ _ h => h.cut

theorem seg_rd {w : World} {B : Nat} {A : Option Addr} {l : List UInt8} (h : Rd w B A l) (hB : B ≤ w.heap.size) (o : Obj) : Rd (w.alloc o) (w.heap.size + 1) A l := (h.alloc hB o).more (by omega)
/-- Join of two. -/
theorem Join_two (A1 A2 : Option Addr) (n1 n2 c1 c2 B1 B2 : Nat) (l1 l2 : List UInt8) (w : World) (h1 : Rd w B1 A1 l1) (hB1 : B1 ≤ w.heap.size) (h2 : Rd w B2 A2 l2) (hB2 : B2 ≤ w.heap.size) (hn1 : l1.length = n1) (hn2 : l2.length = n2) (hm : n1 + n2 ≤ 140737488355328) :
    Calls Try.prog 37 #[.slice (some ⟨w.heap.size, 0, none⟩) 2 2] (w.alloc (.cells #[.slice A1 n1 c1, .slice A2 n2 c2] 35)) (CutPost w.heap.size w (l1 ++ l2)) := by
  subst hn1 hn2
  have h := Join_any w.heap.size 0 2 (w.heap.size + 1) [⟨A1, c1, l1⟩, ⟨A2, c2, l2⟩] 2 (w.alloc (.cells #[.slice A1 l1.length c1, .slice A2 l2.length c2] 35)) (fun j g hg => by
      rcases j with _ | _ | j
      · simp only [List.getElem?_cons_zero, Option.some.injEq] at hg
        subst hg
        exact ⟨by simp [go_sem], seg_rd h1 hB1 _⟩
      · simp only [List.getElem?_cons_succ, List.getElem?_cons_zero, Option.some.injEq] at hg
        subst hg
        exact ⟨by simp [go_sem], seg_rd h2 hB2 _⟩
      · simp at hg) (by omega) (by simp) rfl (by decide) (by simp [glue]; omega)
  refine h.mono fun e w' hp => ?_
  obtain ⟨A, c, he, hc1, hc2, hr, hb⟩ := hp
  have e1 : glue [⟨A1, c1, l1⟩, ⟨A2, c2, l2⟩] = l1 ++ l2 := by simp [glue]
  rw [e1] at he hc1 hr
  exact ⟨A, c, he, hc1, hc2, hr, ((Below.refl _ w).alloc (Nat.le_refl _) _).trans (hb.mono (by simp))⟩
/-- Join of one. -/
theorem Join_one_own (A1 : Option Addr) (n1 c1 B1 : Nat) (l1 : List UInt8) (w : World) (h1 : Rd w B1 A1 l1) (hB1 : B1 ≤ w.heap.size) (hn1 : l1.length = n1) (hm : n1 ≤ 140737488355328) :
    Calls Try.prog 37 #[.slice (some ⟨w.heap.size, 0, none⟩) 1 1] (w.alloc (.cells #[.slice A1 n1 c1] 35)) (OwnPost w.heap.size w l1) := by
  subst hn1
  have h := Join_own w.heap.size 0 1 (w.heap.size + 1) [⟨A1, c1, l1⟩] 1 (w.alloc (.cells #[.slice A1 l1.length c1] 35)) (fun j g hg => by
      rcases j with _ | j
      · simp only [List.getElem?_cons_zero, Option.some.injEq] at hg
        subst hg
        exact ⟨by simp [go_sem], seg_rd h1 hB1 _⟩
      · simp at hg) (by omega) (by simp) rfl (by decide) (by simp [glue]; omega)
  refine h.mono fun e w' hp => ?_
  obtain ⟨v, he, ho, hb⟩ := hp
  have e1 : glue [⟨A1, c1, l1⟩] = l1 := by simp [glue]
  rw [e1] at ho
  refine ⟨v, he, ⟨ho.1, ?_⟩, ((Below.refl _ w).alloc (Nat.le_refl _) _).trans (hb.mono (by simp))⟩
  rcases ho.2 with h | ⟨g, cap, cur, ha, hg, hr⟩
  · exact .inl h
  · refine .inr ⟨g, cap, cur, ha, ?_, hr⟩
    have : (w.alloc (.cells #[.slice A1 l1.length c1] 35)).heap.size = w.heap.size + 1 := by simp
    omega
theorem Join_one (A1 : Option Addr) (n1 c1 B1 : Nat) (l1 : List UInt8) (w : World) (h1 : Rd w B1 A1 l1) (hB1 : B1 ≤ w.heap.size) (hn1 : l1.length = n1) (hm : n1 ≤ 140737488355328) :
    Calls Try.prog 37 #[.slice (some ⟨w.heap.size, 0, none⟩) 1 1] (w.alloc (.cells #[.slice A1 n1 c1] 35)) (CutPost w.heap.size w l1) := (Join_one_own A1 n1 c1 B1 l1 w h1 hB1 hn1 hm).mono fun _ _ h => h.cut
end Go.Proofs.Ytbaenpgjggojaaa
