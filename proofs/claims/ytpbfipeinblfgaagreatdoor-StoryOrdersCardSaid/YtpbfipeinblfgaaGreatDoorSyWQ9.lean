/-
The law's few; Right of any days. Conditions: the days are there.
Holy's Right of any days. Conditions: the days are there.
The first open day from one on, as the program tells it. Conditions: the days are there.
When something is due: so many months on from a day, month's end to month's end. Plain mathematics, no condition.
due.Plain. Condition: the months' lengths are laid.
DueLasts: the walk. Conditions: the months' lengths and strconv's powers of ten are laid.
DueOpens: the walk. Conditions: the days are there; the months' lengths, powers of ten, the error's type are laid.
Plain, as the document has it; Rolled. Conditions: the days are there, the months' lengths are laid.
DueRolls: the walk. Conditions: as DueOpens'.
terms.Dues of terms that are Right, at holidays that are Right, where each month has its day: month by month that day, and all that is due by it. Condition: the months' lengths are laid.
terms: each month of terms that are Right has its day; Dues whole. Condition: the months' lengths are laid.
arrearslaw16.few: the first days, rising from one on. No condition.
TermsRise's plain mathematics: what is due rises, and the days don't fall. No condition.
Of no events nothing is sorted; a story is made. Conditions: the months' lengths are laid; terms that are Right.
-/
import Derived.Test.YtpbfipeinblfgaaGreatDoorNxtBQ9
import Derived.Test.YtpbfipeinblfgaaGreatDoorDateAQ9
import Derived.LoopTactic
import Derived.Test.YtpbfipeinblfgaaGreatDoorSpanMQ9
import Derived.Test.YtpbfipeinblfgaaGreatDoorDateHQ9
import Derived.Test.YtpbfipeinblfgaaGreatDoorTextBQ9
import Derived.Lib.QuietBelow
import Derived.BigQuiet
import Derived.Test.YtpbfipeinblfgaaGreatDoorTrmBQ9
import Derived.Test.YtpbfipeinblfgaaGreatDoorLvlDQ9
import Derived.Test.YtpbfipeinblfgaaGreatDoorSyVQ9
namespace Go.Proofs.YtpbfipeinblfgaaGreatDoor
open Go.ChangeShapes Go.WideShapes Go.ChangeAt Go.RowKit

theorem apartHN {w : World} {b1 b2 n1 n2 : Nat} {v1 v2 : Value} {l1 l2 : List Int} (h1 : OwnH w b1 v1 n1 l1) (h2 : OwnN w b2 v2 n2 l2) : v2.ownBlock = Option.none ∨ v2.ownBlock ≠ v1.ownBlock := by
  unfold OwnH at h1
  unfold OwnN at h2
  rcases h1.2 with ⟨rfl, _⟩ | ⟨g1, c1, cur1, rfl, _, e1, _⟩
  · rcases h2.2 with ⟨rfl, _⟩ | ⟨g2, c2, cur2, rfl, _, e2, _⟩
    · exact .inl rfl
    · exact .inr (by simp [Value.ownBlock])
  · rcases h2.2 with ⟨rfl, _⟩ | ⟨g2, c2, cur2, rfl, _, e2, _⟩
    · exact .inl rfl
    · refine .inr fun e => ?_
      simp only [Value.ownBlock, Option.some.injEq] at e
      subst e
      rw [e1] at e2
      simp at e2

theorem apartNH {w : World} {b1 b2 n1 n2 : Nat} {v1 v2 : Value} {l1 l2 : List Int} (h1 : OwnH w b1 v1 n1 l1) (h2 : OwnN w b2 v2 n2 l2) : v1.ownBlock = Option.none ∨ v1.ownBlock ≠ v2.ownBlock := by
  rcases apartHN h1 h2 with h | h
  · rw [h]
    cases v1.ownBlock with
    | none => exact .inl rfl
    | some g => exact .inr (by simp)
  · exact .inr (Ne.symm h)

theorem OwnH.alloc {w : World} {b n : Nat} {v : Value} {l : List Int} (h : OwnH w b v n l) (o : Obj) : OwnH (w.alloc o) b v n l := World.ownsRow.alloc h o
theorem OwnN.alloc {w : World} {b n : Nat} {v : Value} {l : List Int} (h : OwnN w b v n l) (o : Obj) : OwnN (w.alloc o) b v n l := World.ownsRow.alloc h o
theorem OwnN.past {w w' : World} {b1 b2 n1 n2 : Nat} {v1 v2 : Value} {l1 l2 : List Int} (h2 : OwnN w b2 v2 n2 l2) (h1 : OwnH w b1 v1 n1 l1) (hg : w.grownBy w' v1.ownBlock) : OwnN w' b2 v2 n2 l2 := World.ownsRow.kept h2 hg (apartHN h1 h2)
theorem OwnH.past {w w' : World} {b1 b2 n1 n2 : Nat} {v1 v2 : Value} {l1 l2 : List Int} (h1 : OwnH w b1 v1 n1 l1) (h2 : OwnN w b2 v2 n2 l2) (hg : w.grownBy w' v2.ownBlock) : OwnH w' b1 v1 n1 l1 := World.ownsRow.kept h1 hg (apartNH h1 h2)

def FewPost (w : World) (l : List Int) (e : Ending) (w' : World) : Prop :=
  ∃ (A1 A2 : Option Addr) (c1 c2 : Nat), e = .returned (.tuple #[.slice A1 l.length c1, .slice A2 l.length c2]) ∧ l.length ≤ c1 ∧ l.length ≤ c2 ∧ c1 ≤ maxLen ∧ c2 ≤ maxLen ∧ Rv w' w'.heap.size A1 (l.map encH) ∧ Rv w' w'.heap.size A2 (l.map encN) ∧ Below w.heap.size w w'

theorem rv_oneH (w : World) (u : Int) : Rv (w.alloc (.cells #[.int .i32 u] 26)) (w.heap.size + 1) (some ⟨w.heap.size, 0, none⟩) ([u].map encH) := fun _ =>
  ⟨w.heap.size, 0, rfl, by omega, fun j x hx => by
    rcases j with _ | j
    · simp only [List.map_cons, List.map_nil, List.getElem?_cons_zero, Option.some.injEq] at hx
      subst hx
      simp [go_sem, encH]
    · simp at hx⟩
theorem rv_oneN (w : World) (u : Int) : Rv (w.alloc (.cells #[.int .i64 u] 3)) (w.heap.size + 1) (some ⟨w.heap.size, 0, none⟩) ([u].map encN) := fun _ =>
  ⟨w.heap.size, 0, rfl, by omega, fun j x hx => by
    rcases j with _ | j
    · simp only [List.map_cons, List.map_nil, List.getElem?_cons_zero, Option.some.injEq] at hx
      subst hx
      simp [go_sem, encN]
    · simp at hx⟩

end Go.Proofs.YtpbfipeinblfgaaGreatDoor
namespace Go.Proofs.YtpbfipeinblfgaaGreatDoor
open Go.ChangeShapes Go.WideShapes Go.ChangeAt Go.RowKit

/-- The first k are days that rise. -/
def upB (l : List Int) : Nat → Bool
  | 0 => true
  | k + 1 => upB l k && (dayB (l.getD k 0) && (k == 0 || decide (l.getD (k - 1) 0 < l.getD k 0)))
theorem upB_step {l : List Int} {k : Nat} {d : Int} (hd : l.getD k 0 = d) : upB l (k + 1) = (upB l k && (dayB d && (k == 0 || decide (l.getD (k - 1) 0 < d)))) := by simp only [upB]; rw [hd]
theorem upB_end {l : List Int} {k m : Nat} (hk : k ≤ m) (h : upB l k = false) : upB l m = false := by
  induction m with
  | zero => obtain rfl : k = 0 := by omega
            exact h
  | succ m ih =>
    rcases Nat.lt_or_ge k (m + 1) with h1 | h1
    · simp only [upB]; rw [ih (by omega)]; rfl
    · obtain rfl : k = m + 1 := by omega
      exact h
def rightL (l : List Int) : Bool := decide (l.length ≤ 200) && upB l l.length
theorem getD_at {l : List Int} {k : Nat} (h : k < l.length) : l.getD k 0 = l[k] := by simp [List.getD, h]

set_option maxRecDepth 20000 in
set_option maxHeartbeats 1000000 in
theorem HRight_any (A : Option Addr) (n c B : Nat) (l : List Int) (w : World) (hR : Rv w B A (l.map encH)) (hn : l.length = n) (hm : n ≤ 140737488355328) (hw : ∀ u ∈ l, -2147483648 ≤ u ∧ u ≤ 2147483647) :
    Calls Tryz.prog 47 #[.slice A n c] w fun e w' => e = .returned (.bool (rightL l)) ∧ w = w' := by
  subst hn
  unfold rightL
  by_cases h2 : 200 < l.length
  · rw [decide_eq_false (by omega), Bool.false_and]
    clear hR hw
    go_enter Tryz.func47, Tryz.ntmps47
    go_wp2_with fail
    go_ret
    exact ⟨rfl, rfl⟩
  rw [decide_eq_true (by omega : l.length ≤ 200), Bool.true_and]
  have HR := Lib.hid hR
  have HWf := Lib.hid hw
  clear hR hw
  go_enter Tryz.func47, Tryz.ntmps47
  go_wp2_with fail
  go_loop [10] (fun i => ∃ k : Nat, k ≤ l.length ∧ i = .int .i64 k ∧ Hid (upB l k = true)) (fun i => l.length - (intOf i).toNat)
  case atStart => exact ⟨0, Nat.zero_le _, rfl, Lib.hid rfl⟩
  case round =>
    obtain ⟨k, hk, rfl, HU⟩ := hrel
    by_cases hlt : k < l.length
    · have hRl : k < (l.map encH).length := by rw [List.length_map]; exact hlt
      obtain ⟨b, o, rfl, hb, hc⟩ := HR.out.at_ hRl
      rw [List.getElem_map] at hc
      have hwf := HWf.out l[k] (List.getElem_mem hlt)
      have hgd := getD_at hlt
      obtain ⟨u, hu⟩ : ∃ u, l[k] = u := ⟨_, rfl⟩
      rw [hu] at hc hwf hgd
      simp only [encH] at hc
      obtain ⟨u0, u1⟩ := hwf
      have HS := Lib.hid (upB_step (l := l) (k := k) hgd)
      clear hu hgd
      have hD := fun W => DRight_any u W
      cases hd : dayB u
      · rw [hd] at hD
        have HE := Lib.hid (show upB l l.length = false from upB_end (show k + 1 ≤ l.length from hlt) (by rw [HS.out, hd]; simp))
        clear hd
        go_wp2_with (go_at_call 29; refine (hD _).mono ?_; rintro e w' ⟨rfl, rfl⟩)
        go_ret
        exact ⟨by rw [HE.out]; rfl, rfl⟩
      · rw [hd] at hD HS
        clear hd
        by_cases hk0 : k = 0
        · subst hk0
          rw [Nat.add_zero] at hc
          have HE := Lib.hid (show upB l (0 + 1) = true by rw [HS.out, HU.out]; rfl)
          go_wp2_with (go_at_call 29; refine (hD _).mono ?_; rintro e w' ⟨rfl, rfl⟩)
          go_round
          case rel => exact ⟨1, by omega, by go_num, Lib.hid HE.out⟩
          case measure => simp [intOf]; omega
        · have hk1 : k - 1 < l.length := by omega
          have hRl1 : k - 1 < (l.map encH).length := by rw [List.length_map]; exact hk1
          obtain ⟨b', o', he, hb', hc1⟩ := HR.out.at_ hRl1
          injection he with he
          injection he with e1 e2 e3
          subst e1
          subst e2
          rw [List.getElem_map] at hc1
          have hgd1 := getD_at hk1
          obtain ⟨p, hp⟩ : ∃ p, l[k - 1] = p := ⟨_, rfl⟩
          rw [hp] at hc1 hgd1
          simp only [encH] at hc1
          rw [hgd1] at HS
          have hk2 : (0 : Int) < (k : Int) := by omega
          have hj : ((k : Int) - 1).toNat = k - 1 := by omega
          clear hp hgd1 hRl1 hRl
          by_cases hlp : u ≤ p
          · have HE := Lib.hid (show upB l l.length = false from upB_end (show k + 1 ≤ l.length from hlt) (by rw [HS.out, HU.out, decide_eq_false (by omega : ¬ p < u)]; simp [hk0]))
            go_wp2_with (go_at_call 29; refine (hD _).mono ?_; rintro e w' ⟨rfl, rfl⟩)
            go_ret
            exact ⟨by rw [HE.out]; rfl, rfl⟩
          · have HE := Lib.hid (show upB l (k + 1) = true by rw [HS.out, HU.out, decide_eq_true (by omega : p < u)]; simp)
            go_wp2_with (go_at_call 29; refine (hD _).mono ?_; rintro e w' ⟨rfl, rfl⟩)
            go_round
            case rel => exact ⟨k + 1, by omega, by go_num, HE⟩
            case measure => simp [intOf]; omega
    · obtain rfl : k = l.length := by omega
      go_wp2_with fail
      go_ret
      exact ⟨by rw [HU.out]; rfl, rfl⟩
end Go.Proofs.YtpbfipeinblfgaaGreatDoor
namespace Go.Proofs.YtpbfipeinblfgaaGreatDoor
open Go.RowKit

theorem Ris.tail {x : Int} {t : List Int} (h : Ris (x :: t)) : Ris t := fun i hi => by
  have := h (i + 1) (by simpa using hi)
  simpa using this
theorem Ris.head : ∀ (t : List Int) (x : Int), Ris (x :: t) → ∀ y ∈ x :: t, x ≤ y
  | [], x, _, y, hy => by
    have : y = x := by simpa using hy
    omega
  | z :: t, x, h, y, hy => by
    have h0 : x ≤ z := by simpa using h 0 (by simp)
    rcases List.mem_cons.1 hy with rfl | hy
    · omega
    · have := Ris.head t z h.tail y hy
      omega
theorem rv_cutH {w : World} {B : Nat} {A : Option Addr} {x : Int} {t : List Int} {c : Nat} (h : Rv w B A ((x :: t).map encH)) (hc : (x :: t).length ≤ c) : Rv w B (if c = 1 then A else A.map (·.add 1)) (t.map encH) := fun hn => by
  obtain ⟨b, o, rfl, hb, hcell⟩ := h (by simp)
  have ht : 0 < t.length := by simpa using hn
  rw [if_neg (by simp at hc; omega)]
  refine ⟨b, o + 1, by simp [go_sem], hb, fun j u hu => ?_⟩
  rw [Nat.add_assoc, Nat.add_comm 1 j]
  exact hcell (j + 1) u (by simpa using hu)
def lenV : Value → Nat | .slice _ n _ => n | _ => 0
/-- What is left of the days, at a day. -/
def Left9 (l : List Int) (k : Int) (w1 : World) (y : Value) : Prop := ∃ A c, ∃ t : List Int, y = .slice A t.length c ∧ t.length ≤ c ∧ t.length ≤ 1000 ∧ Ris t ∧ (∀ v, k ≤ v → (v ∈ t ↔ v ∈ l)) ∧ Rv w1 w1.heap.size A (t.map encH) ∧ ∀ v ∈ t, -2147483648 ≤ v ∧ v ≤ 2147483647
def NxRel (l : List Int) (d : Int) (w1 : World) (x y _ : Value) (w' : World) : Prop := ∃ k : Int, x = .int .i32 k ∧ d ≤ k ∧ k ≤ 3652059 ∧ nextD l k = nextD l d ∧ Left9 l k w1 y ∧ w' = w1
def NxPost (l : List Int) (d : Int) (w : World) (e : Ending) (w' : World) : Prop := (∀ y, nextD l d = some y → e = .returned (.tuple #[.int .i32 y, .nilIface])) ∧ (nextD l d = none → e = .returned (.tuple #[.int .i32 0, .iface 110 (.int .i64 12)])) ∧ Below w.heap.size w w'
theorem open_of {l : List Int} {k : Int} {p q : Bool} (hk : dayB k = true) (hp : (dayB k && decide (k % 7 < 5)) = p) (hq : l.contains k = q) : openL l k = (p && !q) := by
  unfold openL
  rw [hk, Bool.true_and] at hp
  rw [hp, hq]
set_option maxRecDepth 20000 in
set_option maxHeartbeats 4000000 in
theorem Next9 (A : Option Addr) (n c : Nat) (l : List Int) (d : Int) (w : World) (hR : Rv w w.heap.size A (l.map encH)) (hn : l.length = n) (hnc : n ≤ c) (hm : n ≤ 1000) (hl : ∀ v ∈ l, -2147483648 ≤ v ∧ v ≤ 2147483647) (hd : 0 ≤ d ∧ d ≤ 3652058) :
    Calls Tryz.prog 95 #[.slice A n c, .int .i32 d] w (NxPost l d w) := by
  have hC := Rising9 A n c l w hR hn hnc hm
  have hD := DRight_any d w
  rw [day_yes hd.1 hd.2] at hD
  have HL := Lib.hid hl
  have HD := Lib.hid hd
  clear hR hn hl hd
  go_enter Tryz.func95, Tryz.ntmps95
  go_wp2_with fail
  refine hD.mono ?_
  rintro e w' ⟨rfl, rfl⟩
  go_wp2_with fail
  refine hC.mono ?_
  rintro e w1 ⟨A2, c2, s, rfl, hc2, hs, hmem, hris, hR2, hb⟩
  have HB := Lib.hid hb
  have HLF : Hid (Left9 l d w1 (.slice A2 n c2)) := Lib.hid ⟨A2, c2, s, by rw [hs], by rw [hs]; exact hc2, by rw [hs]; exact hm, hris, fun v _ => hmem v, hR2, fun v hv => HL.out v ((hmem v).1 hv)⟩
  clear hC hD hb hR2 hris hmem hs hc2 s
  go_wp2_with fail
  go_loopw [1, 6, 7] (NxRel l d w1) (fun x _ _ _ => (3652060 - intOf x).toNat)
  case atStart => exact ⟨d, rfl, by omega, by have := HD.out; omega, rfl, HLF.out, rfl⟩
  case round =>
    clear HLF
    obtain ⟨k, rfl, hk1, hk2, hN, hLF, rfl⟩ := hrel
    have HN := Lib.hid hN
    have HLF := Lib.hid hLF
    have hk0 : 0 ≤ k := by have := HD.out; omega
    clear hN hLF
    by_cases hke : k ≤ 3652058
    · have hD := DRight_any k wr
      rw [day_yes hk0 hke] at hD
      go_wp2_with fail
      refine hD.mono ?_
      rintro e w' ⟨rfl, rfl⟩
      clear hD
      obtain ⟨w5, rfl⟩ : ∃ W, W = wr := ⟨_, rfl⟩
      obtain ⟨A3, c3, t, rfl, h1, h2, h3, h4, h5, h6⟩ := HLF.out
      clear HLF
      have HLF : Hid (Left9 l k w5 (.slice A3 t.length c3)) := Lib.hid ⟨A3, c3, t, rfl, h1, h2, h3, h4, h5, h6⟩
      clear h1 h2 h3 h4 h5 h6
      go_wp2_with fail
      go_loopw [6] (fun y w2 => Left9 l k w5 y ∧ w2 = w5) (fun y _ => lenV y)
      case atStart => exact ⟨HLF.out, rfl⟩
      case round =>
        clear HLF
        obtain ⟨⟨A4, c4, t4, rfl, h1, h2, h3, h4, h5, h6⟩, rfl⟩ := hrel
        have hW := worked9 k wr
        obtain ⟨p, hp⟩ : ∃ p, (dayB k && decide (k % 7 < 5)) = p := ⟨_, rfl⟩
        rw [hp] at hW
        have HP := Lib.hid hp
        have HW := Lib.hid hW
        clear hp hW
        rcases t4 with _ | ⟨v, t4⟩
        · have hq : l.contains k = false := by
            cases hc : l.contains k with
            | false => rfl
            | true => exact absurd ((h4 k (Int.le_refl _)).2 (by simpa using hc)) (by simp)
          have HLF : Hid (Left9 l (k + 1) wr (.slice A4 ([] : List Int).length c4)) := Lib.hid ⟨A4, c4, [], rfl, h1, h2, h3, fun v hv => h4 v (by omega), h5, h6⟩
          have HO := Lib.hid (open_of (day_yes hk0 hke) HP.out hq)
          rw [show (([] : List Int).length) = 0 from rfl] at HLF ⊢
          clear h1 h2 h3 h4 h5 h6 hq
          go_wp2_with fail
          refine HW.out.mono ?_
          rintro e w9 ⟨rfl, rfl⟩
          clear HW
          rw [Bool.not_false, Bool.and_true] at HO
          rcases p with _ | _
          · go_wp2_with fail
            go_roundw
            case rel => exact ⟨k + 1, rfl, by omega, by omega, by rw [← nextD_no hke HO.out]; exact HN.out, HLF.out, rfl⟩
            case measure => simp [intOf]; omega
          · go_wp2_with fail
            go_ret2
            have e := HN.out
            rw [nextD_yes hke HO.out] at e
            refine ⟨fun y h => ?_, fun h => ?_, HB.out⟩
            · have h2 := e.trans h
              injection h2 with h2
              subst h2
              rfl
            · have h2 := e.trans h
              cases h2
        · obtain ⟨b, o, hA, _, c0⟩ := rv_at h5 (k := 0) (by simp)
          subst hA
          rw [Nat.add_zero] at c0
          have c0' : wr.cell? ⟨b, o, none⟩ = some (.int .i32 v) := by simpa using c0
          have hv := h6 v (List.mem_cons_self ..)
          rw [show ((v :: t4).length) = t4.length + 1 from rfl] at *
          have hcut := rv_cutH h5 (by simpa using h1)
          by_cases hvk : v < k
          · have HLF : Hid (Left9 l k wr (.slice (if c4 = 1 then some ⟨b, o, none⟩ else (some ⟨b, o, none⟩ : Option Addr).map (·.add 1)) t4.length (c4 - 1))) := Lib.hid ⟨_, c4 - 1, t4, rfl, by omega, by omega, h3.tail, fun u hu => by
              rw [← h4 u hu]
              constructor
              · exact List.mem_cons_of_mem _
              · intro h
                rcases List.mem_cons.1 h with rfl | h
                · omega
                · exact h, hcut, fun u hu => h6 u (List.mem_cons_of_mem _ hu)⟩
            clear h3 h4 h5 h6 hcut c0
            go_wp2_with fail
            go_roundw
            case rel => first | exact ⟨HLF.out, rfl⟩ | exact ⟨HLF.out, trivial⟩
            case measure => simp [lenV]
          · have hq : l.contains k = decide (v = k) := by
              by_cases e : v = k
              · rw [decide_eq_true e]
                have : k ∈ l := (h4 k (Int.le_refl _)).1 (by rw [e]; exact List.mem_cons_self ..)
                simpa using this
              · rw [decide_eq_false e]
                cases hc : l.contains k with
                | false => rfl
                | true =>
                  have hm := (h4 k (Int.le_refl _)).2 (by simpa using hc)
                  have := Ris.head t4 v h3 k hm
                  omega
            have HLF : Hid (Left9 l (k + 1) wr (.slice (some ⟨b, o, none⟩) (t4.length + 1) c4)) := Lib.hid ⟨some ⟨b, o, none⟩, c4, v :: t4, rfl, h1, h2, h3, fun u hu => h4 u (by omega), h5, h6⟩
            clear h3 h4 h5 h6 hcut c0
            by_cases hvk2 : v = k
            · have HO := Lib.hid (open_of (day_yes hk0 hke) HP.out (hq.trans (decide_eq_true hvk2)))
              clear hq
              subst hvk2
              go_wp2_with fail
              refine HW.out.mono ?_
              rintro e w9 ⟨rfl, rfl⟩
              clear HW
              rw [Bool.not_true, Bool.and_false] at HO
              rcases p with _ | _
              · go_wp2_with fail
                go_roundw
                case rel => exact ⟨v + 1, rfl, by omega, by omega, by rw [← nextD_no hke HO.out]; exact HN.out, HLF.out, rfl⟩
                case measure => simp [intOf]; omega
              · go_wp2_with fail
                go_roundw
                case rel => exact ⟨v + 1, rfl, by omega, by omega, by rw [← nextD_no hke HO.out]; exact HN.out, HLF.out, rfl⟩
                case measure => simp [intOf]; omega
            · have HO := Lib.hid (open_of (day_yes hk0 hke) HP.out (hq.trans (decide_eq_false hvk2)))
              have hbk : (v == k) = false := by simpa using hvk2
              clear hq
              go_wp2_with fail
              refine HW.out.mono ?_
              rintro e w9 ⟨rfl, rfl⟩
              clear HW
              rw [Bool.not_false, Bool.and_true] at HO
              rcases p with _ | _
              · go_wp2_with fail
                go_roundw
                case rel => exact ⟨k + 1, rfl, by omega, by omega, by rw [← nextD_no hke HO.out]; exact HN.out, HLF.out, rfl⟩
                case measure => simp [intOf]; omega
              · go_wp2_with fail
                go_ret2
                have e := HN.out
                rw [nextD_yes hke HO.out] at e
                refine ⟨fun y h => ?_, fun h => ?_, HB.out⟩
                · have h2 := e.trans h
                  injection h2 with h2
                  subst h2
                  rfl
                · have h2 := e.trans h
                  cases h2
    · have hD := DRight_any k wr
      rw [day_no (by omega)] at hD
      go_wp2_with fail
      refine hD.mono ?_
      rintro e w' ⟨rfl, rfl⟩
      clear hD
      go_wp2_with fail
      go_ret2
      have e := HN.out
      rw [nextD_end (by omega)] at e
      refine ⟨fun y h => ?_, fun h => ?_, HB.out⟩
      · have h2 := e.trans h
        cases h2
      · rfl
end Go.Proofs.YtpbfipeinblfgaaGreatDoor
namespace Go.Proofs.YtpbfipeinblfgaaGreatDoor

/-- The month that lies k on from a day's own. -/
def pT (n k : Int) : Int := mon (cY n) (cM n) k
/-- The day in it: of a last one the last one, else the same one, or the last one. -/
def pD (n k : Int) : Int := if cD n = mlen (cY n) (cM n) then mlen (mY (pT n k)) (mM (pT n k)) else mD (pT n k) (cD n)
def plainD (n k : Int) : Int := num (mY (pT n k)) (mM (pT n k)) (pD n k)
theorem pT_lo {n k : Int} (h0 : 0 ≤ n) (h1 : n ≤ 3652058) (hk : 0 ≤ k) : 0 ≤ pT n k := by
  have := civ_in n h0 h1
  unfold pT mon
  omega
theorem pT_hi {n k : Int} (h0 : 0 ≤ n) (h1 : n ≤ 3652058) (hk : k ≤ 480) : pT n k ≤ 121000 := by
  have := civ_in n h0 h1
  unfold pT mon
  omega
theorem pT_add (n k j : Int) : pT n (k + j) = pT n k + j := by unfold pT mon; omega
theorem mlen_mon {t : Int} (h0 : 0 ≤ t) (h1 : t < 119988) : 28 ≤ mlen (mY t) (mM t) ∧ mlen (mY t) (mM t) ≤ 31 := by
  obtain ⟨a, b, c, d⟩ := mon_in h0 h1
  exact ⟨mlen_lo _ _ a b c d, (mlen_bd _ _).2⟩
theorem pD_right {n k : Int} (h0 : 0 ≤ n) (h1 : n ≤ 3652058) (hk : 0 ≤ k) (ht : pT n k < 119988) : rightB (mY (pT n k)) (mM (pT n k)) (pD n k) = true := by
  obtain ⟨_, _, _, _, d1, d2, _⟩ := civ_in n h0 h1
  have hl := mlen_mon (pT_lo h0 h1 hk) ht
  unfold pD
  split
  · exact (right_iff _ _ _).2 ⟨by omega, Int.le_refl _⟩
  · exact mon_right (pT_lo h0 h1 hk) ht d1
theorem plain_in {n k : Int} (h0 : 0 ≤ n) (h1 : n ≤ 3652058) (hk : 0 ≤ k) (ht : pT n k < 119988) : 0 ≤ plainD n k ∧ plainD n k ≤ 3652058 ∧ cY (plainD n k) = mY (pT n k) ∧ cM (plainD n k) = mM (pT n k) ∧ cD (plainD n k) = pD n k :=
  day_of (pD_right h0 h1 hk ht)
theorem plain_rise {n k j : Int} (h0 : 0 ≤ n) (h1 : n ≤ 3652058) (hk : 0 ≤ k) (hj : k < j) (ht : pT n j < 119988) : plainD n k < plainD n j := by
  have hlt : pT n k < pT n j := by unfold pT mon; omega
  refine num_lt (pD_right h0 h1 hk (by omega)) (pD_right h0 h1 (by omega) ht) ?_
  unfold mY mM
  omega
/-- Where a loan's days lie in their months. -/
theorem plain_last {n k : Int} (h : cD n = mlen (cY n) (cM n)) : pD n k = mlen (mY (pT n k)) (mM (pT n k)) := by unfold pD; rw [if_pos h]
theorem plain_mid {n k : Int} (h : ¬ cD n = mlen (cY n) (cM n)) : pD n k = min (cD n) (mlen (mY (pT n k)) (mM (pT n k))) := by unfold pD; rw [if_neg h]; rfl
end Go.Proofs.YtpbfipeinblfgaaGreatDoor
namespace Go.Proofs.YtpbfipeinblfgaaGreatDoor
open Go.RowKit

set_option maxRecDepth 20000 in
set_option maxHeartbeats 1000000 in
theorem Plain_arg (n k : Int) (h : n < 0 ∨ 3652058 < n ∨ k < 0 ∨ 480 < k) (w : World) :
    Calls Tryz.prog 94 #[.int .i32 n, .int .i64 k] w fun e w' => e = .returned (.tuple #[.int .i32 0, .iface 110 (.int .i64 1)]) ∧ Below w.heap.size w w' := by
  by_cases k0 : k < 0
  · clear h
    go_enter Tryz.func94, Tryz.ntmps94
    go_wp2_with fail
    go_ret2
    exact ⟨rfl, Below.refl _ _⟩
  by_cases k1 : 480 < k
  · clear h
    go_enter Tryz.func94, Tryz.ntmps94
    go_wp2_with fail
    go_ret2
    exact ⟨rfl, Below.refl _ _⟩
  have hn : n < 0 ∨ 3652058 < n := by omega
  have hN := fun W => DCivil_no n hn W
  clear h hn
  go_enter Tryz.func94, Tryz.ntmps94
  go_wp2_with fail
  refine (hN _).mono ?_
  rintro e w1 ⟨rfl, hb1⟩
  clear hN
  go_wp2_with fail
  go_ret2
  exact ⟨rfl, hb1.alloc hb1.size _⟩

set_option maxRecDepth 20000 in
set_option maxHeartbeats 1000000 in
theorem Plain_over (n k : Int) (h0 : 0 ≤ n) (h1 : n ≤ 3652058) (k0 : 0 ≤ k) (k1 : k ≤ 480) (ht : 119988 ≤ pT n k) (w : World) (hw : Lens w) :
    Calls Tryz.prog 94 #[.int .i32 n, .int .i64 k] w fun e w' => e = .returned (.tuple #[.int .i32 0, .iface 110 (.int .i64 12)]) ∧ Below w.heap.size w w' := by
  have hA := fun W (hW : Lens W) => DCivil_any n W h0 h1 hW
  have hB := fun W (hW : Lens W) => Months_over (cY n) (cM n) (cD n) k (civ_right n h0 h1).1 (.inr ht) W hW
  have n0 : ¬ k < 0 := by omega
  have n1 : ¬ 480 < k := by omega
  generalize cY n = Y at hA hB
  generalize cM n = M at hA hB
  generalize cD n = D at hA hB
  have HW := Lib.hid hw
  clear hw ht
  go_enter Tryz.func94, Tryz.ntmps94
  go_wp2_with fail
  refine (hA _ HW.out).mono ?_
  rintro e w1 ⟨rfl, hb1⟩
  have HB1 := Lib.hid (hb1.alloc hb1.size (.cells #[.int .i64 Y, .int .i64 M, .int .i64 D] 153))
  clear hb1 hA
  go_wp2_with fail
  refine (hB _ (HW.out.below HB1.out)).mono ?_
  rintro e w2 ⟨rfl, hb2⟩
  have HB2 := Lib.hid (HB1.out.trans (hb2.mono HB1.out.size))
  clear hb2 hB
  go_wp2_with fail
  go_ret2
  exact ⟨rfl, HB2.out.alloc HB2.out.size _⟩

set_option maxRecDepth 20000 in
set_option maxHeartbeats 2000000 in
theorem Plain_ok (n k : Int) (h0 : 0 ≤ n) (h1 : n ≤ 3652058) (k0 : 0 ≤ k) (k1 : k ≤ 480) (ht : pT n k < 119988) (w : World) (hw : Lens w) :
    Calls Tryz.prog 94 #[.int .i32 n, .int .i64 k] w fun e w' => e = .returned (.tuple #[.int .i32 (plainD n k), .nilIface]) ∧ Below w.heap.size w w' := by
  have hA := fun W (hW : Lens W) => DCivil_any n W h0 h1 hW
  have hcr := (civ_right n h0 h1).1
  have hB := fun W (hW : Lens W) => Months_ok (cY n) (cM n) (cD n) k hcr (pT_lo h0 h1 k0) ht W hW
  have hC := fun W (hW : Lens W) => CLast_any (cY n) (cM n) (cD n) W hW
  have hD := fun W (hW : Lens W) => CNum_yes _ _ _ (pD_right h0 h1 k0 ht) W hW
  obtain ⟨q1, q2, q3, q4⟩ := mon_in (pT_lo h0 h1 k0) ht
  have n0 : ¬ k < 0 := by omega
  have n1 : ¬ 480 < k := by omega
  have hE := fun W (hW : Lens W) => Length_any (mY (pT n k)) (mM (pT n k)) W hW
  have hP : plainD n k = num (mY (pT n k)) (mM (pT n k)) (pD n k) := rfl
  rw [← hP] at hD
  have hl : lastB (cY n) (cM n) (cD n) = decide (cD n = mlen (cY n) (cM n)) := by
    unfold lastB
    rw [hcr, Bool.true_and]
    rfl
  have hm : mD (mon (cY n) (cM n) k) (cD n) = mD (pT n k) (cD n) := rfl
  have hm1 : mY (mon (cY n) (cM n) k) = mY (pT n k) := rfl
  have hm2 : mM (mon (cY n) (cM n) k) = mM (pT n k) := rfl
  rw [hl] at hC
  rw [hm, hm1, hm2] at hB
  clear hm hm1 hm2 hl hP hcr
  have hx : cD n = mlen (cY n) (cM n) → pD n k = mlen (mY (pT n k)) (mM (pT n k)) := plain_last
  have hy : ¬ cD n = mlen (cY n) (cM n) → pD n k = mD (pT n k) (cD n) := plain_mid
  generalize plainD n k = N at hD ⊢
  generalize mD (pT n k) (cD n) = D1 at hB hy
  generalize mlen (mY (pT n k)) (mM (pT n k)) = L1 at hE hx
  generalize mY (pT n k) = Y1 at *
  generalize mM (pT n k) = M1 at *
  generalize pD n k = D2 at *
  generalize mlen (cY n) (cM n) = L at *
  generalize cY n = Y at hA hB hC
  generalize cM n = M at hA hB hC
  generalize cD n = D at *
  have HW := Lib.hid hw
  clear hw ht
  by_cases hl : D = L
  · obtain rfl := hx hl
    rw [decide_eq_true hl] at hC
    clear hx hy hl
    go_enter Tryz.func94, Tryz.ntmps94
    go_wp2_with fail
    refine (hA _ HW.out).mono ?_
    rintro e w1 ⟨rfl, hb1⟩
    have hk1 := Blk.new w1 153 #[.int .i64 Y, .int .i64 M, .int .i64 D]
    have HB1 := Lib.hid (hb1.alloc hb1.size (.cells #[.int .i64 Y, .int .i64 M, .int .i64 D] 153))
    clear hb1 hA
    go_wp2_with fail
    refine (hB _ (HW.out.below HB1.out)).mono ?_
    rintro e w2 ⟨rfl, hb2⟩
    have HB2 := Lib.hid (HB1.out.trans (hb2.mono HB1.out.size))
    have hk2 := (hk1.below hb2 hk1.lt).alloc (.cells #[.int .i64 Y1, .int .i64 M1, .int .i64 D1] 153)
    have HB3 := Lib.hid (HB2.out.alloc HB2.out.size (.cells #[.int .i64 Y1, .int .i64 M1, .int .i64 D1] 153))
    have hj := Blk.new w2 153 #[.int .i64 Y1, .int .i64 M1, .int .i64 D1]
    have c0 := hk2.cell 0
    have c1 := hk2.cell 1
    have c2 := hk2.cell 2
    have z := hk2.lt
    simp at c0 c1 c2
    clear hb2 hB hk1 hk2
    go_wp2_with fail
    refine (hC _ (HW.out.below HB3.out)).mono ?_
    rintro e w3 ⟨rfl, hb3⟩
    have HB4 := Lib.hid (HB3.out.trans (hb3.mono HB3.out.size))
    have hj3 := hj.below hb3 hj.lt
    have g0 := hj3.cell 0
    have g1 := hj3.cell 1
    have g2 := hj3.cell 2
    have f2 := hj3.frozen 2
    simp at g0 g1 g2
    have HJ := Lib.hid hj3
    clear hb3 hC c0 c1 c2 hj hj3
    go_wp2_with fail
    refine (hE _ (HW.out.below HB4.out)).mono ?_
    rintro e w4 ⟨rfl, rfl⟩
    have hj5 := HJ.out.set_ 2 (.int .i64 D2)
    have HB5 := Lib.hid (HB4.out.setCell (p := ⟨w2.heap.size, 2, none⟩) HB2.out.size (.int .i64 D2))
    obtain ⟨w5, hw5⟩ : ∃ W, w3.setCell ⟨w2.heap.size, 2, none⟩ (.int .i64 D2) = W := ⟨_, rfl⟩
    rw [hw5] at hj5 HB5
    have HW5 := Lib.hid hw5
    have k0 := hj5.cell 0
    have k1 := hj5.cell 1
    have k2 := hj5.cell 2
    simp at k0 k1 k2
    clear hw5 hj5 hE
    go_wp2_with fail
    rw [HW5.out]
    go_wp2_with fail
    refine (hD _ (HW.out.below HB5.out)).mono ?_
    rintro e w4 ⟨rfl, hb4⟩
    go_wp2_with fail
    go_ret2
    exact ⟨rfl, HB5.out.trans (hb4.mono HB5.out.size)⟩
  · have e := hy hl
    subst e
    rw [decide_eq_false hl] at hC
    clear hx hy hl
    go_enter Tryz.func94, Tryz.ntmps94
    go_wp2_with fail
    refine (hA _ HW.out).mono ?_
    rintro e w1 ⟨rfl, hb1⟩
    have hk1 := Blk.new w1 153 #[.int .i64 Y, .int .i64 M, .int .i64 D]
    have HB1 := Lib.hid (hb1.alloc hb1.size (.cells #[.int .i64 Y, .int .i64 M, .int .i64 D] 153))
    clear hb1 hA
    go_wp2_with fail
    refine (hB _ (HW.out.below HB1.out)).mono ?_
    rintro e w2 ⟨rfl, hb2⟩
    have HB2 := Lib.hid (HB1.out.trans (hb2.mono HB1.out.size))
    have hk2 := (hk1.below hb2 hk1.lt).alloc (.cells #[.int .i64 Y1, .int .i64 M1, .int .i64 D2] 153)
    have HB3 := Lib.hid (HB2.out.alloc HB2.out.size (.cells #[.int .i64 Y1, .int .i64 M1, .int .i64 D2] 153))
    have hj := Blk.new w2 153 #[.int .i64 Y1, .int .i64 M1, .int .i64 D2]
    have c0 := hk2.cell 0
    have c1 := hk2.cell 1
    have c2 := hk2.cell 2
    have z := hk2.lt
    simp at c0 c1 c2
    clear hb2 hB hk1 hk2
    go_wp2_with fail
    refine (hC _ (HW.out.below HB3.out)).mono ?_
    rintro e w3 ⟨rfl, hb3⟩
    have HB4 := Lib.hid (HB3.out.trans (hb3.mono HB3.out.size))
    have hj3 := hj.below hb3 hj.lt
    have g0 := hj3.cell 0
    have g1 := hj3.cell 1
    have g2 := hj3.cell 2
    simp at g0 g1 g2
    clear hb3 hC c0 c1 c2 hj hj3
    go_wp2_with fail
    refine (hD _ (HW.out.below HB4.out)).mono ?_
    rintro e w4 ⟨rfl, hb4⟩
    go_wp2_with fail
    go_ret2
    exact ⟨rfl, HB4.out.trans (hb4.mono HB4.out.size)⟩
end Go.Proofs.YtpbfipeinblfgaaGreatDoor
namespace Go.Proofs.YtpbfipeinblfgaaGreatDoor
open Go.RowKit

theorem text0228 : dayText 738578 = ⟨#[50, 48, 50, 51, 45, 48, 50, 45, 50, 56]⟩ := by kernel_rfl
theorem text0331 : dayText 738609 = ⟨#[50, 48, 50, 51, 45, 48, 51, 45, 51, 49]⟩ := by kernel_rfl
theorem plain0331 : plainD 738578 1 = 738609 := by kernel_rfl
theorem pT0331 : pT 738578 1 = 24266 := by kernel_rfl

end Go.Proofs.YtpbfipeinblfgaaGreatDoor
namespace Go.Proofs.YtpbfipeinblfgaaGreatDoor
open Go.RowKit

set_option maxRecDepth 20000 in
theorem NextN9 (A : Option Addr) (n c : Nat) (d : Int) (w : World) (hd : d < 0 ∨ 3652058 < d) :
    Calls Tryz.prog 95 #[.slice A n c, .int .i32 d] w fun e w' => e = .returned (.tuple #[.int .i32 0, .iface 110 (.int .i64 1)]) ∧ w' = w := by
  have hD := DRight_any d w
  rw [day_no hd] at hD
  go_enter Tryz.func95, Tryz.ntmps95
  go_wp2_with fail
  refine hD.mono ?_
  rintro e w' ⟨rfl, rfl⟩
  go_wp2_with fail
  go_ret2
  exact ⟨rfl, rfl⟩
theorem rv_later {w w' : World} {A : Option Addr} {l : List Value} (h : Rv w w.heap.size A l) (hb : Below w.heap.size w w') : Rv w' w'.heap.size A l := (h.below hb).more hb.size
end Go.Proofs.YtpbfipeinblfgaaGreatDoor
namespace Go.Proofs.YtpbfipeinblfgaaGreatDoor
open Go.RowKit

theorem pT_zero (n : Int) (hM : 1 ≤ cM n ∧ cM n ≤ 12) : mY (pT n 0) = cY n ∧ mM (pT n 0) = cM n := by
  have := mon_uniq (t := pT n 0) (y := cY n) (m := cM n) hM.1 hM.2 (by unfold pT mon; omega)
  exact ⟨this.1.symm, this.2.symm⟩
theorem pT_one (n : Int) (j : Int) : 12 * (mY (pT n j) - 1) + mM (pT n j) = pT n (j + 1) := by
  have := mon_of (pT n j)
  rw [pT_add]
  omega
def RpPost (n k : Int) (w : World) (e : Ending) (w' : World) : Prop := (pT n k < 119988 → e = .returned (.tuple #[.int .i64 (plainD n k), .int .i64 0])) ∧ (¬ pT n k < 119988 → e = .returned (.tuple #[.int .i64 0, .int .i64 12])) ∧ Below w.heap.size w w'
end Go.Proofs.YtpbfipeinblfgaaGreatDoor
namespace Go.Proofs.YtpbfipeinblfgaaGreatDoor
open Go.RowKit

set_option maxRecDepth 20000 in
theorem RolledErr (A : Option Addr) (m c : Nat) (n k E : Int) (hP : ∀ W, Lens W → Calls Tryz.prog 94 #[.int .i32 n, .int .i64 k] W fun e w' => e = .returned (.tuple #[.int .i32 0, .iface 110 (.int .i64 E)]) ∧ Below W.heap.size W w') (w : World) (hw : Lens w) :
    Calls Tryz.prog 50 #[.slice A m c, .int .i32 n, .int .i64 k] w fun e w' => e = .returned (.tuple #[.int .i32 0, .iface 110 (.int .i64 E)]) ∧ Below w.heap.size w w' := by
  have hC := hP w hw
  clear hP
  go_enter Tryz.func50, Tryz.ntmps50
  go_wp2_with fail
  refine hC.mono ?_
  rintro e w1 ⟨rfl, hb⟩
  have HB := Lib.hid hb
  clear hb hC
  go_wp2_with fail
  go_ret2
  exact ⟨rfl, HB.out⟩
set_option maxRecDepth 20000 in
theorem RolledOk (A : Option Addr) (m c : Nat) (l : List Int) (n k : Int) (h0 : 0 ≤ n) (h1 : n ≤ 3652058) (k0 : 0 ≤ k) (k1 : k ≤ 480) (ht : pT n k < 119988) (w : World) (hw : Lens w)
    (hR : Rv w w.heap.size A (l.map encH)) (hn : l.length = m) (hnc : m ≤ c) (hm : m ≤ 1000) (hl : ∀ v ∈ l, -2147483648 ≤ v ∧ v ≤ 2147483647) :
    Calls Tryz.prog 50 #[.slice A m c, .int .i32 n, .int .i64 k] w (NxPost l (plainD n k) w) := by
  have hC := Plain_ok n k h0 h1 k0 k1 ht w hw
  obtain ⟨p1, p2, -⟩ := plain_in h0 h1 k0 ht
  generalize plainD n k = N at *
  have HR := Lib.hid hR
  have HN := Lib.hid hn
  have HL := Lib.hid hl
  clear hR hn hl ht
  go_enter Tryz.func50, Tryz.ntmps50
  go_wp2_with fail
  refine hC.mono ?_
  rintro e w1 ⟨rfl, hb⟩
  have HB := Lib.hid hb
  have hN := Next9 A m c l N w1 (rv_later HR.out hb) HN.out hnc hm HL.out ⟨p1, p2⟩
  have HNX := Lib.hid hN
  clear hb hC hN
  go_wp2_with fail
  refine HNX.out.mono ?_
  rintro e w3 ⟨hy, hn0, hb3⟩
  have HB3 := Lib.hid (HB.out.trans (hb3.mono HB.out.size))
  clear HNX hb3 HB
  cases hx : nextD l N with
  | some y =>
    have hxy := hy y hx
    clear hy hn0
    subst hxy
    have HX := Lib.hid hx
    clear hx
    go_wp2_with fail
    go_ret2
    refine ⟨fun z h => ?_, fun h => ?_, HB3.out⟩
    · have h2 := HX.out.symm.trans h
      injection h2 with h2
      subst h2
      rfl
    · have h2 := HX.out.symm.trans h
      cases h2
  | none =>
    have hxy := hn0 hx
    clear hy hn0
    subst hxy
    have HX := Lib.hid hx
    clear hx
    go_wp2_with fail
    go_ret2
    refine ⟨fun z h => ?_, fun h => ?_, HB3.out⟩
    · have h2 := HX.out.symm.trans h
      cases h2
    · rfl
end Go.Proofs.YtpbfipeinblfgaaGreatDoor
namespace Go.Proofs.YtpbfipeinblfgaaGreatDoor
open Go.RowKit Go.ChangeShapes Go.WideShapes Go.ChangeAt

def pcell (f : Int × Int) (i : Nat) : Value := if i = 0 then .int .i32 f.1 else .int .i64 f.2
def pairA (F : Nat → Int × Int) (n : Nat) : Array Value := Array.ofFn (n := n * 2) (fun j => pcell (F (j.val / 2)) (j.val % 2))
theorem pairA_get (F : Nat → Int × Int) (n j : Nat) : (pairA F n)[j]? = if j < n * 2 then some (pcell (F (j / 2)) (j % 2)) else Option.none := by
  unfold pairA
  rw [Array.getElem?_ofFn]
  split <;> rfl
theorem pairA_at (F : Nat → Int × Int) {n k : Nat} (h : k < n) : (pairA F n)[k * 2]? = some (.int .i32 (F k).1) ∧ (pairA F n)[k * 2 + 1]? = some (.int .i64 (F k).2) := by
  refine ⟨?_, ?_⟩ <;> rw [pairA_get, if_pos (by omega)]
  · rw [show k * 2 / 2 = k by omega, show k * 2 % 2 = 0 by omega]; rfl
  · rw [show (k * 2 + 1) / 2 = k by omega, show (k * 2 + 1) % 2 = 1 by omega]; rfl
theorem pairA_set (F : Nat → Int × Int) {n k : Nat} (h : k < n) (x y : Int) :
    ((pairA F n).setIfInBounds (k * 2) (.int .i32 x)).setIfInBounds (k * 2 + 1) (.int .i64 y) = pairA (fun i => if i = k then (x, y) else F i) n := by
  apply Array.ext_getElem?
  intro j
  have hs : (pairA F n).size = n * 2 := by simp [pairA]
  simp only [Array.getElem?_setIfInBounds, Array.size_setIfInBounds, hs, pairA_get]
  by_cases h1 : k * 2 + 1 = j
  · subst h1
    rw [if_pos rfl, if_pos (by omega), if_pos (by omega), show (k * 2 + 1) / 2 = k by omega, show (k * 2 + 1) % 2 = 1 by omega, if_pos rfl]; rfl
  · rw [if_neg h1]
    by_cases h0 : k * 2 = j
    · subst h0
      rw [if_pos rfl, if_pos (by omega), if_pos (by omega), show (k * 2) / 2 = k by omega, show (k * 2) % 2 = 0 by omega, if_pos rfl]; rfl
    · rw [if_neg h0]
      by_cases hj : j < n * 2
      · rw [if_pos hj, if_pos hj, if_neg (by omega)]
      · rw [if_neg hj, if_neg hj]
theorem pairA_ext {F G : Nat → Int × Int} {n : Nat} (h : ∀ i, i < n → F i = G i) : pairA F n = pairA G n := by
  apply Array.ext_getElem?
  intro j
  rw [pairA_get, pairA_get]
  by_cases hj : j < n * 2
  · rw [if_pos hj, if_pos hj, h _ (by omega)]
  · rw [if_neg hj, if_neg hj]
def partP (F : Nat → Int × Int) (k i : Nat) : Int × Int := if i < k then F i else (0, 0)
theorem partP_next (F : Nat → Int × Int) (k n : Nat) {x y : Int} (h : F k = (x, y)) : pairA (fun i => if i = k then (x, y) else partP F k i) n = pairA (partP F (k + 1)) n := by
  apply pairA_ext
  intro i _
  unfold partP
  by_cases hi : i = k
  · subst hi
    rw [if_pos rfl, if_pos (by omega), h]
  · rw [if_neg hi]
    by_cases hk : i < k
    · rw [if_pos hk, if_pos (by omega)]
    · rw [if_neg hk, if_neg (by omega)]
theorem infoDue : (Tryz.prog.info? 76).map (fun i => (i.zero, i.size, i.bytes)) = some (some (.agg #[.int .i32 0, .int .i64 0]), 2, 16) := by kernel_rfl
theorem makeDues (n : Nat) (hn : n ≤ 480) (u : World) :
    (Instr.makeSlice 73 (.int .i64 (n : Int)) (.int .i64 (n : Int))).run Tryz.prog u = .ok (.slice (some ⟨u.heap.size, 0, none⟩) n n) (u.alloc (.cells (pairA (fun _ => (0, 0)) n) 76)) := by
  obtain ⟨i0, hi, hz0, hz1, hz2⟩ := info_parts infoDue
  have h := run_make (P := Tryz.prog) u 73 76 i0 (.agg #[.int .i32 0, .int .i64 0]) Tryz.underlying73 hi hz0 .i64 .i64 (n : Int) (n : Int) (by omega) (Int.le_refl _) (by rw [hz2]; omega) (by omega)
  rw [Int.toNat_natCast, hz1, show Value.cells (.agg #[.int .i32 0, .int .i64 0]) = #[.int .i32 0, .int .i64 0] from rfl] at h
  have e : madeCells #[.int .i32 0, .int .i64 0] (n * 2) = pairA (fun _ => (0, 0)) n := by
    apply Array.ext_getElem?
    intro j
    rw [pairA_get]
    by_cases hj : j < n * 2
    · rw [if_pos hj]
      rcases (show j % 2 = 0 ∨ j % 2 = 1 by omega) with e | e <;> simp [madeCells, hj, e, pcell]
    · rw [if_neg hj]
      simp [madeCells, hj]
  rw [e] at h
  exact h
theorem pays_bd {F : Nat → Int × Int × Int} {n : Nat} (h : ∀ k, k < n → -1200000000000 ≤ (F k).1 + (F k).2.1 ∧ (F k).1 + (F k).2.1 ≤ 1200000000000) : ∀ k, k ≤ n → -(1200000000000 * (k : Int)) ≤ paysTo F k ∧ paysTo F k ≤ 1200000000000 * (k : Int)
  | 0, _ => by simp [paysTo]
  | k + 1, hk => by
    have h1 := pays_bd h k (by omega)
    have h2 := h k (by omega)
    rw [paysTo]
    omega
theorem row_bd {p y P n : Nat} (hy : mi p P ≤ y) (hP : P ≤ 1000000000000) (hp : p ≤ 1000000) (k : Nat) : -1200000000000 ≤ (rowF p y P n k).1 + (rowF p y P n k).2.1 ∧ (rowF p y P n k).1 + (rowF p y P n k).2.1 ≤ 1200000000000 := by
  have h1 := mit_le hy k P (Nat.le_refl _)
  have h2 := mit_le hy (k + 1) P (Nat.le_refl _)
  have h3 := mi_bd (Nat.le_trans h1 hP) hp
  unfold rowF
  dsimp only
  split <;> omega
theorem below_set2k {w w' : World} {B g : Nat} (h : Below B w w') (hg : B ≤ g) (o : Nat) (x y : Value) :
    Below B w ((w'.setCell ⟨g, o, none⟩ x).setCell ⟨g, o + 1, none⟩ y) := (h.setCell hg _).setCell hg _
theorem cY_max : cY 3600000 ≤ 9900 := by decide +kernel
theorem pT_bd {n k : Int} (h0 : 0 ≤ n) (h1 : n ≤ 3600000) (hk : k ≤ 480) : pT n k < 119988 := by
  have h2 := civ_in n h0 (by omega)
  have h3 : cY n ≤ 9900 := by
    rcases Int.lt_or_le (cY 3600000) (cY n) with h | h
    · have := (civ_lt (n := 3600000) (k := n) (by omega) (by omega) h0 (by omega)).2 (.inl h)
      omega
    · have := cY_max
      omega
  unfold pT mon
  omega
def DuesPost (M : Nat) (D Sm : Nat → Int) (w : World) (e : Ending) (w' : World) : Prop :=
  ∃ g, e = .returned (.tuple #[.slice (some ⟨g, 0, none⟩) M M, .nilIface]) ∧ w.heap.size ≤ g ∧ Below w.heap.size w w' ∧ Blk w' g 76 (pairA (fun k => (D k, Sm k)) M)
set_option maxRecDepth 100000 in
set_option maxHeartbeats 4000000 in
theorem Dues_at {K P R B M y : Nat} {S F G : Int} (h : Trm.Right ⟨K, P, R, B, M, S, F, G⟩) (hy : mi R P ≤ y) (hyb : y ≤ 9223372036854775807)
    (hU : ∀ W, Calls Tryz.prog 91 #[.int .u8 (K : Int), .int .i64 (P : Int), rv R B, .int .i64 (M : Int)] W (Ret (.tuple #[.int .i64 (y : Int), .nilIface]) W))
    (A : Option Addr) (n c : Nat) (l : List Int) (D : Nat → Int) (hD : ∀ k, k < M → nextD l (plainD S ((k : Int) + 1)) = some (D k)) (w : World) (hw : Lens w)
    (hR : Rv w w.heap.size A (l.map encH)) (hn : l.length = n) (hnc : n ≤ c) (hm : n ≤ 200) (hl : ∀ v ∈ l, -2147483648 ≤ v ∧ v ≤ 2147483647) (hrt : rightL l = true) :
    Calls Tryz.prog 22 #[.agg #[.int .u8 (K : Int), .int .i64 (P : Int), .int .u32 (R : Int), .int .u8 (B : Int), .int .i64 (M : Int), .int .i32 S, .int .i64 F, .int .i64 G], .slice A n c] w (DuesPost M D (fun k => paysTo (rowF R y P M) (k + 1)) w) := by
  have hT := fun W => TRight_true h W
  obtain ⟨hK, hRB, hP, hM, hS, hF, hG⟩ := h
  dsimp only at hK hRB hP hM hS hF hG
  unfold Trm.v at hT
  dsimp only at hT
  have hRows := fun W => Rows_yes (kd := K) hRB (by omega : P ≤ 1000000000000) (by omega : 1 ≤ M) (by omega : M ≤ 480) hy hyb hU W
  have hb1 := row_bd (n := M) hy (by omega : P ≤ 1000000000000) hRB.1
  obtain ⟨FF, hFF⟩ : ∃ FF, rowF R y P M = FF := ⟨_, rfl⟩
  unfold RowsPost at hRows
  rw [hFF] at hRows hb1 ⊢
  have hb2 := pays_bd (n := M) (fun k _ => hb1 k)
  have hSums := fun g W hW => Sums_any (F := FF) (n := M) g (by omega) W hW (fun k hk => by
    have h1 := hb1 k
    have h2 := hb2 (k + 1) hk
    omega)
  unfold SumsPost at hSums
  obtain ⟨Q, hQ⟩ : ∃ Q : Nat → Int, (fun k => paysTo FF (k + 1)) = Q := ⟨_, rfl⟩
  rw [hQ] at hSums ⊢
  have hmk := fun W => makeDues M (by omega) W
  have hHR := fun W (hW : Rv W W.heap.size A (l.map encH)) => HRight_any A n c W.heap.size l W hW hn (by omega) hl
  rw [hrt] at hHR
  have hRo := fun (k : Nat) (hk : k < M) W (hW : Lens W) (hRW : Rv W W.heap.size A (l.map encH)) => RolledOk A n c l S ((k : Int) + 1) (by omega) (by omega) (by omega) (by omega) (pT_bd (by omega) (by omega) (by omega)) W hW hRW hn hnc (by omega) hl
  unfold rv at *
  have HM := Lib.hid hM
  have HR := Lib.hid hR
  have HW := Lib.hid hw
  have HD := Lib.hid hD
  have HRo := Lib.hid hRo
  have HQ0 := Lib.hid (Blk.new w 28 #[.int .u8 (K : Int), .int .i64 (P : Int), .int .u32 (R : Int), .int .u8 (B : Int), .int .i64 (M : Int), .int .i32 S, .int .i64 F, .int .i64 G])
  have HB0 := Lib.hid (b_alloc w (.cells #[.int .u8 (K : Int), .int .i64 (P : Int), .int .u32 (R : Int), .int .u8 (B : Int), .int .i64 (M : Int), .int .i32 S, .int .i64 F, .int .i64 G] 28))
  clear hRo hD hw hR hb1 hb2 hQ hFF hU hrt hl hn hnc hy hyb hK hRB hP hS hF hG hm
  go_enter Tryz.func22, Tryz.ntmps22
  have e1 := (blk8 HQ0.out)
  obtain ⟨c0, c1, c2, c3, c4, c5, c6, c7⟩ := e1
  go_wp2_with fail
  refine (hT _).mono ?_
  rintro e w1 ⟨rfl, hb⟩
  have HQ1 := Lib.hid (HQ0.out.below hb HQ0.out.lt)
  have HB1 := Lib.hid (HB0.out.trans (hb.mono HB0.out.size))
  clear hb c0 c1 c2 c3 c4 c5 c6 c7 HQ0 HB0 hT
  have cH := hHR w1 (rv_later HR.out HB1.out)
  clear hHR
  go_wp2_with fail
  refine cH.mono ?_
  rintro e w1 ⟨rfl, rfl⟩
  obtain ⟨c0, c1, c2, c3, c4, c5, c6, c7⟩ := blk8 HQ1.out
  clear cH
  go_wp2_with fail
  refine (hRows _).mono ?_
  rintro e w2 ⟨gR, rfl, hgR, hb, hkR⟩
  have HQ2 := Lib.hid (HQ1.out.below hb HQ1.out.lt)
  have HB2 := Lib.hid (HB1.out.trans (hb.mono HB1.out.size))
  have HG2 := Lib.hid hkR
  have HGR := Lib.hid hgR
  clear hb hkR hgR hRows c0 c1 c2 c3 c4 c5 c6 c7 HQ1 HB1
  obtain ⟨c0, c1, c2, c3, c4, c5, c6, c7⟩ := blk8 HQ2.out
  go_wp2_with fail
  have HP3 := Lib.hid (Blk.new w2 76 (pairA (fun _ => (0, 0)) M))
  have HQ3 := Lib.hid (HQ2.out.alloc (.cells (pairA (fun _ => (0, 0)) M) 76))
  have HG3 := Lib.hid (HG2.out.alloc (.cells (pairA (fun _ => (0, 0)) M) 76))
  have HB3 := Lib.hid (HB2.out.alloc HB2.out.size (.cells (pairA (fun _ => (0, 0)) M) 76))
  have cS := hSums gR _ HG3.out
  have HZ : Hid (w.heap.size < w2.heap.size) := Lib.hid HQ2.out.lt
  clear hSums c0 c1 c2 c3 c4 c5 c6 c7 hmk
  refine cS.mono ?_
  rintro e w4 ⟨gS, rfl, hgS, hb, hkS⟩
  have HP4 := Lib.hid (HP3.out.below hb HP3.out.lt)
  have HQ4 := Lib.hid (HQ3.out.below hb HQ3.out.lt)
  have HB4 := Lib.hid (HB3.out.trans (hb.mono HB3.out.size))
  have HS4 := Lib.hid hkS
  have HSD : Hid (w2.heap.size < gS) := Lib.hid (by simp at hgS; omega)
  clear hb hkS hgS cS HP3 HQ3 HB3 HG3 HG2 HQ2 HB2 HGR
  obtain ⟨gD, hgD⟩ : ∃ g, w2.heap.size = g := ⟨_, rfl⟩
  obtain ⟨b, hb⟩ : ∃ b, w.heap.size = b := ⟨_, rfl⟩
  rw [hgD] at HP4 HZ HSD
  rw [hb] at HQ4 HZ
  rw [hgD, hb]
  have HBE := Lib.hid hb
  clear hgD hb
  go_wp2_with fail
  go_loopw [43] (fun i wr => ∃ (k : Nat), k ≤ M ∧ i = .int .i64 k ∧ Hid (Blk wr gD 76 (pairA (partP (fun k => (D k, Q k)) k) M)) ∧ Hid (Blk wr gS 22 (oneA Q M)) ∧ Hid (Blk wr b 28 #[.int .u8 (K : Int), .int .i64 (P : Int), .int .u32 (R : Int), .int .u8 (B : Int), .int .i64 (M : Int), .int .i32 S, .int .i64 F, .int .i64 G]) ∧ Hid (Below w.heap.size w wr)) (fun i _ => M - (intOf i).toNat)
  case atStart => exact ⟨0, Nat.zero_le _, rfl, Lib.hid (by have := HP4.out; rwa [pairA_ext (G := partP (fun k => (D k, Q k)) 0) (fun i _ => by unfold partP; rw [if_neg (by omega)])] at this), HS4, HQ4, HB4⟩
  case round =>
    obtain ⟨k, hk, rfl, HPk, HSk, HQk, HBk⟩ := hrel
    by_cases hlt : k < M
    · have d0 := (HSk.out.cell k).trans (oneA_at Q hlt)
      obtain ⟨c0, c1, c2, c3, c4, c5, c6, c7⟩ := blk8 HQk.out
      have z0 := HQk.out.lt
      have hM480 : M ≤ 480 := by have := HM.out; omega
      have cR := HRo.out k hlt _ (HW.out.below HBk.out) (rv_later HR.out HBk.out)
      obtain ⟨X, hX⟩ : ∃ X, D k = X := ⟨_, rfl⟩
      obtain ⟨Y, hY⟩ : ∃ Y, Q k = Y := ⟨_, rfl⟩
      have hDk := HD.out k hlt
      rw [hX] at hDk
      rw [hY] at d0
      unfold NxPost at cR
      have HXY : Hid ((D k, Q k) = (X, Y)) := Lib.hid (by rw [hX, hY])
      have HDk := Lib.hid hDk
      clear hX hY hDk
      go_wp2_with fail
      refine cR.mono ?_
      rintro e w5 ⟨hy1, -, hb5⟩
      have hy2 := hy1 X HDk.out
      subst hy2
      have HP5 := Lib.hid (HPk.out.below hb5 HPk.out.lt)
      have HS5 := Lib.hid (HSk.out.below hb5 HSk.out.lt)
      have HQ5 := Lib.hid (HQk.out.below hb5 HQk.out.lt)
      have HB5 := Lib.hid (HBk.out.trans (hb5.mono HBk.out.size))
      clear hy1 hb5 cR d0 c0 c1 c2 c3 c4 c5 c6 c7 z0 HPk HSk HQk HBk
      obtain ⟨g0, g1⟩ := pairA_at (partP (fun k => (D k, Q k)) k) hlt
      have d0 := (HP5.out.cell (k * 2)).trans g0
      have d1 := (HP5.out.cell (k * 2 + 1)).trans g1
      have f0 := HP5.out.frozen (k * 2)
      have f1 := HP5.out.frozen (k * 2 + 1)
      clear g0 g1
      go_wp2_with fail
      go_roundw
      case rel =>
        have hset := pairA_set (partP (fun k => (D k, Q k)) k) hlt X Y
        rw [partP_next _ _ _ HXY.out] at hset
        refine ⟨k + 1, by omega, by go_num, Lib.hid ?_, Lib.hid ((HS5.out.far (by have := HSD.out; show gS ≠ gD; omega) _).far (by have := HSD.out; show gS ≠ gD; omega) _), Lib.hid ((HQ5.out.far (by have := HZ.out; show b ≠ gD; omega) _).far (by have := HZ.out; show b ≠ gD; omega) _), Lib.hid (below_set2k HB5.out (by have := HBE.out; have := HZ.out; omega) _ _ _)⟩
        have h3 := (HP5.out.set_ (k * 2) (.int .i32 X)).set_ (k * 2 + 1) (.int .i64 Y)
        rwa [hset] at h3
      case measure => simp [intOf]; omega
    · have hkn : k = M := by omega
      subst hkn
      go_wp2_with fail
      go_ret2
      refine ⟨gD, rfl, by have := HBE.out; have := HZ.out; omega, HBk.out, ?_⟩
      have h3 := HPk.out
      rwa [pairA_ext (G := fun k => (D k, Q k)) (fun i hi => by unfold partP; rw [if_pos hi])] at h3
end Go.Proofs.YtpbfipeinblfgaaGreatDoor
namespace Go.Proofs.YtpbfipeinblfgaaGreatDoor
open Go.RowKit

theorem filter_less {p q : Int → Bool} {l : List Int} (h : ∀ a, p a = true → q a = true) {x : Int} (hx : x ∈ l) (hq : q x = true) (hp : p x = false) : (l.filter p).length < (l.filter q).length := by
  have hle : ∀ m : List Int, (m.filter p).length ≤ (m.filter q).length := by
    intro m
    induction m with
    | nil => simp
    | cons a m ih =>
      by_cases hpa : p a = true
      · simp [hpa, h a hpa, ih]
      · by_cases hqa : q a = true
        · simp [hpa, hqa]; omega
        · simp [hpa, hqa, ih]
  induction l with
  | nil => cases hx
  | cons a m ih =>
    rcases List.mem_cons.1 hx with rfl | hm
    · have := hle m
      simp [hp, hq]
      omega
    · have := ih hm
      by_cases hpa : p a = true
      · simp [hpa, h a hpa, this]
      · by_cases hqa : q a = true
        · simp [hpa, hqa]; omega
        · simp [hpa, hqa, this]
theorem open_near (l : List Int) : ∀ (c : Nat) (x : Int), (l.filter (fun a => decide (x ≤ a))).length ≤ c → ∃ y, x ≤ y ∧ y ≤ x + 3 * c + 2 ∧ openL l y = true := by
  intro c
  induction c with
  | zero =>
    intro x h
    obtain ⟨y, h1, h2, h3⟩ : ∃ y, x ≤ y ∧ y ≤ x + 2 ∧ y % 7 < 5 := by
      by_cases a : x % 7 < 5
      · exact ⟨x, by omega, by omega, a⟩
      · exact ⟨if x % 7 = 5 then x + 2 else x + 1, by split <;> omega, by split <;> omega, by split <;> omega⟩
    refine ⟨y, h1, by omega, ?_⟩
    unfold openL
    rw [decide_eq_true h3, Bool.true_and, Bool.not_eq_true']
    rw [← Bool.not_eq_true, List.contains_iff_mem]
    intro hm
    have : y ∈ l.filter (fun a => decide (x ≤ a)) := List.mem_filter.2 ⟨hm, by simpa using h1⟩
    have := List.length_pos_of_mem this
    omega
  | succ c ih =>
    intro x h
    obtain ⟨y, h1, h2, h3⟩ : ∃ y, x ≤ y ∧ y ≤ x + 2 ∧ y % 7 < 5 := by
      by_cases a : x % 7 < 5
      · exact ⟨x, by omega, by omega, a⟩
      · exact ⟨if x % 7 = 5 then x + 2 else x + 1, by split <;> omega, by split <;> omega, by split <;> omega⟩
    by_cases hm : y ∈ l
    · have hlt := filter_less (p := fun a => decide (y + 1 ≤ a)) (q := fun a => decide (x ≤ a)) (l := l) (fun a ha => by simp at ha ⊢; omega) hm (by simpa using h1) (decide_eq_false (by omega))
      obtain ⟨z, z1, z2, z3⟩ := ih (y + 1) (by omega)
      exact ⟨z, by omega, by omega, z3⟩
    · refine ⟨y, h1, by omega, ?_⟩
      unfold openL
      rw [decide_eq_true h3, Bool.true_and, Bool.not_eq_true']
      rw [← Bool.not_eq_true, List.contains_iff_mem]
      exact hm
theorem nextD_some (l : List Int) : ∀ (f : Nat) (x y : Int), (y - x).toNat = f → x ≤ y → y ≤ 3652058 → openL l y = true → ∃ z, nextD l x = some z := by
  intro f
  induction f with
  | zero =>
    intro x y h1 h2 h3 h4
    obtain rfl : x = y := by omega
    exact ⟨x, nextD_yes h3 h4⟩
  | succ f ih =>
    intro x y h1 h2 h3 h4
    cases ho : openL l x with
    | true => exact ⟨x, nextD_yes (by omega) ho⟩
    | false =>
      rw [nextD_no (by omega) ho]
      exact ih (x + 1) y (by omega) (by omega) h3 h4
theorem cY_top : 9900 < cY 3630000 := by decide +kernel
theorem plain_top {n k : Int} (h0 : 0 ≤ n) (h1 : n ≤ 3600000) (k0 : 0 ≤ k) (k1 : k ≤ 480) : 0 ≤ plainD n k ∧ plainD n k ≤ 3630000 := by
  have ht := pT_bd h0 h1 k1
  obtain ⟨p1, p2, p3, -, -⟩ := plain_in h0 (by omega) k0 ht
  refine ⟨p1, ?_⟩
  rcases Int.lt_or_le 3630000 (plainD n k) with h | h
  · have h5 := (civ_lt (n := 3630000) (k := plainD n k) (by omega) (by omega) p1 p2).1 h
    have h6 := cY_top
    have h7 : pT n k < 118800 := by
      have h2 := civ_in n h0 (by omega)
      have h3 : cY n ≤ 9859 := by
        rcases Int.lt_or_le (cY 3600000) (cY n) with h | h
        · have := (civ_lt (n := 3600000) (k := n) (by omega) (by omega) h0 (by omega)).2 (.inl h)
          omega
        · have : cY 3600000 ≤ 9859 := by decide +kernel
          omega
      unfold pT mon
      omega
    have h8 : mY (pT n k) ≤ 9900 := by unfold mY; omega
    omega
  · exact h
/-- The day of month k. -/
def dueD (l : List Int) (S : Int) (k : Nat) : Int := (nextD l (plainD S ((k : Int) + 1))).getD 0
theorem dueD_is {l : List Int} {S : Int} {k : Nat} (h0 : 0 ≤ S) (h1 : S ≤ 3600000) (hk : k < 480) (hl : l.length ≤ 200) : nextD l (plainD S ((k : Int) + 1)) = some (dueD l S k) := by
  have hp := plain_top h0 h1 (k := (k : Int) + 1) (by omega) (by omega)
  obtain ⟨y, y1, y2, y3⟩ := open_near l 200 (plainD S ((k : Int) + 1)) (Nat.le_trans (List.length_filter_le _ _) hl)
  obtain ⟨z, hz⟩ := nextD_some l _ _ y rfl y1 (by omega) y3
  unfold dueD
  rw [hz]
  rfl
/-- The sum of month k: of the least payment, or of interest only. -/
def LstK (K R M P y : Nat) : Prop := (K = 1 → Lst R M P y) ∧ (K = 2 → y = mi R P)
theorem lstK_any {K R M P : Nat} (hM : 0 < M) : ∃ y, LstK K R M P y := by
  by_cases h : K = 2
  · exact ⟨mi R P, fun e => by omega, fun _ => rfl⟩
  · obtain ⟨y, hy⟩ := lst_any (p := R) (n := M) (P := P) hM
    exact ⟨y, fun _ => hy, fun e => absurd e h⟩
theorem Dues_any {K P R B M y : Nat} {S F G : Int} (h : Trm.Right ⟨K, P, R, B, M, S, F, G⟩) (hy : LstK K R M P y)
    (A : Option Addr) (n c : Nat) (l : List Int) (w : World) (hw : Lens w)
    (hR : Rv w w.heap.size A (l.map encH)) (hn : l.length = n) (hnc : n ≤ c) (hl : ∀ v ∈ l, -2147483648 ≤ v ∧ v ≤ 2147483647) (hrt : rightL l = true) :
    Calls Tryz.prog 22 #[Trm.v ⟨K, P, R, B, M, S, F, G⟩, .slice A n c] w (DuesPost M (dueD l S) (fun k => paysTo (rowF R y P M) (k + 1)) w) := by
  have h9 := h
  obtain ⟨hK, hRB, hP, hM, hS, hF, hG⟩ := h
  dsimp only at hK hRB hP hM hS hF hG
  have hl200 : l.length ≤ 200 := by
    unfold rightL at hrt
    simp only [Bool.and_eq_true, decide_eq_true_eq] at hrt
    exact hrt.1
  have hmi := mi_bd (p := R) (Q := P) (by omega) hRB.1
  have hyy : mi R P ≤ y ∧ y ≤ 9223372036854775807 := by
    rcases hK with e | e
    · have h1 := (hy.1 e).gt (by omega)
      have h2 := (hy.1 e).high (by omega)
      have h3 := prt_bd (n := M) (P := P) (by omega) (by omega)
      omega
    · have := hy.2 e
      omega
  refine Dues_at h9 hyy.1 hyy.2 (fun W => ?_) A n c l (dueD l S) (fun k hk => dueD_is hS.1 hS.2 (by omega) hl200) w hw hR hn hnc (by omega) hl hrt
  rcases hK with e | e
  · subst e
    exact Usual_level hRB (by omega) (by omega) (by omega) (by omega) (hy.1 rfl) W
  · subst e
    rw [hy.2 rfl]
    exact Usual_only hRB (by omega) (by omega) (by omega) (by omega) W
end Go.Proofs.YtpbfipeinblfgaaGreatDoor
namespace Go.Proofs.YtpbfipeinblfgaaGreatDoor
open Go.ChangeShapes Go.WideShapes Go.ChangeAt Go.RowKit

/-- The day behind k bytes. -/
def atK (l : List UInt8) (f : Int) : Nat → Int
  | 0 => f
  | k + 1 => atK l f k + (1 + (((l.getD k 0).toNat % 40 : Nat) : Int))
def fewD (l : List UInt8) (f : Int) (k : Nat) : List Int := (List.range k).map (fun i => atK l f (i + 1))
theorem fewD_next (l : List UInt8) (f : Int) (k : Nat) : fewD l f (k + 1) = fewD l f k ++ [atK l f (k + 1)] := by
  unfold fewD
  rw [List.range_succ, List.map_append]
  rfl
theorem fewD_len (l : List UInt8) (f : Int) (k : Nat) : (fewD l f k).length = k := by simp [fewD]
theorem atK_bd (l : List UInt8) (f : Int) : ∀ k, f + k ≤ atK l f k ∧ atK l f k ≤ f + 40 * k
  | 0 => by simp [atK]
  | k + 1 => by
    have := atK_bd l f k
    rw [atK]
    omega
theorem fewD_get (l : List UInt8) (f : Int) {k n : Nat} (h : k < n) : (fewD l f n).getD k 0 = atK l f (k + 1) := by
  unfold fewD
  simp [List.getD, h]
theorem few_right (l : List UInt8) {f : Int} (h0 : 0 ≤ f) (h1 : f ≤ 3600000) {n : Nat} (hn : n ≤ 40) : rightL (fewD l f n) = true := by
  unfold rightL
  rw [fewD_len, decide_eq_true (by omega : n ≤ 200), Bool.true_and]
  have key : ∀ k, k ≤ n → upB (fewD l f n) k = true := by
    intro k
    induction k with
    | zero => intro _; rfl
    | succ k ih =>
      intro hk
      have hb := atK_bd l f (k + 1)
      simp only [upB]
      rw [ih (by omega), fewD_get l f (by omega : k < n)]
      have hd : dayB (atK l f (k + 1)) = true := by unfold dayB; simp; omega
      rw [hd]
      cases k with
      | zero => rfl
      | succ k =>
        have h2 : atK l f (k + 1 + 1) = atK l f (k + 1) + (1 + (((l.getD (k + 1) 0).toNat % 40 : Nat) : Int)) := rfl
        rw [show k + 1 - 1 = k from rfl, fewD_get l f (by omega : k < n), h2]
        simp
        omega
  exact key n (Nat.le_refl _)
theorem few_in (l : List UInt8) {f : Int} (h0 : 0 ≤ f) (h1 : f ≤ 3600000) {n : Nat} (hn : n ≤ 40) : ∀ v ∈ fewD l f n, -2147483648 ≤ v ∧ v ≤ 2147483647 := by
  intro v hv
  unfold fewD at hv
  obtain ⟨i, hi, rfl⟩ := List.mem_map.1 hv
  have := List.mem_range.1 hi
  have := atK_bd l f (i + 1)
  omega
end Go.Proofs.YtpbfipeinblfgaaGreatDoor
namespace Go.Proofs.YtpbfipeinblfgaaGreatDoor
open Go.RowKit

theorem row_pay {p y P n k : Nat} : 0 ≤ (rowF p y P n k).1 + (rowF p y P n k).2.1 ∧ (k + 1 = n → (mit p y k P : Int) ≤ (rowF p y P n k).1 + (rowF p y P n k).2.1) ∧ (k + 1 ≠ n → (mit p y k P : Int) - mit p y (k + 1) P ≤ (rowF p y P n k).1 + (rowF p y P n k).2.1) := by
  have h1 : mit p y (k + 1) P ≤ mit p y k P + mi p (mit p y k P) := by
    rw [mit_succ]
    unfold mst
    omega
  unfold rowF
  dsimp only
  refine ⟨?_, fun h => ?_, fun h => ?_⟩
  · split <;> omega
  · rw [if_pos h]; omega
  · rw [if_neg h]; omega
theorem sum_rise (p y P n k : Nat) : paysTo (rowF p y P n) k ≤ paysTo (rowF p y P n) (k + 1) := by
  have := (row_pay (p := p) (y := y) (P := P) (n := n) (k := k)).1
  rw [paysTo]
  omega
theorem sum_low (p y P n : Nat) : ∀ k, k < n → (P : Int) - mit p y k P ≤ paysTo (rowF p y P n) k
  | 0, _ => by
    show (P : Int) - (P : Int) ≤ 0
    omega
  | k + 1, h => by
    have h1 := sum_low p y P n k (by omega)
    have h2 := (row_pay (p := p) (y := y) (P := P) (n := n) (k := k)).2.2 (by omega)
    rw [paysTo]
    omega
theorem sum_all (p y P n : Nat) (h : 1 ≤ n) : (P : Int) ≤ paysTo (rowF p y P n) n := by
  obtain ⟨m, rfl⟩ : ∃ m, n = m + 1 := ⟨n - 1, by omega⟩
  have h1 := sum_low p y P (m + 1) m (by omega)
  have h2 := (row_pay (p := p) (y := y) (P := P) (n := m + 1) (k := m)).2.1 rfl
  rw [paysTo]
  omega
theorem plain_zero {n : Int} (h0 : 0 ≤ n) (h1 : n ≤ 3600000) : plainD n 0 = n := by
  obtain ⟨hr, hn⟩ := civ_right n h0 (by omega)
  have hc := civ_in n h0 (by omega)
  obtain ⟨e1, e2⟩ := pT_zero n ⟨hc.2.2.1, hc.2.2.2.1⟩
  unfold plainD
  have e3 : pD n 0 = cD n := by
    by_cases h : cD n = mlen (cY n) (cM n)
    · rw [plain_last h, e1, e2, h]
    · rw [plain_mid h, e1, e2]
      omega
  rw [e1, e2, e3, hn]
theorem due_after {l : List Int} {S : Int} {k : Nat} (h0 : 0 ≤ S) (h1 : S ≤ 3600000) (hk : k < 480) (hl : l.length ≤ 200) : S < dueD l S k := by
  have h2 := dueD_is (l := l) h0 h1 hk hl
  have h3 := nextD_in l _ _ rfl _ h2
  have h4 := plain_rise (n := S) (k := 0) (j := (k : Int) + 1) h0 (by omega) (Int.le_refl _) (by omega) (pT_bd h0 h1 (by omega))
  rw [plain_zero h0 h1] at h4
  omega
theorem due_rise {l : List Int} {S : Int} {k : Nat} (h0 : 0 ≤ S) (h1 : S ≤ 3600000) (hk : k + 1 < 480) (hl : l.length ≤ 200) : dueD l S k ≤ dueD l S (k + 1) := by
  have h2 := dueD_is (l := l) h0 h1 (show k < 480 by omega) hl
  have h2' := dueD_is (l := l) h0 h1 hk hl
  obtain ⟨a1, a2, a3, a4⟩ := nextD_in l _ _ rfl _ h2
  obtain ⟨b1, b2, b3, b4⟩ := nextD_in l _ _ rfl _ h2'
  have h4 := plain_rise (n := S) (k := (k : Int) + 1) (j := ((k + 1 : Nat) : Int) + 1) h0 (by omega) (by omega) (by omega) (pT_bd h0 h1 (by omega))
  rcases Int.lt_or_le (dueD l S (k + 1)) (dueD l S k) with h | h
  · have := a4 _ (by omega) h
    rw [b3] at this
    cases this
  · exact h
end Go.Proofs.YtpbfipeinblfgaaGreatDoor
namespace Go.Proofs.YtpbfipeinblfgaaGreatDoor
open Go.ChangeShapes Go.WideShapes Go.ChangeAt Go.RowKit Go.Shelf

set_option maxRecDepth 20000 in
theorem Clone_nil (w : World) : Calls Tryz.prog 97 #[.slice none 0 0] w fun e w' => e = .returned (.slice none 0 0) ∧ w' = w := by
  have hE : ∀ W, (binOp .eql 42 (.slice none 0 0) (.slice none 0 0)).run Tryz.prog W = .ok (.bool true) W := fun W => by kernel_rfl
  go_enter Tryz.func97, Tryz.ntmps97
  go_wp2_with fail
  go_ret
  exact ⟨rfl, rfl⟩
set_option maxRecDepth 20000 in
theorem ins_nil (f : Nat) (w : World) : Calls Tryz.prog 187 #[.slice none 0 0, .int .i64 0, .int .i64 0, .func (.func f) #[] #[]] w fun e w' => e = .returned (.tuple #[]) ∧ w' = w := by
  go_enter Tryz.func187, Tryz.ntmps187
  go_wp2_with fail
  go_rounds 1
  go_wp2_with fail
  go_end0
  exact ⟨rfl, rfl⟩
set_option maxRecDepth 20000 in
theorem stable_nil (f : Nat) (w : World) : Calls Tryz.prog 147 #[.slice none 0 0, .int .i64 0, .func (.func f) #[] #[]] w fun e w' => e = .returned (.tuple #[]) ∧ w' = w := by
  have hi := fun W => ins_nil f W
  go_enter Tryz.func147, Tryz.ntmps147
  go_wp2_with fail
  refine wp_loop_rounds 1 ?_
  rw [rounds_succ]
  go_wp2_with fail
  refine (hi _).mono ?_
  rintro e w2 ⟨rfl, rfl⟩
  go_wp2_with fail
  refine wp_loop_rounds 1 ?_
  rw [rounds_succ]
  go_wp2_with fail
  go_end0
  exact ⟨rfl, rfl⟩
set_option maxRecDepth 20000 in
theorem sortS_nil (f : Nat) (w : World) : Calls Tryz.prog 98 #[.slice none 0 0, .func (.func f) #[] #[]] w fun e w' => e = .returned (.tuple #[]) ∧ w' = w := by
  have hi := fun W => stable_nil f W
  go_enter Tryz.func98, Tryz.ntmps98
  go_wp2_with fail
  refine (hi _).mono ?_
  rintro e w2 ⟨rfl, rfl⟩
  go_wp2_with fail
  go_end0
  exact ⟨rfl, rfl⟩
set_option maxRecDepth 20000 in
theorem Sort_nil (w : World) : Calls Tryz.prog 52 #[.slice none 0 0] w fun e w' => e = .returned (.slice none 0 0) ∧ w' = w := by
  have hc := fun W => Clone_nil W
  have hi := fun f W => sortS_nil f W
  go_enter Tryz.func52, Tryz.ntmps52
  go_wp2_with fail
  refine (hc _).mono ?_
  rintro e w2 ⟨rfl, rfl⟩
  go_wp2_with fail
  refine (hi _ _).mono ?_
  rintro e w2 ⟨rfl, rfl⟩
  go_wp2_with fail
  go_ret
  exact ⟨rfl, rfl⟩
set_option maxRecDepth 20000 in
theorem Index_nil (v : Value) (w : World) : Calls Tryz.prog 96 #[.slice none 0 0, v] w fun e w' => e = .returned (.int .i64 (-1)) ∧ w' = w := by
  go_enter Tryz.func96, Tryz.ntmps96
  go_wp2_with fail
  go_rounds 1
  go_wp2_with fail
  go_ret
  exact ⟨rfl, rfl⟩
set_option maxRecDepth 20000 in
theorem Delete_nil (v : Value) (w : World) : Calls Tryz.prog 51 #[.slice none 0 0, v] w fun e w' => e = .returned (.slice none 0 0) ∧ w' = w := by
  have hi := fun W => Index_nil v W
  go_enter Tryz.func51, Tryz.ntmps51
  go_wp2_with fail
  refine (hi _).mono ?_
  rintro e w2 ⟨rfl, rfl⟩
  go_wp2_with fail
  go_ret
  exact ⟨rfl, rfl⟩
set_option maxRecDepth 20000 in
theorem told_nil (q : Nat) (w : World) : Calls Tryz.prog 23 #[.pointer (some ⟨q, 0, none⟩), .slice none 0 0] w (ToF (evF []) w) := by
  have hs := fun W => Sort_nil W
  have hd := fun v W => Delete_nil v W
  have HB := Lib.hid (b_alloc w (.cells #[.pointer (some ⟨q, 0, none⟩)] 37))
  go_enter Tryz.func23, Tryz.ntmps23
  go_wp2_with fail
  refine (hs _).mono ?_
  rintro e w2 ⟨rfl, rfl⟩
  go_wp2_with fail
  refine (hd _ _).mono ?_
  rintro e w2 ⟨rfl, rfl⟩
  go_wp2_with fail
  go_ret
  exact ⟨_, rfl, ⟨Option.none, 0, rfl, Nat.le_refl _, Nat.zero_le _, fun h => absurd h (by simp)⟩, HB.out⟩
/-- The deal of terms. -/
def dealT (n K P R B M y : Nat) (S F G : Int) : Deal := ⟨n, K, P, R, B, M, S, F, G, dueD [] S, fun k => paysTo (rowF R y P M) (k + 1)⟩
theorem lst_mi {K R M P y : Nat} (hP : 0 < P) (h : LstK K R M P y) (hK : K = 1 ∨ K = 2) : mi R P ≤ y := by
  rcases hK with hK | hK
  · exact Nat.le_of_lt ((h.1 hK).gt hP)
  · exact Nat.le_of_eq (h.2 hK).symm
theorem dealT_ok {n K P R B M y : Nat} {S F G : Int} (h : Trm.Right ⟨K, P, R, B, M, S, F, G⟩) (hn : n < 4294967296) (hy : mi R P ≤ y) : (dealT n K P R B M y S F G).Ok := by
  have hP := h.P
  have hM := h.M
  have hS := h.S
  have hF := h.F
  have hG := h.G
  have hR := h.R
  dsimp only at hP hM hS hF hG hR
  refine ⟨hn, hP, hR.1, hR.2, by show 1 ≤ M ∧ M ≤ 480; omega, hS, hF, hG, fun k hk => ?_, fun k hk => ?_⟩
  · have hk' : k < M := hk
    have h1 := nextD_in [] _ _ rfl _ (dueD_is (l := []) (k := k) hS.1 hS.2 (by omega) (by simp))
    have h2 := due_after (l := []) (k := k) hS.1 hS.2 (by omega) (by simp)
    exact ⟨by show 0 ≤ dueD [] S k; omega, h1.2.1⟩
  · have hk' : k < M := hk
    have := pays_bd (F := rowF R y P M) (n := M) (fun j _ => row_bd hy (by omega) hR.1 j) (k + 1) (by omega)
    show -9223372036854775808 ≤ paysTo (rowF R y P M) (k + 1) ∧ paysTo (rowF R y P M) (k + 1) ≤ 9223372036854775807
    omega
def NewPost (o : Deal) (w : World) (e : Ending) (w' : World) : Prop := ∃ q, e = .returned (.tuple #[.pointer (some ⟨q, 0, none⟩), .nilIface]) ∧ w.heap.size ≤ q ∧ Below w.heap.size w w' ∧ Sto w' w'.heap.size q o
set_option maxRecDepth 100000 in
set_option maxHeartbeats 4000000 in
theorem New_any {n K P R B M y : Nat} {S F G : Int} (h : Trm.Right ⟨K, P, R, B, M, S, F, G⟩) (hy : LstK K R M P y) (w : World) (hw : Lens w) :
    Calls Tryz.prog 9 #[.int .u32 (n : Int), .agg #[.int .u8 (K : Int), .int .i64 (P : Int), .int .u32 (R : Int), .int .u8 (B : Int), .int .i64 (M : Int), .int .i32 S, .int .i64 F, .int .i64 G], .slice none 0 0] w (NewPost (dealT n K P R B M y S F G) w) := by
  have hD := fun W (hW : Lens W) => Dues_any h hy Option.none 0 0 [] W hW Rv.nil_ rfl (Nat.le_refl _) (fun v h => by cases h) (by decide)
  unfold Trm.v DuesPost at hD
  obtain ⟨C, hC⟩ : ∃ C : Array Value, C = #[.int .u8 (K : Int), .int .i64 (P : Int), .int .u32 (R : Int), .int .u8 (B : Int), .int .i64 (M : Int), .int .i32 S, .int .i64 F, .int .i64 G] := ⟨_, rfl⟩
  have hab := b_alloc w (.cells C 28)
  have hbe := Blk.new w 28 C
  obtain ⟨W1, hW⟩ : ∃ W, w.alloc (.cells C 28) = W := ⟨_, rfl⟩
  obtain ⟨eb, hE⟩ : ∃ j, w.heap.size = j := ⟨_, rfl⟩
  rw [hW] at hab hbe
  rw [hE] at hbe
  have HD := Lib.hid (hD W1 (hw.below hab))
  rw [hC] at hW hbe
  obtain ⟨q0, q1, q2, q3, q4, q5, q6, q7⟩ := blk8 hbe
  have HB := Lib.hid hab
  have HW := Lib.hid hW
  have HEB := Lib.hid hE
  have HE := Lib.hid hbe
  have HL := Lib.hid (hw.below hab)
  clear hab hbe hW hE hD hC hw
  go_enter Tryz.func9, Tryz.ntmps9
  go_upto_region 1 with (fail)
  rw [HW.out, HEB.out]
  clear HW
  go_wp2_with fail
  refine HD.out.mono ?_
  rintro e w2 ⟨g, rfl, hg, hb2, hk⟩
  have E2 := Lib.hid (HE.out.below hb2 HE.out.lt)
  have B2 := Lib.hid (HB.out.trans (hb2.mono HB.out.size))
  have L2 := Lib.hid (HL.out.below hb2)
  have K2 := Lib.hid hk
  obtain ⟨r0, r1, r2, r3, r4, r5, r6, r7⟩ := blk8 E2.out
  clear q0 q1 q2 q3 q4 q5 q6 q7 HE HB HL hb2 hk HD
  go_wp2_with fail
  have hbk := Blk.new w2 89 #[.int .u32 (n : Int), .int .u8 (K : Int), .int .i64 (P : Int), .int .u32 (R : Int), .int .u8 (B : Int), .int .i64 (M : Int), .int .i32 S, .int .i64 F, .int .i64 G, .slice (some ⟨g, 0, none⟩) M M]
  have hab := b_alloc w2 (.cells #[.int .u32 (n : Int), .int .u8 (K : Int), .int .i64 (P : Int), .int .u32 (R : Int), .int .u8 (B : Int), .int .i64 (M : Int), .int .i32 S, .int .i64 F, .int .i64 G, .slice (some ⟨g, 0, none⟩) M M] 89)
  go_ret2
  refine ⟨_, rfl, B2.out.size, B2.out.trans (hab.mono B2.out.size), hbk.lt, L2.out.below hab, (L2.out.below hab).lt, g, _, hbk, K2.out.below hab K2.out.lt, (K2.out.below hab K2.out.lt).lt, fun k hk => pairA_at _ hk⟩
end Go.Proofs.YtpbfipeinblfgaaGreatDoor
