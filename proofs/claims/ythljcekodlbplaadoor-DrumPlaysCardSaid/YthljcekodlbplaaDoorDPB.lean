/-
  The document's drum in memory: off, Read, Waits. Conditions: the rows are there.
  The document's drum in memory: a sector as it is flushed. Conditions: the rows are there.
-/
import Derived.Test.YthljcekodlbplaaDoorDPM
import Derived.Test.YthljcekodlbplaaDoorRowsH
import Derived.Test.YthljcekodlbplaaDoorJoinB
import Derived.Test.YthljcekodlbplaaDoorFlow
namespace Go.Proofs.YthljcekodlbplaaDoor
open Go.ChangeShapes Go.WideShapes Go.ChangeAt Go.RowKit

def segT : Lies Seg := ⟨fun s => [s.val], 1, fun _ => rfl, fun s u hu => by
  simp only [List.mem_cons, List.not_mem_nil, or_false] at hu
  subst hu
  rfl⟩
def deedT : Lies (Int × Seg) := ⟨fun d => [.int .i64 d.1, d.2.val], 2, fun _ => rfl, fun d u hu => by
  simp only [List.mem_cons, List.not_mem_nil, or_false] at hu
  rcases hu with rfl | rfl <;> rfl⟩
theorem rowDeed : RowOf deedT Tryd.prog 51 59 32 := RowOf.of (z := .agg #[.int .i64 0, .slice none 0 0]) Tryd.underlying51 (by kernel_rfl) rfl (by decide)
theorem rowSeg : RowOf segT Tryd.prog 50 31 24 := RowOf.of (z := .slice none 0 0) Tryd.underlying50 (by kernel_rfl) rfl (by decide)
set_option maxRecDepth 20000 in
set_option maxHeartbeats 1000000 in
theorem off_zero {w : World} {x : Nat} {v0 v1 : Value} (h : Blk w x 53 #[v0, v1, .int .i64 0]) :
    Calls Tryd.prog 20 #[.pointer (some ⟨x, 0, none⟩)] w fun e w' => e = .returned (.bool true) ∧ w' = w := by
  have c2 := h.cell 2
  simp at c2
  clear h
  go_enter Tryd.func20, Tryd.ntmps20
  go_wp2_with fail
  go_ret
  exact ⟨rfl, rfl⟩
set_option maxRecDepth 20000 in
set_option maxHeartbeats 1000000 in
theorem off_neg {w : World} {x : Nat} {v0 v1 : Value} {left : Int} (hl : left < 0) (h : Blk w x 53 #[v0, v1, .int .i64 left]) :
    Calls Tryd.prog 20 #[.pointer (some ⟨x, 0, none⟩)] w fun e w' => e = .returned (.bool false) ∧ w' = w := by
  have c2 := h.cell 2
  simp at c2
  have h0 : ¬ left = 0 := by omega
  have h1 : ¬ 0 < left := by omega
  clear h
  go_enter Tryd.func20, Tryd.ntmps20
  go_wp2_with fail
  go_ret
  exact ⟨rfl, rfl⟩
set_option maxRecDepth 20000 in
set_option maxHeartbeats 1000000 in
theorem off_pos {w : World} {x : Nat} {v0 v1 : Value} {left : Int} (hl : 0 < left) (hm : left ≤ 9223372036854775807) (h : Blk w x 53 #[v0, v1, .int .i64 left]) :
    Calls Tryd.prog 20 #[.pointer (some ⟨x, 0, none⟩)] w fun e w' => e = .returned (.bool false) ∧ w' = w.setCell ⟨x, 2, none⟩ (.int .i64 (left - 1)) := by
  have c2 := h.cell 2
  simp at c2
  have f2 := h.frozen 2
  have l2 := h.lt
  have h0 : ¬ left = 0 := by omega
  have i1 : IntKind.i64.wrap (left - 1) = left - 1 := by rw [IntKind.wrap_i64]; omega
  clear h
  go_enter Tryd.func20, Tryd.ntmps20
  go_wp2_with fail
  go_ret
  exact ⟨rfl, rfl⟩
/-- The bytes as the last deed has them. -/
def rdS (i : Nat) (s : Seg) (ds : List (Int × Seg)) : Seg := ds.foldl (fun out x => if x.1 = (i : Int) then x.2 else out) s
theorem rdS_l (i : Nat) : ∀ (ds : List (Int × Seg)) (s : Seg), (rdS i s ds).l = rdF i s.l (ds.map fun d => (d.1, d.2.l)) := by
  intro ds
  induction ds with
  | nil => intro s; rfl
  | cons x ds ih =>
    intro s
    show (rdS i (if x.1 = (i : Int) then x.2 else s) ds).l = rdF i (if x.1 = (i : Int) then x.2.l else s.l) _
    rw [ih]
    by_cases h : x.1 = (i : Int)
    · rw [if_pos h, if_pos h]
    · rw [if_neg h, if_neg h]
theorem rdS_take (i : Nat) (s : Seg) (ds : List (Int × Seg)) (k : Nat) (hk : k < ds.length) : rdS i s (ds.take (k + 1)) = if ds[k].1 = (i : Int) then ds[k].2 else rdS i s (ds.take k) := by
  rw [List.take_succ_eq_append_getElem hk]
  unfold rdS
  rw [List.foldl_append]
  rfl
set_option maxRecDepth 20000 in
set_option maxHeartbeats 2000000 in
theorem RRead_any {w : World} {x : Nat} {AF AD : Option Addr} {nF cF nD cD : Nat} {v2 : Value} (i : Nat) (gs : List Seg) (ds : List (Int × Seg)) (h : Blk w x 53 #[.slice AF nF cF, .slice AD nD cD, v2]) (hF : Rs segT w w.heap.size AF gs) (hnF : gs.length = nF) (hD : Rs deedT w w.heap.size AD ds) (hnD : ds.length = nD) (hi : i < gs.length) (hm : nF ≤ 100000) (hm2 : nD ≤ 100000) :
    Calls Tryd.prog 29 #[.pointer (some ⟨x, 0, none⟩), .int .i64 (i : Int)] w fun e w' => e = .returned (rdS i gs[i] ds).val ∧ Below w.heap.size w w' := by
  subst hnF hnD
  have c0 := h.cell 0
  have c1 := h.cell 1
  simp at c0 c1
  obtain ⟨bF, oF, rfl, hbF, hcF⟩ := hF.at_ hi
  have d0 := hcF 0 _ rfl
  obtain ⟨s0, hs0⟩ : ∃ s, gs[i] = s := ⟨_, rfl⟩
  rw [hs0] at d0 ⊢
  have d0 : w.cell? ⟨bF, oF + i, none⟩ = some (.slice s0.at_ s0.l.length s0.cap) := by
    have e : oF + (i * segT.k + 0) = oF + i := by show oF + (i * 1 + 0) = oF + i; omega
    rw [e] at d0
    exact d0
  have HD := Lib.hid hD
  clear hF hD hcF h hs0
  go_enter Tryd.func29, Tryd.ntmps29
  go_wp2_with fail
  go_loopw [5, 7, 20] (fun v _ j wr => ∃ (k : Nat), k ≤ ds.length ∧ j = .int .i64 k ∧ v = (rdS i s0 (ds.take k)).val ∧ Hid (Below w.heap.size w wr)) (fun _ _ j _ => ds.length - (intOf j).toNat)
  case atStart => exact ⟨0, Nat.zero_le _, rfl, rfl, Lib.hid (Below.refl _ _)⟩
  case round =>
    obtain ⟨k, hk, rfl, rfl, HB⟩ := hrel
    by_cases hlt : k < ds.length
    · obtain ⟨bD, oD, rfl, hbD, hcD⟩ := HD.out.at_ hlt
      have e0 := (HB.out.cell (p := ⟨bD, oD + (k * 2 + 0), none⟩) hbD).trans (hcD 0 _ rfl)
      have e1 := (HB.out.cell (p := ⟨bD, oD + (k * 2 + 1), none⟩) hbD).trans (hcD 1 _ rfl)
      rw [Nat.add_zero] at e0
      rw [← Nat.add_assoc] at e1
      have HT := Lib.hid (rdS_take i s0 ds k hlt)
      obtain ⟨a, ha⟩ : ∃ a, (ds[k]).1 = a := ⟨_, rfl⟩
      obtain ⟨s1, hs1⟩ : ∃ s, (ds[k]).2 = s := ⟨_, rfl⟩
      have HA := Lib.hid (And.intro ha hs1)
      rw [ha] at e0
      rw [hs1] at e1
      unfold Seg.val at e1
      have HB2 := Lib.hid (HB.out.alloc HB.out.size (.cells #[.int .i64 a, .slice s1.at_ s1.l.length s1.cap] 59))
      clear hcD hbD ha hs1
      by_cases hai : a = (i : Int)
      · have HAI := Lib.hid hai
        subst hai
        go_wp2_with fail
        go_roundw
        case rel => exact ⟨k + 1, by omega, by go_num, by rw [HT.out, HA.out.1, HA.out.2, if_pos rfl]; rfl, HB2⟩
        case measure => simp [intOf]; omega
      · have HAI := Lib.hid hai
        go_wp2_with fail
        go_roundw
        case rel => exact ⟨k + 1, by omega, by go_num, by rw [HT.out, HA.out.1, if_neg HAI.out], HB2⟩
        case measure => simp [intOf]; omega
    · obtain rfl : k = ds.length := by omega
      rw [List.take_of_length_le (Nat.le_refl _)]
      go_wp2_with fail
      go_ret
      exact ⟨rfl, HB.out⟩
/-- The deeds behind the last Flush. -/
def waS (ds : List (Int × Seg)) : List (Int × Seg) := ds.foldl (fun out x => if x.1 < 0 then [] else out ++ [x]) []
theorem waS_take (ds : List (Int × Seg)) (k : Nat) (hk : k < ds.length) : waS (ds.take (k + 1)) = if ds[k].1 < 0 then [] else waS (ds.take k) ++ [ds[k]] := by
  rw [List.take_succ_eq_append_getElem hk]
  unfold waS
  rw [List.foldl_append]
  rfl
theorem waS_map (ds : List (Int × Seg)) : (waS ds).map (fun d => (d.1, d.2.l)) = waR (ds.map fun d => (d.1, d.2.l)) := by
  induction ds using snocI with
  | h0 => rfl
  | h1 ds x ih =>
    have e := waS_take (ds ++ [x]) ds.length (by simp)
    rw [List.take_of_length_le (by simp), List.take_left, List.getElem_append_right (Nat.le_refl _)] at e
    rw [e, List.map_append, List.map_cons, List.map_nil, waR_snoc, ← ih]
    simp only [Nat.sub_self, List.getElem_cons_zero]
    by_cases h : x.1 < 0
    · rw [if_pos h, if_pos h]; rfl
    · rw [if_neg h, if_neg h]; simp
theorem waS_le (ds : List (Int × Seg)) : (waS ds).length ≤ ds.length := by
  have h := congrArg List.length (waS_map ds)
  rw [List.length_map] at h
  rw [h]
  obtain ⟨p, hp⟩ := waR_end (ds.map fun d => (d.1, d.2.l))
  have hl := congrArg List.length hp
  rw [List.length_append, List.length_map] at hl
  omega
set_option maxRecDepth 20000 in
set_option maxHeartbeats 2000000 in
theorem RWaits_any {w : World} {x : Nat} {AD : Option Addr} {nD cD : Nat} {v0 v2 : Value} (ds : List (Int × Seg)) (h : Blk w x 53 #[v0, .slice AD nD cD, v2]) (hD : Rs deedT w w.heap.size AD ds) (hnD : ds.length = nD) (hm2 : nD ≤ 100000) :
    Calls Tryd.prog 22 #[.pointer (some ⟨x, 0, none⟩)] w fun e w' => ∃ A c, e = .returned (.slice A (waS ds).length c) ∧ (waS ds).length ≤ c ∧ c ≤ maxLen ∧ OwnS deedT 59 w' w.heap.size (.slice A (waS ds).length c) (waS ds).length (waS ds) ∧ Below w.heap.size w w' := by
  subst hnD
  have c1 := h.cell 1
  simp at c1
  have HD := Lib.hid hD
  clear hD h
  go_enter Tryd.func22, Tryd.ntmps22
  go_wp2_with fail
  go_loopw [3, 5, 11] (fun v _ j wr => ∃ (k : Nat), k ≤ ds.length ∧ j = .int .i64 k ∧ Hid (OwnS deedT 59 wr w.heap.size v (waS (ds.take k)).length (waS (ds.take k))) ∧ Hid (Below w.heap.size w wr)) (fun _ _ j _ => ds.length - (intOf j).toNat)
  case atStart => exact ⟨0, Nat.zero_le _, rfl, Lib.hid (OwnS.nil_ _ _ _), Lib.hid (Below.refl _ _)⟩
  case round =>
    obtain ⟨k, hk, rfl, HO, HB⟩ := hrel
    by_cases hlt : k < ds.length
    · obtain ⟨bD, oD, rfl, hbD, hcD⟩ := HD.out.at_ hlt
      have e0 := (HB.out.cell (p := ⟨bD, oD + (k * 2 + 0), none⟩) hbD).trans (hcD 0 _ rfl)
      have e1 := (HB.out.cell (p := ⟨bD, oD + (k * 2 + 1), none⟩) hbD).trans (hcD 1 _ rfl)
      rw [Nat.add_zero] at e0
      rw [← Nat.add_assoc] at e1
      have HT := Lib.hid (waS_take ds k hlt)
      have hle := waS_le (ds.take k)
      rw [List.length_take] at hle
      obtain ⟨u, hu⟩ : ∃ u, ds[k] = u := ⟨_, rfl⟩
      rw [hu] at e0 e1 HT
      obtain ⟨a, s1⟩ := u
      unfold Seg.val at e1
      dsimp only at e0 e1
      obtain ⟨S, hS⟩ : ∃ S, waS (ds.take k) = S := ⟨_, rfl⟩
      rw [hS] at HT HO hle
      have HA2 := Lib.hid (HO.out.alloc (.cells #[.int .i64 a, .slice s1.at_ s1.l.length s1.cap] 59))
      have HB2 := Lib.hid (HB.out.alloc HB.out.size (.cells #[.int .i64 a, .slice s1.at_ s1.l.length s1.cap] 59))
      obtain ⟨g, hg⟩ : ∃ g, wr.heap.size = g := ⟨_, rfl⟩
      have HO3 := Lib.hid (HA2.out.alloc (.cells #[.int .i64 a, .slice s1.at_ s1.l.length s1.cap] 59))
      have HB3 := Lib.hid (HB2.out.alloc HB2.out.size (.cells #[.int .i64 a, .slice s1.at_ s1.l.length s1.cap] 59))
      have hk3 := Blk.new (wr.alloc (.cells #[.int .i64 a, .slice s1.at_ s1.l.length s1.cap] 59)) 59 #[.int .i64 a, .slice s1.at_ s1.l.length s1.cap]
      have hx3 := (Blk.new wr 59 #[.int .i64 a, .slice s1.at_ s1.l.length s1.cap]).alloc (.cells #[.int .i64 a, .slice s1.at_ s1.l.length s1.cap] 59)
      rw [show (wr.alloc (.cells #[.int .i64 a, .slice s1.at_ s1.l.length s1.cap] 59)).heap.size = wr.heap.size + 1 by simp] at hk3
      have HR3 := Lib.hid (Rs.block (T := deedT) (u := (a, s1)) hk3)
      have HX3 := Lib.hid hx3
      have HLT := Lib.hid (HO.out.lt)
      have hS1 : S.length ≤ 100000 := by omega
      clear hcD hbD hu hS HO hg hk3 hx3 hle
      go_wp2_with (with_reducible refine wpList_appendS (o := ⟨some 18, _, _, _, _, _⟩) rfl rowDeed (.tmp 15) (.tmp 17) rfl w.heap.size _ S.length S ?h1 HO3.out _ (some ⟨wr.heap.size + 1, 0, none⟩) 1 1 [(a, s1)] ?h2 HR3.out rfl ?h3 ?h4 ?h5 ?_)
      try (case h1 => rfl)
      try (case h2 => rfl)
      try (case h3 => unfold maxLen; omega)
      try (case h4 => omega)
      try (case h5 => have := HB.out.size; omega)
      intro v1 w2 ho1 hg1 _ _
      have hb1 : Below w.heap.size w w2 := HB3.out.grown hg1 HB3.out.size (fun g hg => (HO3.out.lt g hg).1)
      have hx2 := HX3.out.grown hg1 (fun e => by have := (HLT.out _ e.symm).2; omega)
      have x0 := hx2.cell 0
      simp at x0
      have HO1 := Lib.hid ho1
      have HB1 := Lib.hid hb1
      clear ho1 hg1 hb1 hx2 HO3 HR3 HX3 HB3 HB2 HA2 HLT
      by_cases ha : a < 0
      · have hT := HT.out
        rw [if_pos ha] at hT
        have HT2 := Lib.hid hT
        clear hT HT
        go_wp2_with fail
        go_roundw
        case rel => exact ⟨k + 1, by omega, by go_num, by rw [HT2.out]; exact Lib.hid (OwnS.nil_ _ _ _), HB1⟩
        case measure => simp [intOf]; omega
      · have hT := HT.out
        rw [if_neg ha] at hT
        have HT2 := Lib.hid hT
        clear hT HT
        go_wp2_with fail
        go_roundw
        case rel => exact ⟨k + 1, by omega, by go_num, by rw [HT2.out, List.length_append]; exact HO1, HB1⟩
        case measure => simp [intOf]; omega
    · obtain rfl : k = ds.length := by omega
      have ho := HO.out
      rw [List.take_of_length_le (Nat.le_refl _)] at ho
      obtain ⟨_, A, c, rfl, h1, h2, _⟩ := ho.form (by decide)
      have HO2 := Lib.hid ho
      clear ho HO
      go_wp2_with fail
      go_ret
      exact ⟨A, c, rfl, h1, h2, HO2.out, HB.out⟩
end Go.Proofs.YthljcekodlbplaaDoor
namespace Go.Proofs.YthljcekodlbplaaDoor
open Go.ChangeShapes Go.WideShapes Go.ChangeAt Go.RowKit

theorem enters9 {P : Program} {f : FuncId} {fn : Func} {c : Code} (hf : P.funcs[f]? = some fn) (hname : (fn.name == "runtime.NumGoroutine") = false) (hb : fn.body = some c) : ∀ args w, (callFunc f args).run P w = .ok (.enter f args) w := by
  intro args w
  have h1 : fn.name ≠ "runtime.NumGoroutine" := by simpa using hname
  simp [callFunc, hf, h1, hb, mark]
def lenF (n : Nat) : Flw := ⟨fun v _ => ∃ A c, v = .slice A n c, fun h _ => h⟩
theorem cWaits {x : Nat} {AD : Option Addr} {cD : Nat} {v0 v2 : Value} {ds : List (Int × Seg)} (w : World) (h : Blk w x 53 #[v0, .slice AD ds.length cD, v2]) (hD : Rs deedT w w.heap.size AD ds) (hm2 : ds.length ≤ 100000) :
    Calls Tryd.prog 22 #[.pointer (some ⟨x, 0, none⟩)] w (ToF (lenF (waS ds).length) w) := by
  refine (RWaits_any ds h hD rfl hm2).mono ?_
  rintro e w' ⟨A, c, rfl, -, -, -, hb⟩
  exact ⟨_, rfl, ⟨A, c, rfl⟩, hb⟩
set_option maxRecDepth 100000 in
set_option maxHeartbeats 4000000 in
theorem RSafe_any {w : World} {x : Nat} {AF AD : Option Addr} {nF cF nD cD : Nat} {v2 : Value} (i : Nat) (gs : List Seg) (ds : List (Int × Seg)) (h : Blk w x 53 #[.slice AF nF cF, .slice AD nD cD, v2]) (hF : Rs segT w w.heap.size AF gs) (hnF : gs.length = nF) (hD : Rs deedT w w.heap.size AD ds) (hnD : ds.length = nD) (hcD : nD ≤ cD) (hi : i < gs.length) (hm : nF ≤ 100000) (hm2 : nD ≤ 100000) :
    Calls Tryd.prog 21 #[.pointer (some ⟨x, 0, none⟩), .int .i64 (i : Int)] w fun e w' => e = .returned (rdS i gs[i] (ds.take (ds.length - (waS ds).length))).val ∧ Below w.heap.size w w' := by
  subst hnF hnD
  obtain ⟨bF, oF, rfl, hbF, hcF⟩ := hF.at_ hi
  have d0 := hcF 0 _ rfl
  obtain ⟨s0, hs0⟩ : ∃ s, gs[i] = s := ⟨_, rfl⟩
  rw [hs0] at d0 ⊢
  have d0 : w.cell? ⟨bF, oF + i, none⟩ = some (.slice s0.at_ s0.l.length s0.cap) := by
    have e : oF + (i * segT.k + 0) = oF + i := by show oF + (i * 1 + 0) = oF + i; omega
    rw [e] at d0
    exact d0
  have hle := waS_le ds
  obtain ⟨m, hmm⟩ : ∃ m, ds.length - (waS ds).length = m := ⟨_, rfl⟩
  have hmd : m ≤ ds.length := by omega
  have hmc : m ≤ cD := by omega
  have hsub : IntKind.i64.wrap ((ds.length : Int) - ((waS ds).length : Int)) = (m : Int) := by rw [IntKind.wrap_i64]; omega
  rw [hmm]
  have HX : ∀ W', Below w.heap.size w W' → Blk W' x 53 #[.slice (some ⟨bF, oF, none⟩) gs.length cF, .slice AD ds.length cD, v2] := fun W' hb => h.below hb h.lt
  have HDW : ∀ W', Below w.heap.size w W' → Rs deedT W' W'.heap.size AD ds := fun W' hb => (hD.below hb).more hb.size
  have C0 : ∀ W', Below w.heap.size w W' → W'.cell? ⟨x, 0, none⟩ = some (.slice (some ⟨bF, oF, none⟩) gs.length cF) ∧ W'.cell? ⟨x, 1, none⟩ = some (.slice AD ds.length cD) ∧ W'.cell? ⟨bF, oF + i, none⟩ = some (.slice s0.at_ s0.l.length s0.cap) := fun W' hb => by
    have c0 := (HX W' hb).cell 0
    have c1 := (HX W' hb).cell 1
    simp at c0 c1
    exact ⟨c0, c1, (hb.cell (p := ⟨bF, oF + i, none⟩) hbF).trans d0⟩
  have L1 : ∀ W', Below w.heap.size w W' → (Instr.loadAt 51 (.pointer (some ⟨x, 1, none⟩))).run Tryd.prog W' = .ok (.slice AD ds.length cD) W' := fun W' hb => by
    have c0 := (C0 W' hb).2.1
    go_simp
  have HC0 := Lib.hid C0
  have HDS := Lib.hid HDW
  clear hF hD hcF h hs0 d0 hmm hle hbF C0
  go_enter Tryd.func21, Tryd.ntmps21
  go_wp2_with fail
  refine wp_region_flow [some 9, some 10, some 11, some 12, some 13, some 14, some 15, some 16, some 17, some 5] (fun i => ([.is (.pointer (some ⟨x, 0, none⟩)), .is (.pointer (some ⟨x, 0, none⟩)), .is (.pointer (some ⟨x, 1, none⟩)), .is (.slice AD ds.length cD), .is (.int .i64 (ds.length : Int)), .is (.pointer (some ⟨x, 0, none⟩)), lenF (waS ds).length, .is (.int .i64 ((waS ds).length : Int)), .is (.int .i64 (m : Int)), .is (.int .i64 (m : Int))] : List Flw).getD i .any) (by kernel_rfl) (by kernel_rfl) rfl ?_ ?_
  · refine ⟨step_free rfl (fun aF wF hs hb => ?_), ?_⟩
    · obtain ⟨x0, -⟩ := hs
      have e0 : aF.eval (.tmp 0) = .pointer (some ⟨x, 0, none⟩) := x0
      exact opC_move e0 ⟨rfl, below_same wF⟩
    refine ⟨step_free rfl (fun aF wF hs hb => ?_), ?_⟩
    · obtain ⟨x0, -⟩ := hs
      have e0 : aF.eval (.tmp 9) = .pointer (some ⟨x, 0, none⟩) := x0
      refine opC_value (v := .pointer (some ⟨x, 0, none⟩)) ?_ ⟨rfl, below_same wF⟩
      have t0 := ev_of e0
      simp [execOp, go_sem, t0]
    refine ⟨step_free rfl (fun aF wF hs hb => ?_), ?_⟩
    · obtain ⟨x0, -⟩ := hs
      have e0 : aF.eval (.tmp 10) = .pointer (some ⟨x, 0, none⟩) := x0
      refine opC_value (v := .pointer (some ⟨x, 1, none⟩)) ?_ ⟨rfl, below_same wF⟩
      have t0 := ev_of e0
      simp [execOp, go_sem, t0]
    refine ⟨step_free rfl (fun aF wF hs hb => ?_), ?_⟩
    · obtain ⟨x0, -⟩ := hs
      have e0 : aF.eval (.tmp 11) = .pointer (some ⟨x, 1, none⟩) := x0
      exact opC_load e0 (L1 wF hb) ⟨rfl, below_same wF⟩
    refine ⟨step_free rfl (fun aF wF hs hb => ?_), ?_⟩
    · obtain ⟨x0, -⟩ := hs
      have e0 : aF.eval (.tmp 12) = .slice AD ds.length cD := x0
      refine opC_value (v := .int .i64 (ds.length : Int)) ?_ ⟨rfl, below_same wF⟩
      have t0 := ev_of e0
      simp [execOp, go_sem, t0]
    refine ⟨step_free rfl (fun aF wF hs hb => ?_), ?_⟩
    · obtain ⟨x0, -⟩ := hs
      have e0 : aF.eval (.tmp 0) = .pointer (some ⟨x, 0, none⟩) := x0
      exact opC_move e0 ⟨rfl, below_same wF⟩
    refine ⟨step_free rfl (fun aF wF hs hb => ?_), ?_⟩
    · obtain ⟨x0, -⟩ := hs
      have e0 : aF.eval (.tmp 14) = .pointer (some ⟨x, 0, none⟩) := x0
      exact opC_callF (args := #[.pointer (some ⟨x, 0, none⟩)]) (enters9 Tryd.func22 (by kernel_rfl) rfl) (by simp [e0]) (cWaits wF (HX wF hb) (HDW wF hb) hm2) (fun _ _ h1 h2 => ⟨h1, h2⟩)
    refine ⟨step_free rfl (fun aF wF hs hb => ?_), ?_⟩
    · obtain ⟨x0, -⟩ := hs
      obtain ⟨A9, c9, e0⟩ : (lenF (waS ds).length).p (aF.eval (.tmp 15)) wF := x0
      refine opC_value (v := .int .i64 ((waS ds).length : Int)) ?_ ⟨rfl, below_same wF⟩
      have t0 := ev_of e0
      simp [execOp, go_sem, t0]
    refine ⟨step_free rfl (fun aF wF hs hb => ?_), ?_⟩
    · obtain ⟨x0, x1, -⟩ := hs
      have e0 : aF.eval (.tmp 13) = .int .i64 (ds.length : Int) := x0
      have e1 : aF.eval (.tmp 16) = .int .i64 ((waS ds).length : Int) := x1
      refine opC_value (v := .int .i64 (m : Int)) ?_ ⟨rfl, below_same wF⟩
      simp [execOp, go_sem, ev_of e0, ev_of e1, hsub]
    refine ⟨step_free rfl (fun aF wF hs hb => ?_), ?_⟩
    · obtain ⟨x0, -⟩ := hs
      have e0 : aF.eval (.tmp 17) = .int .i64 (m : Int) := x0
      exact opC_assign e0 ⟨rfl, below_same wF⟩
    exact trivial
  · intro f w1 hf hb1
    have h9 : f 9 = .int .i64 (m : Int) := hf 9 5 rfl
    simp only [putF, Act.put, List.setIfInBounds_toArray, List.set_cons_zero, List.set_cons_succ]
    rw [h9]
    obtain ⟨c0, c1, d0⟩ := HC0.out w1 hb1
    have HD := Lib.hid (HDS.out w1 hb1)
    have HBW := Lib.hid hb1
    clear hf h9 hb1 L1 HX HDW HC0 HDS
    go_wp2_with fail
    go_loopw [6, 8, 32] (fun v _ j wr => ∃ (k : Nat), k ≤ m ∧ j = .int .i64 k ∧ v = (rdS i s0 (ds.take k)).val ∧ Hid (Below w1.heap.size w1 wr)) (fun _ _ j _ => m - (intOf j).toNat)
    case atStart => exact ⟨0, Nat.zero_le _, rfl, rfl, Lib.hid (Below.refl _ _)⟩
    case round =>
      obtain ⟨k, hk, rfl, rfl, HB⟩ := hrel
      by_cases hlt : k < m
      · obtain ⟨bD, oD, rfl, hbD, hcD⟩ := HD.out.at_ (k := k) (by omega)
        have e0 := (HB.out.cell (p := ⟨bD, oD + (k * 2 + 0), none⟩) hbD).trans (hcD 0 _ rfl)
        have e1 := (HB.out.cell (p := ⟨bD, oD + (k * 2 + 1), none⟩) hbD).trans (hcD 1 _ rfl)
        rw [Nat.add_zero] at e0
        rw [← Nat.add_assoc] at e1
        have HT := Lib.hid (rdS_take i s0 ds k (by omega))
        obtain ⟨a, ha⟩ : ∃ a, (ds[k]'(by omega)).1 = a := ⟨_, rfl⟩
        obtain ⟨s1, hs1⟩ : ∃ s, (ds[k]'(by omega)).2 = s := ⟨_, rfl⟩
        have HA := Lib.hid (And.intro ha hs1)
        rw [ha] at e0
        rw [hs1] at e1
        unfold Seg.val at e1
        have HB2 := Lib.hid (HB.out.alloc HB.out.size (.cells #[.int .i64 a, .slice s1.at_ s1.l.length s1.cap] 59))
        clear hcD hbD ha hs1
        by_cases hai : a = (i : Int)
        · have HAI := Lib.hid hai
          subst hai
          go_wp2_with fail
          go_roundw
          case rel => exact ⟨k + 1, by omega, by go_num, by rw [HT.out, HA.out.1, HA.out.2, if_pos rfl]; rfl, HB2⟩
          case measure => simp [intOf]; omega
        · have HAI := Lib.hid hai
          go_wp2_with fail
          go_roundw
          case rel => exact ⟨k + 1, by omega, by go_num, by rw [HT.out, HA.out.1, if_neg HAI.out], HB2⟩
          case measure => simp [intOf]; omega
      · obtain rfl : k = m := by omega
        go_wp2_with fail
        go_ret
        exact ⟨rfl, HBW.out.trans (HB.out.mono HBW.out.size)⟩
end Go.Proofs.YthljcekodlbplaaDoor
