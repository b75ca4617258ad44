/-
  The law's few, take whole, the document's example. Conditions: the values are there.
-/
import Derived.Test.YtbfekonlgbolcabDoorQuJ
import Derived.Test.YtbfekonlgbolcabDoorSame
namespace Go.Proofs.YtbfekonlgbolcabDoor
open Go.ChangeShapes Go.WideShapes Go.ChangeAt Go.RowKit

set_option maxRecDepth 20000 in
set_option maxHeartbeats 1000000 in
theorem Text40_any (s : ByteArray) (hs : s.size ≤ maxLen) (w : World) :
    Calls Tryd.prog 15 #[.string s, .int .i64 40] w fun e w' => (∃ s' : ByteArray, s'.size ≤ 40 ∧ e = .returned (.string s')) ∧ w = w' := by
  unfold maxLen at hs
  by_cases h : s.size ≤ 40
  · have h2 : min (s.size : Int) 40 = (s.size : Int) := by omega
    go_enter Tryd.func15, Tryd.ntmps15
    go_wp2_with fail
    go_ret
    refine ⟨⟨_, ?_, rfl⟩, rfl⟩
    first | exact h | (simp [ByteArray.size_extract] <;> omega)
  · go_enter Tryd.func15, Tryd.ntmps15
    go_wp2_with fail
    go_ret
    refine ⟨⟨_, ?_, rfl⟩, rfl⟩
    first | exact h | (simp [ByteArray.size_extract] <;> omega)

section
variable (b g : Nat)
theorem take_any (v : Val) (hv : v.Ok) (st : Option (List UInt8)) (w : World) (h : Ln w b g st) (hg : g < w.heap.size) :
    Calls Tryd.prog 10 #[.pointer (some ⟨b, 0, none⟩), v.enc] w (TOPost b g v w st) := by
  obtain ⟨k, u, i, s, m⟩ := v
  obtain ⟨hk, hu, hi, hs, hm⟩ := hv
  simp only at hk hm
  unfold TOPost takeO takeR Val.enc
  simp only
  by_cases h0 : k % 4 = 0
  · rw [if_pos h0, if_pos h0]
    exact take_k0 b g k u m i s hk hm (by omega) st w h hg
  rw [if_neg h0, if_neg h0]
  by_cases h1 : k % 4 = 1
  · rw [if_pos h1, if_pos h1]
    exact take_k1 b g k u m i s hk hm (by omega) st w h hg
  rw [if_neg h1, if_neg h1]
  by_cases h2 : k % 4 = 2
  · rw [if_pos h2, if_pos h2]
    by_cases hf : uV 1 st = 1
    · rw [if_pos hf]
      exact take_k2t b g k u m i s hk hm (by omega) st w h hg (by rw [hf]; rfl)
    · rw [if_neg hf]
      exact take_k2f b g k u m i s hk hm (by omega) st w h hg (by rw [beq_eq_false_iff_ne]; exact hf)
  rw [if_neg h2, if_neg h2]
  exact take_k3 b g k u m i s hk hm (by omega) st w h hg
end

/-- What few leaves of a value. -/
structure Val.Good (v : Val) : Prop where
  ok : v.Ok
  s : v.s.size ≤ 40
  m : v.k % 4 = 3 → v.m < 1000
def FVPost (w : World) (e : Ending) (w' : World) : Prop :=
  ∃ (A : Option Addr) (c : Nat) (l : List Val), e = .returned (.slice A l.length c) ∧ l.length ≤ c ∧ c ≤ maxLen ∧ l.length ≤ 12 ∧ (∀ v ∈ l, v.Good) ∧ Rvs w' w'.heap.size A l ∧ Below w.heap.size w w'

theorem OwnV.set {w : World} {b n X i : Nat} {v y : Value} {l : List Val} (h : OwnV w b v n l) (hX : ∀ g, v.ownBlock = some g → g ≠ X) : OwnV (w.setCell ⟨X, i, none⟩ y) b v n l := by
  unfold OwnV at h ⊢
  refine World.ownsRow.kept h (row := some X) (grown_setCell (grown_refl w (some X)) (p := ⟨X, i, none⟩) (.inl rfl) y) ?_
  cases hv : v.ownBlock with
  | none => exact .inl rfl
  | some g => exact .inr (fun e => hX g hv (by injection e))

set_option maxRecDepth 20000 in
set_option maxHeartbeats 2000000 in
theorem few_any (A : Option Addr) (n c B : Nat) (l : List Val) (w : World) (hR : Rvs w B A l) (hn : l.length = n) (hm : n ≤ maxLen) (hB : B ≤ w.heap.size) (hin : ∀ u ∈ l, u.In) :
    Calls Tryd.prog 8 #[.slice A n c] w (FVPost w) := by
  subst hn
  unfold maxLen at hm
  have HR := Lib.hid hR
  have HIN := Lib.hid hin
  clear hR hin
  go_enter Tryd.func8, Tryd.ntmps8
  go_wp2_with fail
  go_loopw [3, 8] (fun v i wr => ∃ (k : Nat) (vs : List Val), k ≤ l.length ∧ i = .int .i64 k ∧ vs.length = min k 12 ∧ Hid (∀ x ∈ vs, x.Good) ∧ Hid (OwnV wr w.heap.size v vs.length vs) ∧ Hid (Below w.heap.size w wr)) (fun _ i _ => l.length - (intOf i).toNat)
  case atStart => exact ⟨0, [], Nat.zero_le _, rfl, rfl, Lib.hid (fun x hx => nomatch hx), Lib.hid (World.ownsRow_nil w w.heap.size 31 5), Lib.hid (Below.refl _ _)⟩
  case round =>
    obtain ⟨k, vs, hk, rfl, hvl, HG, HO, HBL⟩ := hrel
    have HVL := Lib.hid hvl
    have hvl2 : vs.length ≤ 12 := by omega
    clear hvl
    by_cases hlt : k < l.length
    · obtain ⟨b, o, rfl, hb, x0, x1, x2, x3, x4⟩ := HR.out.at_ hlt
      have hval := HIN.out l[k] (List.getElem_mem hlt)
      obtain ⟨V, hV⟩ : ∃ V, l[k] = V := ⟨_, rfl⟩
      rw [hV] at x0 x1 x2 x3 x4 hval
      obtain ⟨vk, vu, vi, vs', vm⟩ := V
      obtain ⟨hvk, hvu, hvi, hvs, hvm⟩ := hval
      simp only at x0 x1 x2 x3 x4 hvk hvu hvi hvs hvm
      have hbw : b < w.heap.size := Nat.lt_of_lt_of_le hb hB
      have y0 := (HBL.out.cell (p := ⟨b, o + (k * 5 + 0), none⟩) hbw).trans x0
      have y1 := (HBL.out.cell (p := ⟨b, o + (k * 5 + 1), none⟩) hbw).trans x1
      have y2 := (HBL.out.cell (p := ⟨b, o + (k * 5 + 2), none⟩) hbw).trans x2
      have y3 := (HBL.out.cell (p := ⟨b, o + (k * 5 + 3), none⟩) hbw).trans x3
      have y4 := (HBL.out.cell (p := ⟨b, o + (k * 5 + 4), none⟩) hbw).trans x4
      rw [← Nat.add_assoc] at y0 y1 y2 y3 y4
      rw [Nat.add_zero] at y0
      clear x0 x1 x2 x3 x4 hV
      by_cases hmk : k < 12
      · have hT := fun W => Text40_any vs' hvs W
        have hlto := World.ownsRow.lt HO.out
        have hsz := HBL.out.size
        go_wp2_with fail
        refine (hT _).mono ?_
        rintro e w2 ⟨⟨s', hs', rfl⟩, rfl⟩
        have hK2 := Blk.new wr 31 #[.int .u8 (vk : Int), .int .u64 (vu : Int), .int .i64 vi, .string vs', .int .u64 (vm : Int)]
        have hO2 := HO.out.alloc (.cells #[.int .u8 (vk : Int), .int .u64 (vu : Int), .int .i64 vi, .string vs', .int .u64 (vm : Int)] 31)
        have hB2 := HBL.out.alloc hsz (.cells #[.int .u8 (vk : Int), .int .u64 (vu : Int), .int .i64 vi, .string vs', .int .u64 (vm : Int)] 31)
        obtain ⟨w2, hw2⟩ : ∃ W, wr.alloc (.cells #[.int .u8 (vk : Int), .int .u64 (vu : Int), .int .i64 vi, .string vs', .int .u64 (vm : Int)] 31) = W := ⟨_, rfl⟩
        rw [hw2] at hK2 hO2 hB2
        try rw [hw2]
        have x3a := hK2.cell 3
        have x3b := hK2.frozen 3
        simp at x3a
        have hK3 := hK2.set_ 3 (.string s')
        have hO3 : OwnV (w2.setCell ⟨wr.heap.size, 3, none⟩ (.string s')) w.heap.size _ vs.length vs := hO2.set (fun g hg => by have := (hlto g hg).2; omega)
        have hB3 : Below w.heap.size w (w2.setCell ⟨wr.heap.size, 3, none⟩ (.string s')) := hB2.setCell hsz _
        obtain ⟨w3, hw3⟩ : ∃ W, w2.setCell ⟨wr.heap.size, 3, none⟩ (.string s') = W := ⟨_, rfl⟩
        rw [hw3] at hK3 hO3 hB3
        have hK3' : Blk w3 wr.heap.size 31 #[.int .u8 (vk : Int), .int .u64 (vu : Int), .int .i64 vi, .string s', .int .u64 (vm : Int)] := by simpa using hK3
        have z0 := hK3'.cell 0
        have z4 := hK3'.cell 4
        have z4b := hK3'.frozen 4
        simp at z0 z4
        clear hK2 hO2 hB2 hK3 hT y0 y1 y2 y3 y4
        have hw2c := hw2
        by_cases h3 : vk % 4 = 3
        · have h3' : (vk : Int) % 4 = 3 := by omega
          have hK4' := hK3'.set_ 4 (.int .u64 ((vm : Int) % 1000))
          have hO4' : OwnV (w3.setCell ⟨wr.heap.size, 4, none⟩ (.int .u64 ((vm : Int) % 1000))) w.heap.size _ vs.length vs := hO3.set (fun g hg => by have := (hlto g hg).2; omega)
          have hB4' : Below w.heap.size w (w3.setCell ⟨wr.heap.size, 4, none⟩ (.int .u64 ((vm : Int) % 1000))) := hB3.setCell hsz _
          obtain ⟨w4, hw4⟩ : ∃ W, w3.setCell ⟨wr.heap.size, 4, none⟩ (.int .u64 ((vm : Int) % 1000)) = W := ⟨_, rfl⟩
          rw [hw4] at hK4' hO4' hB4'
          obtain ⟨mm, hmm⟩ : ∃ mm : Nat, vm % 1000 = mm := ⟨_, rfl⟩
          have hmm2 : (vm : Int) % 1000 = (mm : Int) := by omega
          have hmm3 : mm < 1000 := by omega
          rw [hmm2] at hK4' hw4
          have hK4 : Blk w4 wr.heap.size 31 #[.int .u8 (vk : Int), .int .u64 (vu : Int), .int .i64 vi, .string s', .int .u64 (mm : Int)] := by simpa using hK4'
          have hO4 := hO4'
          have hB4 := hB4'
          clear hK4' hO4' hB4' hO3 hB3 hK3' hmm
          have hld0 := hK4.cell 0
          have hld1 := hK4.cell 1
          have hld2 := hK4.cell 2
          have hld3 := hK4.cell 3
          have hld4 := hK4.cell 4
          simp at hld0 hld1 hld2 hld3 hld4
          have hsz4 : w.heap.size ≤ w4.heap.size := hB4.size
          have HO5 := Lib.hid (hO4.alloc (.cells #[.int .u8 (vk : Int), .int .u64 (vu : Int), .int .i64 vi, .string s', .int .u64 (mm : Int)] 31))
          have HR5 : Hid (∀ (i : Nat) y, (⟨vk, vu, vi, s', mm⟩ : Val).cells[i]? = some y → (w4.alloc (.cells #[.int .u8 (vk : Int), .int .u64 (vu : Int), .int .i64 vi, .string s', .int .u64 (mm : Int)] 31)).cell? ⟨w4.heap.size, i, none⟩ = some y) := Lib.hid (fun i y hy => by
            have h := (Blk.new w4 31 #[.int .u8 (vk : Int), .int .u64 (vu : Int), .int .i64 vi, .string s', .int .u64 (mm : Int)]).cell i
            rw [h, ← hy]
            simp [Val.cells] <;> rfl)
          have HB5 := Lib.hid (hB4.alloc hsz4 (.cells #[.int .u8 (vk : Int), .int .u64 (vu : Int), .int .i64 vi, .string s', .int .u64 (mm : Int)] 31))
          have HGD : Hid (⟨vk, vu, vi, s', mm⟩ : Val).Good := Lib.hid ⟨⟨hvk, hvu, hvi, by show s'.size ≤ 1000; omega, by show mm < _; omega⟩, hs', fun h => by have h' : vk % 4 = 3 := h; show mm < 1000; omega⟩
          clear hK4 hO4 hB4
          go_wp2_with (with_reducible refine wpList_appendV (o := ⟨some 30, _, _, _, _, _⟩) rfl (.tmp 27) (.tmp 29) rfl w.heap.size _ vs.length vs ?h1 HO5.out w4.heap.size ⟨vk, vu, vi, s', mm⟩ ?h2 HR5.out ?h3 ?h4 ?_)
          try (case h1 => rfl)
          try (case h2 => rfl)
          case h3 => omega
          case h4 => simp; omega
          intro v6 w6 hown hg
          have hb6 : Below w.heap.size w w6 := HB5.out.grown hg HB5.out.size (fun g hg => (World.ownsRow.lt HO5.out g hg).1)
          have HO6 := Lib.hid hown
          have HB6 := Lib.hid hb6
          clear hown hg hb6 hld0 hld1 hld2 hld3 hld4
          go_wp2_with fail
          go_roundw
          case rel =>
            refine ⟨k + 1, vs ++ [⟨vk, vu, vi, s', mm⟩], by omega, by go_num, by have := HVL.out; simp; omega, Lib.hid (fun x hx => ?_), Lib.hid (by rw [List.length_append]; exact HO6.out), HB6⟩
            rcases List.mem_append.1 hx with hx | hx
            · exact HG.out x hx
            · rw [List.mem_singleton.1 hx]; exact HGD.out
          case measure => simp [intOf]; omega
        · have h3' : ¬ (vk : Int) % 4 = 3 := by omega
          have h3b : ((vk : Int) % 4 == 3) = false := by rw [beq_eq_false_iff_ne]; exact h3'
          obtain ⟨w4, hw4⟩ : ∃ W, w3 = W := ⟨_, rfl⟩
          subst hw4
          have hK4 := hK3'
          have hO4 := hO3
          have hB4 := hB3
          clear hO3 hB3 hK3'
          have hld0 := hK4.cell 0
          have hld1 := hK4.cell 1
          have hld2 := hK4.cell 2
          have hld3 := hK4.cell 3
          have hld4 := hK4.cell 4
          simp at hld0 hld1 hld2 hld3 hld4
          have hsz4 : w.heap.size ≤ w3.heap.size := hB4.size
          have HO5 := Lib.hid (hO4.alloc (.cells #[.int .u8 (vk : Int), .int .u64 (vu : Int), .int .i64 vi, .string s', .int .u64 (vm : Int)] 31))
          have HR5 : Hid (∀ (i : Nat) y, (⟨vk, vu, vi, s', vm⟩ : Val).cells[i]? = some y → (w3.alloc (.cells #[.int .u8 (vk : Int), .int .u64 (vu : Int), .int .i64 vi, .string s', .int .u64 (vm : Int)] 31)).cell? ⟨w3.heap.size, i, none⟩ = some y) := Lib.hid (fun i y hy => by
            have h := (Blk.new w3 31 #[.int .u8 (vk : Int), .int .u64 (vu : Int), .int .i64 vi, .string s', .int .u64 (vm : Int)]).cell i
            rw [h, ← hy]
            simp [Val.cells] <;> rfl)
          have HB5 := Lib.hid (hB4.alloc hsz4 (.cells #[.int .u8 (vk : Int), .int .u64 (vu : Int), .int .i64 vi, .string s', .int .u64 (vm : Int)] 31))
          have HGD : Hid (⟨vk, vu, vi, s', vm⟩ : Val).Good := Lib.hid ⟨⟨hvk, hvu, hvi, by show s'.size ≤ 1000; omega, by show vm < _; omega⟩, hs', fun h => by have h' : vk % 4 = 3 := h; show vm < 1000; omega⟩
          clear hK4 hO4 hB4
          go_wp2_with (with_reducible refine wpList_appendV (o := ⟨some 30, _, _, _, _, _⟩) rfl (.tmp 27) (.tmp 29) rfl w.heap.size _ vs.length vs ?h1 HO5.out w3.heap.size ⟨vk, vu, vi, s', vm⟩ ?h2 HR5.out ?h3 ?h4 ?_)
          try (case h1 => rfl)
          try (case h2 => rfl)
          case h3 => omega
          case h4 => simp; omega
          intro v6 w6 hown hg
          have hb6 : Below w.heap.size w w6 := HB5.out.grown hg HB5.out.size (fun g hg => (World.ownsRow.lt HO5.out g hg).1)
          have HO6 := Lib.hid hown
          have HB6 := Lib.hid hb6
          clear hown hg hb6 hld0 hld1 hld2 hld3 hld4
          go_wp2_with fail
          go_roundw
          case rel =>
            refine ⟨k + 1, vs ++ [⟨vk, vu, vi, s', vm⟩], by omega, by go_num, by have := HVL.out; simp; omega, Lib.hid (fun x hx => ?_), Lib.hid (by rw [List.length_append]; exact HO6.out), HB6⟩
            rcases List.mem_append.1 hx with hx | hx
            · exact HG.out x hx
            · rw [List.mem_singleton.1 hx]; exact HGD.out
          case measure => simp [intOf]; omega
      · have hO2 := HO.out.alloc (.cells #[.int .u8 (vk : Int), .int .u64 (vu : Int), .int .i64 vi, .string vs', .int .u64 (vm : Int)] 31)
        have hB2 := HBL.out.alloc HBL.out.size (.cells #[.int .u8 (vk : Int), .int .u64 (vu : Int), .int .i64 vi, .string vs', .int .u64 (vm : Int)] 31)
        have HO2 := Lib.hid hO2
        have HB2 := Lib.hid hB2
        clear hO2 hB2
        go_wp2_with fail
        go_roundw
        case rel => exact ⟨k + 1, vs, by omega, by go_num, by have := HVL.out; omega, HG, HO2, HB2⟩
        case measure => simp [intOf]; omega
    · go_wp2_with fail
      go_ret
      have h := HO.out
      obtain ⟨hl1, A1, c1, hv1, hc1, hm1, hr1⟩ := own_formV h
      exact ⟨A1, c1, vs, by rw [hv1]; rfl, hc1, hm1, by omega, HG.out, hr1, HBL.out⟩
end Go.Proofs.YtbfekonlgbolcabDoor
