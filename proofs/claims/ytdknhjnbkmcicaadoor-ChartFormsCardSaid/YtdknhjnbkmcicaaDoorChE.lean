/-
  The law's key and own: as the document has them. Conditions: the rows are there.
-/
import Derived.Test.YtdknhjnbkmcicaaDoorChD
namespace Go.Proofs.YtdknhjnbkmcicaaDoor
open Go.ChangeShapes Go.WideShapes Go.ChangeAt Go.RowKit

theorem Make_any (y : Ky) (A : Option Addr) (n c B : Nat) (L : List (Nat × Int)) (w : World) (hR : Rs legT w B A L) (hn : L.length = n) (hm : n ≤ 1000) (hB : B ≤ w.heap.size) (hI : ∀ u ∈ L, LegIn u) :
    Calls Tryd.prog 6 #[y.v, .slice A n c] w (MakePost y L w) := by
  by_cases h : okL L
  · exact Make_ok y A n c B L w hR hn hm hB hI h
  · exact Make_no y A n c B L w hR hn hm hB hI h
theorem mkL_in (L : List (Nat × Int)) : ∀ u ∈ mkL L, LegIn u := by
  intro u hu
  by_cases h : okL L
  · rw [mkL_ok h] at hu
    obtain ⟨a, ha, rfl⟩ := List.mem_map.1 hu
    exact ⟨(keysA_mem.1 ha).1, sumA_fit L a⟩
  · rw [mkL_no h] at hu
    cases hu
theorem mkL_len (L : List (Nat × Int)) : (mkL L).length ≤ 256 := by
  by_cases h : okL L
  · rw [mkL_ok h, List.length_map]
    have := keysTo_len L 256
    exact this
  · rw [mkL_no h]
    exact Nat.zero_le _
set_option maxRecDepth 100000 in
theorem fin_key {w W : World} {T : Array Value} {y : Ky} {g : Nat} (hB : Below w.heap.size w W) (hQ : Blk W g 43 #[.int .u32 (y.a : Int), .int .i32 y.d, .int .u8 (y.k : Int), .int .u32 (y.s : Int)]) (h2 : T[2]? = some (.pointer (some ⟨g, 0, none⟩))) :
    bodyPost Tryd.prog Tryd.f35 (Ret y.v w) Exit.ret { tmps := T, defers := [] } W := by
  have c0 := hQ.cell 0
  have c1 := hQ.cell 1
  have c2 := hQ.cell 2
  have c3 := hQ.cell 3
  simp at c0 c1 c2 c3
  refine bodyPost_ret (v := y.v) ?_ rfl ⟨rfl, hB⟩
  unfold Ky.v
  simp [results, Tryd.results35, go_sem, h2, c0, c1, c2, c3, Result.andThen]
set_option maxRecDepth 100000 in
set_option maxHeartbeats 4000000 in
theorem Key_any (y : Ky) (w : World) : Calls Tryd.prog 35 #[y.v] w (Ret y.v w) := by
  unfold Ky.v
  have HQ0 := Lib.hid ((Blk.new w 25 #[.int .u32 (y.a : Int), .int .i32 y.d, .int .u8 (y.k : Int), .int .u32 (y.s : Int)]).alloc (.cells #[.int .u32 (y.a : Int), .int .i32 y.d, .int .u8 (y.k : Int), .int .u32 (y.s : Int)] 43))
  have HB0 := Lib.hid ((b_alloc w (.cells #[.int .u32 (y.a : Int), .int .i32 y.d, .int .u8 (y.k : Int), .int .u32 (y.s : Int)] 25)).alloc (by simp) (.cells #[.int .u32 (y.a : Int), .int .i32 y.d, .int .u8 (y.k : Int), .int .u32 (y.s : Int)] 43))
  have HE0 : Hid (Blk ((w.alloc (.cells #[.int .u32 (y.a : Int), .int .i32 y.d, .int .u8 (y.k : Int), .int .u32 (y.s : Int)] 25)).alloc (.cells #[.int .u32 (y.a : Int), .int .i32 y.d, .int .u8 (y.k : Int), .int .u32 (y.s : Int)] 43)) (w.heap.size + 1) 43 #[.int .u32 (y.a : Int), .int .i32 y.d, .int .u8 (y.k : Int), .int .u32 (y.s : Int)]) := Lib.hid (by
    have h := Blk.new (w.alloc (.cells #[.int .u32 (y.a : Int), .int .i32 y.d, .int .u8 (y.k : Int), .int .u32 (y.s : Int)] 25)) 43 #[.int .u32 (y.a : Int), .int .i32 y.d, .int .u8 (y.k : Int), .int .u32 (y.s : Int)]
    rw [show (w.alloc (.cells #[.int .u32 (y.a : Int), .int .i32 y.d, .int .u8 (y.k : Int), .int .u32 (y.s : Int)] 25)).heap.size = w.heap.size + 1 by simp] at h
    exact h)
  go_enter Tryd.func35, Tryd.ntmps35
  go_wp2_with fail
  exact fin_key (y := y) HB0.out HE0.out rfl
def OwnPost13 (y : Ky) (l : List (Nat × Int)) (w : World) (e : Ending) (w' : World) : Prop :=
  ∃ (A : Option Addr) (c : Nat), e = .returned (entV y (.slice A l.length c)) ∧ OwnS legT 78 w' w.heap.size (.slice A l.length c) l.length l ∧ Below w.heap.size w w'
set_option maxRecDepth 100000 in
theorem fin_own {w W : World} {T : Array Value} {y : Ky} {l : List (Nat × Int)} {A : Option Addr} {c g : Nat} (hB : Below w.heap.size w W) (hQ : Blk W g 46 (entC y (.slice A l.length c)))
    (hO : OwnS legT 78 W w.heap.size (.slice A l.length c) l.length l) (h2 : T[2]? = some (.pointer (some ⟨g, 0, none⟩))) :
    bodyPost Tryd.prog Tryd.f13 (OwnPost13 y l w) Exit.ret { tmps := T, defers := [] } W := by
  unfold entC at hQ
  have c0 := hQ.cell 0
  have c1 := hQ.cell 1
  have c2 := hQ.cell 2
  have c3 := hQ.cell 3
  have c4 := hQ.cell 4
  simp at c0 c1 c2 c3 c4
  refine bodyPost_ret (v := entV y (.slice A l.length c)) ?_ rfl ⟨A, c, rfl, hO, hB⟩
  unfold entV entC
  simp [results, Tryd.results13, go_sem, h2, c0, c1, c2, c3, c4, Result.andThen]
theorem rentNe : (46 : TypeId) ≠ 78 := by decide
set_option maxRecDepth 100000 in
set_option maxHeartbeats 4000000 in
theorem Own_any (y : Ky) (A : Option Addr) (n c B : Nat) (l : List (Nat × Int)) (w : World) (hR : Rs legT w B A l) (hn : l.length = n) (hm : n ≤ 100000) (hB : B ≤ w.heap.size) (hI : ∀ u ∈ l, LegIn u) :
    Calls Tryd.prog 13 #[entV y (.slice A n c)] w (OwnPost13 y l w) := by
  subst hn
  have hK := fun W => Key_any y W
  have HR := Lib.hid hR
  have HI := Lib.hid hI
  clear hR hI
  unfold Ky.v at hK
  unfold entV entC
  have HQ0 := Lib.hid ((Blk.new w 32 #[.int .u32 (y.a : Int), .int .i32 y.d, .int .u8 (y.k : Int), .int .u32 (y.s : Int), .slice A l.length c]).alloc (.cells #[.int .u32 0, .int .i32 0, .int .u8 0, .int .u32 0, .slice Option.none 0 0] 46))
  have HE0 : Hid (Blk ((w.alloc (.cells #[.int .u32 (y.a : Int), .int .i32 y.d, .int .u8 (y.k : Int), .int .u32 (y.s : Int), .slice A l.length c] 32)).alloc (.cells #[.int .u32 0, .int .i32 0, .int .u8 0, .int .u32 0, .slice Option.none 0 0] 46)) (w.heap.size + 1) 46 #[.int .u32 0, .int .i32 0, .int .u8 0, .int .u32 0, .slice Option.none 0 0]) := Lib.hid (by
    have h := Blk.new (w.alloc (.cells #[.int .u32 (y.a : Int), .int .i32 y.d, .int .u8 (y.k : Int), .int .u32 (y.s : Int), .slice A l.length c] 32)) 46 #[.int .u32 0, .int .i32 0, .int .u8 0, .int .u32 0, .slice Option.none 0 0]
    rw [show (w.alloc (.cells #[.int .u32 (y.a : Int), .int .i32 y.d, .int .u8 (y.k : Int), .int .u32 (y.s : Int), .slice A l.length c] 32)).heap.size = w.heap.size + 1 by simp] at h
    exact h)
  have HB0 := Lib.hid ((b_alloc w (.cells #[.int .u32 (y.a : Int), .int .i32 y.d, .int .u8 (y.k : Int), .int .u32 (y.s : Int), .slice A l.length c] 32)).alloc (by simp) (.cells #[.int .u32 0, .int .i32 0, .int .u8 0, .int .u32 0, .slice Option.none 0 0] 46))
  go_enter Tryd.func13, Tryd.ntmps13
  go_wp2_with fail
  refine (hK _).mono ?_
  rintro e w1 ⟨rfl, hb1⟩
  have HQ1 := Lib.hid (HQ0.out.below hb1 HQ0.out.lt)
  have HE1 := Lib.hid (HE0.out.below hb1 HE0.out.lt)
  have HB1 := Lib.hid (HB0.out.trans (hb1.mono HB0.out.size))
  have hz1 : w.heap.size + 2 ≤ w1.heap.size := by have := hb1.size; simpa using this
  have HE2 := Lib.hid (HE1.out.alloc (.cells #[.int .u32 (y.a : Int), .int .i32 y.d, .int .u8 (y.k : Int), .int .u32 (y.s : Int), .slice Option.none 0 0] 46))
  have HN2 := Lib.hid (Blk.new w1 46 #[.int .u32 (y.a : Int), .int .i32 y.d, .int .u8 (y.k : Int), .int .u32 (y.s : Int), .slice Option.none 0 0])
  have HB2 := Lib.hid (HB1.out.alloc HB1.out.size (.cells #[.int .u32 (y.a : Int), .int .i32 y.d, .int .u8 (y.k : Int), .int .u32 (y.s : Int), .slice Option.none 0 0] 46))
  have c4 := HQ1.out.cell 4
  simp at c4
  have hz0 : w.heap.size < w1.heap.size := by omega
  clear hb1 hK
  go_wp2_with fail
  clear c4
  go_loopw [5, 13] (fun _ i wr => ∃ (k : Nat) (v : Value), k ≤ l.length ∧ i = .int .i64 k ∧ Hid (Blk wr w1.heap.size 46 #[.int .u32 (y.a : Int), .int .i32 y.d, .int .u8 (y.k : Int), .int .u32 (y.s : Int), v]) ∧ Hid (Blk wr (w.heap.size + 1) 46 #[.int .u32 0, .int .i32 0, .int .u8 0, .int .u32 0, .slice Option.none 0 0]) ∧ Hid (OwnS legT 78 wr w.heap.size v k (l.take k)) ∧ Hid (Below w.heap.size w wr)) (fun _ i _ => l.length - (intOf i).toNat)
  case atStart => exact ⟨0, .slice Option.none 0 0, Nat.zero_le _, rfl, HN2, HE2, Lib.hid (OwnS.nil_ _ _ _), HB2⟩
  case round =>
    obtain ⟨k, v, hk, rfl, HN, HE, HO, HBL⟩ := hrel
    by_cases hlt : k < l.length
    · obtain ⟨b1, o1, rfl, hb1, d0, d1⟩ := HR.out.leg hlt
      have d0 := (HBL.out.cell (p := ⟨b1, o1 + k * 2, none⟩) (by exact Nat.lt_of_lt_of_le hb1 hB)).trans d0
      have d1 := (HBL.out.cell (p := ⟨b1, o1 + k * 2 + 1, none⟩) (by exact Nat.lt_of_lt_of_le hb1 hB)).trans d1
      obtain ⟨x0, y0, y1⟩ := HI.out _ (List.getElem_mem hlt)
      obtain ⟨x, hx⟩ : ∃ x, (l[k]).1 = x := ⟨_, rfl⟩
      obtain ⟨z, hz⟩ : ∃ z, (l[k]).2 = z := ⟨_, rfl⟩
      have hg : l[k] = (x, z) := Prod.ext hx hz
      rw [hx] at d0 x0
      rw [hz] at d1 y0 y1
      have HT := Lib.hid (show l.take k ++ [(x, z)] = l.take (k + 1) from by rw [List.take_succ_eq_append_getElem hlt, hg])
      have hsz := HBL.out.size
      have HO4 := Lib.hid ((HO.out.alloc (.cells #[.int .u8 (x : Int), .int .i64 z] 56)).alloc (.cells #[.int .u8 (x : Int), .int .i64 z] 78))
      have HN4 := Lib.hid ((HN.out.alloc (.cells #[.int .u8 (x : Int), .int .i64 z] 56)).alloc (.cells #[.int .u8 (x : Int), .int .i64 z] 78))
      have HE4 := Lib.hid ((HE.out.alloc (.cells #[.int .u8 (x : Int), .int .i64 z] 56)).alloc (.cells #[.int .u8 (x : Int), .int .i64 z] 78))
      have HB4 := Lib.hid ((HBL.out.alloc hsz (.cells #[.int .u8 (x : Int), .int .i64 z] 56)).alloc (by simp; omega) (.cells #[.int .u8 (x : Int), .int .i64 z] 78))
      have HL := Lib.hid (Rs.block (T := legT) (u := (x, z)) (Blk.new (wr.alloc (.cells #[.int .u8 (x : Int), .int .i64 z] 56)) 78 #[.int .u8 (x : Int), .int .i64 z]))
      rw [show (wr.alloc (.cells #[.int .u8 (x : Int), .int .i64 z] 56)).heap.size = wr.heap.size + 1 by simp] at HL
      have n4 := HN.out.cell 4
      have nl := HN.out.lt
      simp at n4
      clear hx hz hg HN HE HO HBL
      go_wp2_with (with_reducible refine wpList_appendS (o := ⟨some 25, _, _, _, _, _⟩) rfl rowRLeg (.tmp 18) (.tmp 24) rfl w.heap.size _ k (l.take k) ?h1 HO4.out _ (some ⟨wr.heap.size + 1, 0, none⟩) 1 1 [(x, z)] ?h2 HL.out rfl ?h3 ?h4 ?h5 ?_)
      try (case h1 => rfl)
      try (case h2 => rfl)
      try (case h3 => unfold maxLen; omega)
      try (case h4 => omega)
      try (case h5 => first | omega | (simp; omega))
      intro v5 w5 ho5 hg5 _ _
      rw [HT.out] at ho5
      obtain ⟨_, A5, c5, rfl, _, _, _⟩ := ho5.form (by decide)
      have hN5 := HN4.out.grown hg5 (fun e => HO4.out.ne_blk HN4.out rentNe e.symm)
      have hE5 := HE4.out.grown hg5 (fun e => HO4.out.ne_blk HE4.out rentNe e.symm)
      have hb5 := HB4.out.grown hg5 HB4.out.size (fun j hj => (HO4.out.lt j hj).1)
      have hne5 := ho5.ne_blk hN5 rentNe
      have HO5 := Lib.hid (ho5.grown (grown_set w5 w1.heap.size 4 (.slice A5 (k + 1) c5)) (.inl (fun e => hne5 e.symm)))
      have HN5 := Lib.hid (hN5.set_ 4 (.slice A5 (k + 1) c5))
      have HE5 := Lib.hid (hE5.grown (grown_set w5 w1.heap.size 4 (.slice A5 (k + 1) c5)) (fun e => by injection e with e; omega))
      have HB5 := Lib.hid (hb5.setCell (by show w.heap.size ≤ w1.heap.size; omega) (.slice A5 (k + 1) c5) (p := ⟨w1.heap.size, 4, none⟩))
      have p4 := hN5.cell 4
      have q4 := hN5.frozen 4
      simp at p4 q4
      clear ho5 hg5 hN5 hE5 hb5 hne5 n4 HO4 HN4 HE4 HB4 HL d0 d1
      go_wp2_with fail
      go_roundw
      case rel => exact ⟨k + 1, _, by omega, by go_num, HN5, HE5, HO5, HB5⟩
      case measure => simp [intOf]; omega
    · obtain rfl : k = l.length := by omega
      rw [List.take_length] at HO
      obtain ⟨_, A5, c5, rfl, _, _, _⟩ := HO.out.form (by decide)
      have HEE := Lib.hid (HO.out.ne_blk HE.out rentNe)
      have d0 := HN.out.cell 0
      have d1 := HN.out.cell 1
      have d2 := HN.out.cell 2
      have d3 := HN.out.cell 3
      have d4 := HN.out.cell 4
      simp at d0 d1 d2 d3 d4
      have e0 := HE.out.cell 0
      have e1 := HE.out.cell 1
      have e2 := HE.out.cell 2
      have e3 := HE.out.cell 3
      have e4 := HE.out.cell 4
      have ef0 := HE.out.frozen 0
      have ef1 := HE.out.frozen 1
      have ef2 := HE.out.frozen 2
      have ef3 := HE.out.frozen 3
      have ef4 := HE.out.frozen 4
      simp at e0 e1 e2 e3 e4 ef0 ef1 ef2 ef3 ef4
      go_wp2_with fail
      refine fin_own (A := A5) (c := c5) (g := w.heap.size + 1) ?_ ?_ ?_ rfl
      · exact below_set5c HBL.out (by omega) _ _ _ _ _
      · exact set5c HE.out _ _ _ _ _
      · exact OwnS.set5 HO.out HEE.out _ _ _ _ _
end Go.Proofs.YtdknhjnbkmcicaaDoor
