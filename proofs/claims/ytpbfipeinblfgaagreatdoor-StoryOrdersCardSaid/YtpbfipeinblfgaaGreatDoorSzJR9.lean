/-
The law's events: the walk. Conditions: a first day that may be.
The law's events: the walk. Conditions: a first day that may be.
Deeds among a law's arguments, opened; two events of an own row that change places. No condition.
-/
import Derived.Test.YtpbfipeinblfgaaGreatDoorSzGR9
import Derived.Test.YtpbfipeinblfgaaGreatDoorShutAQ9
namespace Go.Proofs.YtpbfipeinblfgaaGreatDoor
open Go.ChangeShapes Go.WideShapes Go.ChangeAt Go.RowKit Go.Shelf Go.Sort Go.Lib

def EventsPost (S : Int) (L : List Dd) (t : Bool) (w : World) (e : Ending) (w' : World) : Prop := ∃ v v9, e = .returned (.tuple #[v, v9]) ∧ OwnS evT 47 w' w.heap.size v (min L.length 12) (evL S L t) ∧ (min L.length 12 = 0 → v = .slice none 0 0) ∧ Below w.heap.size w w'
theorem range_snoc {α : Type} (f : Nat → α) (j : Nat) : (List.range j).map f ++ [f j] = (List.range (j + 1)).map f := by simp [List.range_succ]
set_option maxRecDepth 100000 in
set_option maxHeartbeats 8000000 in
theorem Events_false {K P R B M : Nat} {S F G : Int} (hS : 0 ≤ S ∧ S ≤ 3600000) {L : List Dd} (hL : ∀ x ∈ L, DdIn x) {A : Option Addr} {n c : Nat} (hn : L.length = n) (hnm : n ≤ 9223372036854775807) (hc : n ≤ c) (w : World) (hR : Rs deedT w w.heap.size A L) :
    Calls Tryz.prog 10 #[.slice A n c, .agg #[.int .u8 (K : Int), .int .i64 (P : Int), .int .u32 (R : Int), .int .u8 (B : Int), .int .i64 (M : Int), .int .i32 S, .int .i64 F, .int .i64 G], .bool false] w (EventsPost S L false w) := by
  unfold EventsPost evL
  obtain ⟨f, hf⟩ : ∃ f, evA S L false = f := ⟨_, rfl⟩
  rw [hf]
  rw [hn]
  obtain ⟨m, hm⟩ : ∃ m, min n 12 = m := ⟨_, rfl⟩
  rw [hm]
  have hmi : min (n : Int) 12 = (m : Int) := by rw [← hm]; omega
  have HA := Lib.hid (show ∀ j x, j < m → L[j]? = some x → f j = evD S (j) x from fun j x hj hx => by
    rw [← hf, ← hm] at *
    unfold evA idxE
    rw [hn]
    simp only [Bool.false_eq_true, if_false]
    rw [List.getD_eq_getElem?_getD, hx]
    rfl)
  have HM := Lib.hid (show m ≤ 12 ∧ m ≤ n by omega)
  have HL := Lib.hid hL
  have HN := Lib.hid hn
  have HNM := Lib.hid hnm
  have HC := Lib.hid hc
  have HR := Lib.hid hR
  have HS := Lib.hid hS
  have hab := b_alloc w (.cells #[.int .u8 (K : Int), .int .i64 (P : Int), .int .u32 (R : Int), .int .u8 (B : Int), .int .i64 (M : Int), .int .i32 S, .int .i64 F, .int .i64 G] 28)
  have hbk := Blk.new w 28 #[.int .u8 (K : Int), .int .i64 (P : Int), .int .u32 (R : Int), .int .u8 (B : Int), .int .i64 (M : Int), .int .i32 S, .int .i64 F, .int .i64 G]
  obtain ⟨W1, hW⟩ : ∃ W, w.alloc (.cells #[.int .u8 (K : Int), .int .i64 (P : Int), .int .u32 (R : Int), .int .u8 (B : Int), .int .i64 (M : Int), .int .i32 S, .int .i64 F, .int .i64 G] 28) = W := ⟨_, rfl⟩
  obtain ⟨b, hb⟩ : ∃ b, w.heap.size = b := ⟨_, rfl⟩
  rw [hW] at hab hbk
  rw [hb] at hbk
  have HT1 := Lib.hid hbk
  have HB1 := Lib.hid hab
  have HW := Lib.hid hW
  have HBE := Lib.hid hb
  clear hf hm hL hn hnm hc hR hS hab hbk hW hb
  go_enter Tryz.func10, Tryz.ntmps10
  go_upto_region 1 with (fail)
  rw [HW.out, HBE.out]
  clear HW
  go_wp2_with fail
  go_loopw [8, 9, 11, 12, 13, 14, 19] (fun v u _ _ _ _ i wr => ∃ j : Nat, j ≤ m ∧ i = .int .i64 (j : Int) ∧ Hid (OwnS evT 47 wr w.heap.size v j ((List.range j).map f)) ∧ (j = 0 → v = .slice none 0 0) ∧ Hid (OwnS revT 93 wr w.heap.size u j ((List.range j).map f)) ∧ Hid (Blk wr b 28 #[.int .u8 (K : Int), .int .i64 (P : Int), .int .u32 (R : Int), .int .u8 (B : Int), .int .i64 (M : Int), .int .i32 S, .int .i64 F, .int .i64 G]) ∧ Hid (Below w.heap.size w wr)) (fun _ _ _ _ _ _ i _ => m - (intOf i).toNat)
  case atStart => exact ⟨0, Nat.zero_le _, rfl, Lib.hid (OwnS.nil_ _ _ _), fun _ => rfl, Lib.hid (OwnS.nil_ _ _ _), HT1, HB1⟩
  case round =>
    obtain ⟨j, hj, rfl, HV, hnil, HU, HTj, HBj⟩ := hrel
    have HNIL := Lib.hid hnil
    clear hnil
    by_cases hlt : j < m
    · have hm12 := HM.out
      have e0 := True.intro
      have hkl : j < L.length := by rw [HN.out]; omega
      obtain ⟨b9, o9, rfl, hb9, hc9⟩ := (HR.out.below HBj.out).at_ hkl
      obtain ⟨x, hx⟩ : ∃ x, L[j] = x := ⟨_, rfl⟩
      have hxi := HL.out L[j] (List.getElem_mem hkl)
      have hfj := HA.out j x hlt (by rw [← hx]; exact List.getElem?_eq_getElem hkl)
      rw [hx] at hc9 hxi
      obtain ⟨xk, xb, xa⟩ := x
      obtain ⟨g1, g2, g3⟩ := hxi
      dsimp only at g1 g2 g3
      have d0 : wr.cell? ⟨b9, o9 + j * 3, none⟩ = some (.int .u8 (xk : Int)) := hc9 0 _ rfl
      have d1 : wr.cell? ⟨b9, o9 + j * 3 + 1, none⟩ = some (.int .u16 (xb : Int)) := hc9 1 _ rfl
      have d2 : wr.cell? ⟨b9, o9 + j * 3 + 2, none⟩ = some (.int .u32 (xa : Int)) := hc9 2 _ rfl
      unfold evD at hfj
      dsimp only at hfj
      obtain ⟨rk, hrk⟩ : ∃ r, xk % 4 = r := ⟨_, rfl⟩
      obtain ⟨rb, hrb⟩ : ∃ r, xb % 120 = r := ⟨_, rfl⟩
      rw [hrk, hrb] at hfj
      have e1 : (xk : Int) % 4 = (rk : Int) := by omega
      have e2 : (xb : Int) % 120 = (rb : Int) := by omega
      have hS := HS.out
      have t1 : (rk : Int) ≤ 3 := by omega
      have t2 : (0 : Int) ≤ rk := by omega
      have t3 : (rb : Int) ≤ 119 := by omega
      have t4 : (0 : Int) ≤ rb := by omega
      have t5 : (xa : Int) ≤ 4294967295 := by omega
      have t6 : (0 : Int) ≤ xa := by omega
      have t7 : S + (rb : Int) ≤ 2147483647 := by omega
      have t8 : -2147483648 ≤ S + (rb : Int) := by omega
      have t9 : j ≤ 12 := by omega
      have t10 := HNM.out
      have t11 := HC.out
      have hab := b_alloc wr (.cells #[.int .u8 (xk : Int), .int .u16 (xb : Int), .int .u32 (xa : Int)] 91)
      have n0 := Blk.new wr 91 #[.int .u8 (xk : Int), .int .u16 (xb : Int), .int .u32 (xa : Int)]
      have N0 := Lib.hid n0
      have HT2 := Lib.hid (HTj.out.below hab HTj.out.lt)
      have c5 := HT2.out.cell 5
      simp at c5
      have HV2 := Lib.hid (HV.out.alloc (.cells #[.int .u8 (xk : Int), .int .u16 (xb : Int), .int .u32 (xa : Int)] 91))
      have HU2 := Lib.hid (HU.out.alloc (.cells #[.int .u8 (xk : Int), .int .u16 (xb : Int), .int .u32 (xa : Int)] 91))
      have HB2 := Lib.hid (HBj.out.trans (hab.mono HBj.out.size))
      have HFJ := Lib.hid hfj
      have HRK := Lib.hid hrk
      clear hc9 hx hkl g1 g2 g3 hrb hrk hS hab n0 HV HU HTj HBj hfj hb9 hj hm12
      go_upto_region 11 with (fail)
      obtain ⟨W2, hW2⟩ : ∃ W, wr.alloc (.cells #[.int .u8 (xk : Int), .int .u16 (xb : Int), .int .u32 (xa : Int)] 91) = W := ⟨_, rfl⟩
      obtain ⟨z, hz⟩ : ∃ z, wr.heap.size = z := ⟨_, rfl⟩
      rw [hW2] at HT2 HV2 HU2 HB2 N0 c5 ⊢
      rw [hz] at N0 ⊢
      have n1 := N0.out.cell 0
      have n2 := N0.out.cell 1
      have n3 := N0.out.cell 2
      simp at n1 n2 n3
      clear hW2 hz d0 d1 d2
      go_upto_region 12 with (fail)
      have hab := b_alloc W2 (.cells #[.int .u32 ((j : Int) + 1), .int .i32 (S + (rb : Int)), .int .u8 (4 + (rk : Int)), .int .i64 (1 + (xa : Int))] 47)
      have hek := Blk.new W2 47 #[.int .u32 ((j : Int) + 1), .int .i32 (S + (rb : Int)), .int .u8 (4 + (rk : Int)), .int .i64 (1 + (xa : Int))]
      have HT3 := Lib.hid (HT2.out.below hab HT2.out.lt)
      have HV3 := Lib.hid (HV2.out.alloc (.cells #[.int .u32 ((j : Int) + 1), .int .i32 (S + (rb : Int)), .int .u8 (4 + (rk : Int)), .int .i64 (1 + (xa : Int))] 47))
      have HU3 := Lib.hid (HU2.out.alloc (.cells #[.int .u32 ((j : Int) + 1), .int .i32 (S + (rb : Int)), .int .u8 (4 + (rk : Int)), .int .i64 (1 + (xa : Int))] 47))
      have HB3 := Lib.hid (HB2.out.trans (hab.mono HB2.out.size))
      have HYV := Lib.hid HV2.out.lt
      have HYU := Lib.hid HU2.out.lt
      have hbt := HT2.out.lt
      have hwy := HB2.out.size
      obtain ⟨W3, hW3⟩ : ∃ W, W2.alloc (.cells #[.int .u32 ((j : Int) + 1), .int .i32 (S + (rb : Int)), .int .u8 (4 + (rk : Int)), .int .i64 (1 + (xa : Int))] 47) = W := ⟨_, rfl⟩
      obtain ⟨y, hy⟩ : ∃ y, W2.heap.size = y := ⟨_, rfl⟩
      rw [hW3] at HT3 HV3 HU3 HB3 hek ⊢
      rw [hy] at HYV HYU hbt hwy hek ⊢
      obtain ⟨k0, k1, k2, k3⟩ := blkE hek
      have HEK := Lib.hid hek
      have HYN := Lib.hid (show ∀ i, u8.ownBlock = some i → i < y from fun i hi => (HYV.out i hi).2)
      clear hW3 hy hab hek n1 n2 n3 c5 N0 HT2 HV2 HU2 HB2
      by_cases h3 : rk = 3
      · have b3 : (4 : Int) + (rk : Int) = 7 := by omega
        have HFJ := Lib.hid (show f j = (⟨j + 1, S + (rb : Int), 7, 0⟩ : Ev) by rw [HFJ.out, if_pos h3, h3])
        rw [b3] at HEK k2 ⊢
        have HE4 := Lib.hid (show Blk (W3.setCell ⟨y, 3, none⟩ (.int .i64 0)) y 47 #[.int .u32 ((j : Int) + 1), .int .i32 (S + (rb : Int)), .int .u8 7, .int .i64 0] from HEK.out.set_ 3 (.int .i64 0))
        have fz := HEK.out.frozen 3
        have HV4 := Lib.hid (HV3.out.grown (grown_set W3 y 3 (.int .i64 0)) (.inl (fun e => by have := HYV.out y e.symm; omega)))
        have HU4 := Lib.hid (HU3.out.grown (grown_set W3 y 3 (.int .i64 0)) (.inl (fun e => by have := HYU.out y e.symm; omega)))
        have HT4 := Lib.hid (HT3.out.grown (grown_set W3 y 3 (.int .i64 0)) (fun e => by injection e with e; omega))
        have HB4 := Lib.hid (HB3.out.grown (grown_set W3 y 3 (.int .i64 0)) HB3.out.size (fun i hi => by injection hi with hi; omega))
        clear h3 HV3 HU3 HT3 HB3 HEK HYV HYU hbt hwy
        go_upto_region 14 with (fail)
        clear fz
        obtain ⟨W4, hW4⟩ : ∃ W, W3.setCell ⟨y, 3, none⟩ (.int .i64 0) = W := ⟨_, rfl⟩
        rw [hW4] at HE4 HV4 HU4 HT4 HB4 ⊢
        clear hW4 k0 k1 k2 k3
        have HKU := Lib.hid (HU4.out.alloc (.cells #[.int .u32 ((j : Int) + 1), .int .i32 (S + (rb : Int)), .int .u8 7, .int .i64 0] 47))
        have HKV := Lib.hid (HV4.out.alloc (.cells #[.int .u32 ((j : Int) + 1), .int .i32 (S + (rb : Int)), .int .u8 7, .int .i64 0] 47))
        have HKT := Lib.hid (HT4.out.alloc (.cells #[.int .u32 ((j : Int) + 1), .int .i32 (S + (rb : Int)), .int .u8 7, .int .i64 0] 47))
        have HKE := Lib.hid (HE4.out.alloc (.cells #[.int .u32 ((j : Int) + 1), .int .i32 (S + (rb : Int)), .int .u8 7, .int .i64 0] 47))
        have HKB := Lib.hid (HB4.out.alloc HB4.out.size (.cells #[.int .u32 ((j : Int) + 1), .int .i32 (S + (rb : Int)), .int .u8 7, .int .i64 0] 47))
        have HLE := Lib.hid (Rs.block (T := evT) (u := (⟨j + 1, S + (rb : Int), 7, 0⟩ : Ev)) (show Blk (W4.alloc (.cells #[.int .u32 ((j : Int) + 1), .int .i32 (S + (rb : Int)), .int .u8 7, .int .i64 0] 47)) W4.heap.size 47 (evT.cells (⟨j + 1, S + (rb : Int), 7, 0⟩ : Ev)).toArray from Blk.new W4 47 #[.int .u32 ((j : Int) + 1), .int .i32 (S + (rb : Int)), .int .u8 7, .int .i64 0]))
        have hsz := HKB.out.size
        obtain ⟨k0, k1, k2, k3⟩ := blkE HE4.out
        clear HU4 HV4 HT4 HE4 HB4
        go_wp2_with (with_reducible refine wpList_appendS (o := ⟨some 58, _, _, _, _, _⟩) rfl rowEv (.tmp 55) (.tmp 57) rfl w.heap.size _ j ((List.range j).map f) ?h1 HKV.out _ (some ⟨W4.heap.size, 0, none⟩) 1 1 [(⟨j + 1, S + (rb : Int), 7, 0⟩ : Ev)] ?h2 HLE.out rfl ?h3 ?h4 ?h5 ?_)
        try (case h1 => rfl)
        try (case h2 => rfl)
        try (case h3 => unfold maxLen; omega)
        try (case h4 => omega)
        try (case h5 => first | exact hsz | simpa using hsz)
        intro v5 w5 ho5 hg5 _ _
        have hT5 := HKT.out.grown hg5 (fun e => HKV.out.ne_blk HKT.out neEvTrm.symm e.symm)
        have hE5 := HKE.out.grown hg5 (fun e => by have := (HYN.out y e.symm); omega)
        have hU5 := HKU.out.past HKV.out neEvRev.symm hg5
        have hB5 := HKB.out.grown hg5 HKB.out.size (fun i hi => (HKV.out.lt i hi).1)
        have HU6 := Lib.hid (hU5.alloc (.cells #[.int .u32 ((j : Int) + 1), .int .i64 (S + (rb : Int)), .int .u8 7, .int .i64 0] 93))
        have HV6 := Lib.hid (ho5.alloc (.cells #[.int .u32 ((j : Int) + 1), .int .i64 (S + (rb : Int)), .int .u8 7, .int .i64 0] 93))
        have HT6 := Lib.hid (hT5.alloc (.cells #[.int .u32 ((j : Int) + 1), .int .i64 (S + (rb : Int)), .int .u8 7, .int .i64 0] 93))
        have HB6 := Lib.hid (hB5.alloc hB5.size (.cells #[.int .u32 ((j : Int) + 1), .int .i64 (S + (rb : Int)), .int .u8 7, .int .i64 0] 93))
        have HLR := Lib.hid (Rs.block (T := revT) (u := (⟨j + 1, S + (rb : Int), 7, 0⟩ : Ev)) (show Blk (w5.alloc (.cells #[.int .u32 ((j : Int) + 1), .int .i64 (S + (rb : Int)), .int .u8 7, .int .i64 0] 93)) w5.heap.size 93 (revT.cells (⟨j + 1, S + (rb : Int), 7, 0⟩ : Ev)).toArray from Blk.new w5 93 #[.int .u32 ((j : Int) + 1), .int .i64 (S + (rb : Int)), .int .u8 7, .int .i64 0]))
        obtain ⟨k0, k1, k2, k3⟩ := blkE hE5
        have hsz6 := HB6.out.size
        clear ho5 hg5 hT5 hE5 hU5 hB5 HKU HKV HKT HKE HKB HLE hsz HYN
        go_wp2_with (with_reducible refine wpList_appendS (o := ⟨some 71, _, _, _, _, _⟩) rfl rowRev (.tmp 59) (.tmp 70) rfl w.heap.size _ j ((List.range j).map f) ?h1 HU6.out _ (some ⟨w5.heap.size, 0, none⟩) 1 1 [(⟨j + 1, S + (rb : Int), 7, 0⟩ : Ev)] ?h2 HLR.out rfl ?h3 ?h4 ?h5 ?_)
        try (case h1 => rfl)
        try (case h2 => rfl)
        try (case h3 => unfold maxLen; omega)
        try (case h4 => omega)
        try (case h5 => first | exact hsz6 | simpa using hsz6)
        intro v7 w7 ho7 hg7 _ _
        have hV7 := HV6.out.past HU6.out neEvRev hg7
        have hT7 := HT6.out.grown hg7 (fun e => HU6.out.ne_blk HT6.out neRevTrm.symm e.symm)
        have hB7 := HB6.out.grown hg7 HB6.out.size (fun i hi => (HU6.out.lt i hi).1)
        have er := range_snoc f j
        rw [HFJ.out] at er
        rw [er] at ho7 hV7
        have HV8 := Lib.hid hV7
        have HU8 := Lib.hid ho7
        have HT8 := Lib.hid hT7
        have HB8 := Lib.hid hB7
        clear ho7 hg7 hV7 hT7 hB7 er HU6 HV6 HT6 HB6 HLR hsz6 k0 k1 k2 k3 HFJ e0
        go_wp2_with fail
        go_roundw
        case rel => exact ⟨j + 1, hlt, by go_num, HV8, fun h => absurd h (by omega), HU8, HT8, HB8⟩
        case measure => simp [intOf]; omega
      · have b3 : ¬ (4 : Int) + (rk : Int) = 7 := by omega
        have HFJ := Lib.hid (show f j = (⟨j + 1, S + (rb : Int), 4 + rk, 1 + (xa : Int)⟩ : Ev) by rw [HFJ.out, if_neg h3])
        obtain ⟨W4, hW4⟩ : ∃ W, W3 = W := ⟨_, rfl⟩
        rw [hW4] at HEK HV3 HU3 HT3 HB3 k0 k1 k2 k3 ⊢
        have HE4 := HEK
        have HV4 := HV3
        have HU4 := HU3
        have HT4 := HT3
        have HB4 := HB3
        clear h3 HV3 HU3 HT3 HB3 HEK HYV HYU hbt hwy hW4
        go_upto_region 14 with (fail)
        clear k0 k1 k2 k3
        have HKU := Lib.hid (HU4.out.alloc (.cells #[.int .u32 ((j : Int) + 1), .int .i32 (S + (rb : Int)), .int .u8 (4 + (rk : Int)), .int .i64 (1 + (xa : Int))] 47))
        have HKV := Lib.hid (HV4.out.alloc (.cells #[.int .u32 ((j : Int) + 1), .int .i32 (S + (rb : Int)), .int .u8 (4 + (rk : Int)), .int .i64 (1 + (xa : Int))] 47))
        have HKT := Lib.hid (HT4.out.alloc (.cells #[.int .u32 ((j : Int) + 1), .int .i32 (S + (rb : Int)), .int .u8 (4 + (rk : Int)), .int .i64 (1 + (xa : Int))] 47))
        have HKE := Lib.hid (HE4.out.alloc (.cells #[.int .u32 ((j : Int) + 1), .int .i32 (S + (rb : Int)), .int .u8 (4 + (rk : Int)), .int .i64 (1 + (xa : Int))] 47))
        have HKB := Lib.hid (HB4.out.alloc HB4.out.size (.cells #[.int .u32 ((j : Int) + 1), .int .i32 (S + (rb : Int)), .int .u8 (4 + (rk : Int)), .int .i64 (1 + (xa : Int))] 47))
        have HLE := Lib.hid (Rs.block (T := evT) (u := (⟨j + 1, S + (rb : Int), 4 + rk, (1 + (xa : Int))⟩ : Ev)) (show Blk (W4.alloc (.cells #[.int .u32 ((j : Int) + 1), .int .i32 (S + (rb : Int)), .int .u8 (4 + (rk : Int)), .int .i64 (1 + (xa : Int))] 47)) W4.heap.size 47 (evT.cells (⟨j + 1, S + (rb : Int), 4 + rk, (1 + (xa : Int))⟩ : Ev)).toArray from Blk.new W4 47 #[.int .u32 ((j : Int) + 1), .int .i32 (S + (rb : Int)), .int .u8 (4 + (rk : Int)), .int .i64 (1 + (xa : Int))]))
        have hsz := HKB.out.size
        obtain ⟨k0, k1, k2, k3⟩ := blkE HE4.out
        clear HU4 HV4 HT4 HE4 HB4
        go_wp2_with (with_reducible refine wpList_appendS (o := ⟨some 58, _, _, _, _, _⟩) rfl rowEv (.tmp 55) (.tmp 57) rfl w.heap.size _ j ((List.range j).map f) ?h1 HKV.out _ (some ⟨W4.heap.size, 0, none⟩) 1 1 [(⟨j + 1, S + (rb : Int), 4 + rk, (1 + (xa : Int))⟩ : Ev)] ?h2 HLE.out rfl ?h3 ?h4 ?h5 ?_)
        try (case h1 => rfl)
        try (case h2 => rfl)
        try (case h3 => unfold maxLen; omega)
        try (case h4 => omega)
        try (case h5 => first | exact hsz | simpa using hsz)
        intro v5 w5 ho5 hg5 _ _
        have hT5 := HKT.out.grown hg5 (fun e => HKV.out.ne_blk HKT.out neEvTrm.symm e.symm)
        have hE5 := HKE.out.grown hg5 (fun e => by have := (HYN.out y e.symm); omega)
        have hU5 := HKU.out.past HKV.out neEvRev.symm hg5
        have hB5 := HKB.out.grown hg5 HKB.out.size (fun i hi => (HKV.out.lt i hi).1)
        have HU6 := Lib.hid (hU5.alloc (.cells #[.int .u32 ((j : Int) + 1), .int .i64 (S + (rb : Int)), .int .u8 (4 + (rk : Int)), .int .i64 (1 + (xa : Int))] 93))
        have HV6 := Lib.hid (ho5.alloc (.cells #[.int .u32 ((j : Int) + 1), .int .i64 (S + (rb : Int)), .int .u8 (4 + (rk : Int)), .int .i64 (1 + (xa : Int))] 93))
        have HT6 := Lib.hid (hT5.alloc (.cells #[.int .u32 ((j : Int) + 1), .int .i64 (S + (rb : Int)), .int .u8 (4 + (rk : Int)), .int .i64 (1 + (xa : Int))] 93))
        have HB6 := Lib.hid (hB5.alloc hB5.size (.cells #[.int .u32 ((j : Int) + 1), .int .i64 (S + (rb : Int)), .int .u8 (4 + (rk : Int)), .int .i64 (1 + (xa : Int))] 93))
        have HLR := Lib.hid (Rs.block (T := revT) (u := (⟨j + 1, S + (rb : Int), 4 + rk, (1 + (xa : Int))⟩ : Ev)) (show Blk (w5.alloc (.cells #[.int .u32 ((j : Int) + 1), .int .i64 (S + (rb : Int)), .int .u8 (4 + (rk : Int)), .int .i64 (1 + (xa : Int))] 93)) w5.heap.size 93 (revT.cells (⟨j + 1, S + (rb : Int), 4 + rk, (1 + (xa : Int))⟩ : Ev)).toArray from Blk.new w5 93 #[.int .u32 ((j : Int) + 1), .int .i64 (S + (rb : Int)), .int .u8 (4 + (rk : Int)), .int .i64 (1 + (xa : Int))]))
        obtain ⟨k0, k1, k2, k3⟩ := blkE hE5
        have hsz6 := HB6.out.size
        clear ho5 hg5 hT5 hE5 hU5 hB5 HKU HKV HKT HKE HKB HLE hsz HYN
        go_wp2_with (with_reducible refine wpList_appendS (o := ⟨some 71, _, _, _, _, _⟩) rfl rowRev (.tmp 59) (.tmp 70) rfl w.heap.size _ j ((List.range j).map f) ?h1 HU6.out _ (some ⟨w5.heap.size, 0, none⟩) 1 1 [(⟨j + 1, S + (rb : Int), 4 + rk, (1 + (xa : Int))⟩ : Ev)] ?h2 HLR.out rfl ?h3 ?h4 ?h5 ?_)
        try (case h1 => rfl)
        try (case h2 => rfl)
        try (case h3 => unfold maxLen; omega)
        try (case h4 => omega)
        try (case h5 => first | exact hsz6 | simpa using hsz6)
        intro v7 w7 ho7 hg7 _ _
        have hV7 := HV6.out.past HU6.out neEvRev hg7
        have hT7 := HT6.out.grown hg7 (fun e => HU6.out.ne_blk HT6.out neRevTrm.symm e.symm)
        have hB7 := HB6.out.grown hg7 HB6.out.size (fun i hi => (HU6.out.lt i hi).1)
        have er := range_snoc f j
        rw [HFJ.out] at er
        rw [er] at ho7 hV7
        have HV8 := Lib.hid hV7
        have HU8 := Lib.hid ho7
        have HT8 := Lib.hid hT7
        have HB8 := Lib.hid hB7
        clear ho7 hg7 hV7 hT7 hB7 er HU6 HV6 HT6 HB6 HLR hsz6 k0 k1 k2 k3 HFJ e0
        go_wp2_with fail
        go_roundw
        case rel => exact ⟨j + 1, hlt, by go_num, HV8, fun h => absurd h (by omega), HU8, HT8, HB8⟩
        case measure => simp [intOf]; omega
    · have hjm : j = m := by omega
      subst hjm
      go_wp2_with fail
      go_ret2
      exact ⟨_, _, rfl, HV.out, HNIL.out, HBj.out⟩
end Go.Proofs.YtpbfipeinblfgaaGreatDoor
namespace Go.Proofs.YtpbfipeinblfgaaGreatDoor
open Go.ChangeShapes Go.WideShapes Go.ChangeAt Go.RowKit Go.Shelf Go.Sort Go.Lib

set_option maxRecDepth 100000 in
set_option maxHeartbeats 8000000 in
theorem Events_true {K P R B M : Nat} {S F G : Int} (hS : 0 ≤ S ∧ S ≤ 3600000) {L : List Dd} (hL : ∀ x ∈ L, DdIn x) {A : Option Addr} {n c : Nat} (hn : L.length = n) (hnm : n ≤ 9223372036854775807) (hc : n ≤ c) (w : World) (hR : Rs deedT w w.heap.size A L) :
    Calls Tryz.prog 10 #[.slice A n c, .agg #[.int .u8 (K : Int), .int .i64 (P : Int), .int .u32 (R : Int), .int .u8 (B : Int), .int .i64 (M : Int), .int .i32 S, .int .i64 F, .int .i64 G], .bool true] w (EventsPost S L true w) := by
  unfold EventsPost evL
  obtain ⟨f, hf⟩ : ∃ f, evA S L true = f := ⟨_, rfl⟩
  rw [hf]
  rw [hn]
  obtain ⟨m, hm⟩ : ∃ m, min n 12 = m := ⟨_, rfl⟩
  rw [hm]
  have hmi : min (n : Int) 12 = (m : Int) := by rw [← hm]; omega
  have HA := Lib.hid (show ∀ j x, j < m → L[m - 1 - j]? = some x → f j = evD S (m - 1 - j) x from fun j x hj hx => by
    rw [← hf, ← hm] at *
    unfold evA idxE
    rw [hn]
    simp only [if_pos]
    rw [List.getD_eq_getElem?_getD, hx]
    rfl)
  have HM := Lib.hid (show m ≤ 12 ∧ m ≤ n by omega)
  have HL := Lib.hid hL
  have HN := Lib.hid hn
  have HNM := Lib.hid hnm
  have HC := Lib.hid hc
  have HR := Lib.hid hR
  have HS := Lib.hid hS
  have hab := b_alloc w (.cells #[.int .u8 (K : Int), .int .i64 (P : Int), .int .u32 (R : Int), .int .u8 (B : Int), .int .i64 (M : Int), .int .i32 S, .int .i64 F, .int .i64 G] 28)
  have hbk := Blk.new w 28 #[.int .u8 (K : Int), .int .i64 (P : Int), .int .u32 (R : Int), .int .u8 (B : Int), .int .i64 (M : Int), .int .i32 S, .int .i64 F, .int .i64 G]
  obtain ⟨W1, hW⟩ : ∃ W, w.alloc (.cells #[.int .u8 (K : Int), .int .i64 (P : Int), .int .u32 (R : Int), .int .u8 (B : Int), .int .i64 (M : Int), .int .i32 S, .int .i64 F, .int .i64 G] 28) = W := ⟨_, rfl⟩
  obtain ⟨b, hb⟩ : ∃ b, w.heap.size = b := ⟨_, rfl⟩
  rw [hW] at hab hbk
  rw [hb] at hbk
  have HT1 := Lib.hid hbk
  have HB1 := Lib.hid hab
  have HW := Lib.hid hW
  have HBE := Lib.hid hb
  clear hf hm hL hn hnm hc hR hS hab hbk hW hb
  go_enter Tryz.func10, Tryz.ntmps10
  go_upto_region 1 with (fail)
  rw [HW.out, HBE.out]
  clear HW
  go_wp2_with fail
  go_loopw [8, 9, 11, 12, 13, 14, 19] (fun v u _ _ _ _ i wr => ∃ j : Nat, j ≤ m ∧ i = .int .i64 (j : Int) ∧ Hid (OwnS evT 47 wr w.heap.size v j ((List.range j).map f)) ∧ (j = 0 → v = .slice none 0 0) ∧ Hid (OwnS revT 93 wr w.heap.size u j ((List.range j).map f)) ∧ Hid (Blk wr b 28 #[.int .u8 (K : Int), .int .i64 (P : Int), .int .u32 (R : Int), .int .u8 (B : Int), .int .i64 (M : Int), .int .i32 S, .int .i64 F, .int .i64 G]) ∧ Hid (Below w.heap.size w wr)) (fun _ _ _ _ _ _ i _ => m - (intOf i).toNat)
  case atStart => exact ⟨0, Nat.zero_le _, rfl, Lib.hid (OwnS.nil_ _ _ _), fun _ => rfl, Lib.hid (OwnS.nil_ _ _ _), HT1, HB1⟩
  case round =>
    obtain ⟨j, hj, rfl, HV, hnil, HU, HTj, HBj⟩ := hrel
    have HNIL := Lib.hid hnil
    clear hnil
    by_cases hlt : j < m
    · have hm12 := HM.out
      obtain ⟨kk, hkk⟩ : ∃ k, m - 1 - j = k := ⟨_, rfl⟩
      have e0 : (m : Int) - 1 - (j : Int) = (kk : Int) := by omega
      have hkl : kk < L.length := by rw [HN.out]; omega
      obtain ⟨b9, o9, rfl, hb9, hc9⟩ := (HR.out.below HBj.out).at_ hkl
      obtain ⟨x, hx⟩ : ∃ x, L[kk] = x := ⟨_, rfl⟩
      have hxi := HL.out L[kk] (List.getElem_mem hkl)
      have hfj := HA.out j x hlt (by rw [hkk, ← hx]; exact List.getElem?_eq_getElem hkl)
      rw [hkk] at hfj
      rw [hx] at hc9 hxi
      obtain ⟨xk, xb, xa⟩ := x
      obtain ⟨g1, g2, g3⟩ := hxi
      dsimp only at g1 g2 g3
      have d0 : wr.cell? ⟨b9, o9 + kk * 3, none⟩ = some (.int .u8 (xk : Int)) := hc9 0 _ rfl
      have d1 : wr.cell? ⟨b9, o9 + kk * 3 + 1, none⟩ = some (.int .u16 (xb : Int)) := hc9 1 _ rfl
      have d2 : wr.cell? ⟨b9, o9 + kk * 3 + 2, none⟩ = some (.int .u32 (xa : Int)) := hc9 2 _ rfl
      unfold evD at hfj
      dsimp only at hfj
      obtain ⟨rk, hrk⟩ : ∃ r, xk % 4 = r := ⟨_, rfl⟩
      obtain ⟨rb, hrb⟩ : ∃ r, xb % 120 = r := ⟨_, rfl⟩
      rw [hrk, hrb] at hfj
      have e1 : (xk : Int) % 4 = (rk : Int) := by omega
      have e2 : (xb : Int) % 120 = (rb : Int) := by omega
      have hS := HS.out
      have t1 : (rk : Int) ≤ 3 := by omega
      have t2 : (0 : Int) ≤ rk := by omega
      have t3 : (rb : Int) ≤ 119 := by omega
      have t4 : (0 : Int) ≤ rb := by omega
      have t5 : (xa : Int) ≤ 4294967295 := by omega
      have t6 : (0 : Int) ≤ xa := by omega
      have t7 : S + (rb : Int) ≤ 2147483647 := by omega
      have t8 : -2147483648 ≤ S + (rb : Int) := by omega
      have t9 : kk ≤ 12 := by omega
      have t10 := HNM.out
      have t11 := HC.out
      have hab := b_alloc wr (.cells #[.int .u8 (xk : Int), .int .u16 (xb : Int), .int .u32 (xa : Int)] 91)
      have n0 := Blk.new wr 91 #[.int .u8 (xk : Int), .int .u16 (xb : Int), .int .u32 (xa : Int)]
      have N0 := Lib.hid n0
      have HT2 := Lib.hid (HTj.out.below hab HTj.out.lt)
      have c5 := HT2.out.cell 5
      simp at c5
      have HV2 := Lib.hid (HV.out.alloc (.cells #[.int .u8 (xk : Int), .int .u16 (xb : Int), .int .u32 (xa : Int)] 91))
      have HU2 := Lib.hid (HU.out.alloc (.cells #[.int .u8 (xk : Int), .int .u16 (xb : Int), .int .u32 (xa : Int)] 91))
      have HB2 := Lib.hid (HBj.out.trans (hab.mono HBj.out.size))
      have HFJ := Lib.hid hfj
      have HRK := Lib.hid hrk
      clear hc9 hx hkl g1 g2 g3 hrb hrk hS hab n0 HV HU HTj HBj hfj hb9 hj hm12
      go_upto_region 11 with (fail)
      obtain ⟨W2, hW2⟩ : ∃ W, wr.alloc (.cells #[.int .u8 (xk : Int), .int .u16 (xb : Int), .int .u32 (xa : Int)] 91) = W := ⟨_, rfl⟩
      obtain ⟨z, hz⟩ : ∃ z, wr.heap.size = z := ⟨_, rfl⟩
      rw [hW2] at HT2 HV2 HU2 HB2 N0 c5 ⊢
      rw [hz] at N0 ⊢
      have n1 := N0.out.cell 0
      have n2 := N0.out.cell 1
      have n3 := N0.out.cell 2
      simp at n1 n2 n3
      clear hW2 hz d0 d1 d2
      go_upto_region 12 with (fail)
      have hab := b_alloc W2 (.cells #[.int .u32 ((kk : Int) + 1), .int .i32 (S + (rb : Int)), .int .u8 (4 + (rk : Int)), .int .i64 (1 + (xa : Int))] 47)
      have hek := Blk.new W2 47 #[.int .u32 ((kk : Int) + 1), .int .i32 (S + (rb : Int)), .int .u8 (4 + (rk : Int)), .int .i64 (1 + (xa : Int))]
      have HT3 := Lib.hid (HT2.out.below hab HT2.out.lt)
      have HV3 := Lib.hid (HV2.out.alloc (.cells #[.int .u32 ((kk : Int) + 1), .int .i32 (S + (rb : Int)), .int .u8 (4 + (rk : Int)), .int .i64 (1 + (xa : Int))] 47))
      have HU3 := Lib.hid (HU2.out.alloc (.cells #[.int .u32 ((kk : Int) + 1), .int .i32 (S + (rb : Int)), .int .u8 (4 + (rk : Int)), .int .i64 (1 + (xa : Int))] 47))
      have HB3 := Lib.hid (HB2.out.trans (hab.mono HB2.out.size))
      have HYV := Lib.hid HV2.out.lt
      have HYU := Lib.hid HU2.out.lt
      have hbt := HT2.out.lt
      have hwy := HB2.out.size
      obtain ⟨W3, hW3⟩ : ∃ W, W2.alloc (.cells #[.int .u32 ((kk : Int) + 1), .int .i32 (S + (rb : Int)), .int .u8 (4 + (rk : Int)), .int .i64 (1 + (xa : Int))] 47) = W := ⟨_, rfl⟩
      obtain ⟨y, hy⟩ : ∃ y, W2.heap.size = y := ⟨_, rfl⟩
      rw [hW3] at HT3 HV3 HU3 HB3 hek ⊢
      rw [hy] at HYV HYU hbt hwy hek ⊢
      obtain ⟨k0, k1, k2, k3⟩ := blkE hek
      have HEK := Lib.hid hek
      have HYN := Lib.hid (show ∀ i, u8.ownBlock = some i → i < y from fun i hi => (HYV.out i hi).2)
      clear hW3 hy hab hek n1 n2 n3 c5 N0 HT2 HV2 HU2 HB2
      by_cases h3 : rk = 3
      · have b3 : (4 : Int) + (rk : Int) = 7 := by omega
        have HFJ := Lib.hid (show f j = (⟨kk + 1, S + (rb : Int), 7, 0⟩ : Ev) by rw [HFJ.out, if_pos h3, h3])
        rw [b3] at HEK k2 ⊢
        have HE4 := Lib.hid (show Blk (W3.setCell ⟨y, 3, none⟩ (.int .i64 0)) y 47 #[.int .u32 ((kk : Int) + 1), .int .i32 (S + (rb : Int)), .int .u8 7, .int .i64 0] from HEK.out.set_ 3 (.int .i64 0))
        have fz := HEK.out.frozen 3
        have HV4 := Lib.hid (HV3.out.grown (grown_set W3 y 3 (.int .i64 0)) (.inl (fun e => by have := HYV.out y e.symm; omega)))
        have HU4 := Lib.hid (HU3.out.grown (grown_set W3 y 3 (.int .i64 0)) (.inl (fun e => by have := HYU.out y e.symm; omega)))
        have HT4 := Lib.hid (HT3.out.grown (grown_set W3 y 3 (.int .i64 0)) (fun e => by injection e with e; omega))
        have HB4 := Lib.hid (HB3.out.grown (grown_set W3 y 3 (.int .i64 0)) HB3.out.size (fun i hi => by injection hi with hi; omega))
        clear h3 HV3 HU3 HT3 HB3 HEK HYV HYU hbt hwy
        go_upto_region 14 with (fail)
        clear fz
        obtain ⟨W4, hW4⟩ : ∃ W, W3.setCell ⟨y, 3, none⟩ (.int .i64 0) = W := ⟨_, rfl⟩
        rw [hW4] at HE4 HV4 HU4 HT4 HB4 ⊢
        clear hW4 k0 k1 k2 k3
        have HKU := Lib.hid (HU4.out.alloc (.cells #[.int .u32 ((kk : Int) + 1), .int .i32 (S + (rb : Int)), .int .u8 7, .int .i64 0] 47))
        have HKV := Lib.hid (HV4.out.alloc (.cells #[.int .u32 ((kk : Int) + 1), .int .i32 (S + (rb : Int)), .int .u8 7, .int .i64 0] 47))
        have HKT := Lib.hid (HT4.out.alloc (.cells #[.int .u32 ((kk : Int) + 1), .int .i32 (S + (rb : Int)), .int .u8 7, .int .i64 0] 47))
        have HKE := Lib.hid (HE4.out.alloc (.cells #[.int .u32 ((kk : Int) + 1), .int .i32 (S + (rb : Int)), .int .u8 7, .int .i64 0] 47))
        have HKB := Lib.hid (HB4.out.alloc HB4.out.size (.cells #[.int .u32 ((kk : Int) + 1), .int .i32 (S + (rb : Int)), .int .u8 7, .int .i64 0] 47))
        have HLE := Lib.hid (Rs.block (T := evT) (u := (⟨kk + 1, S + (rb : Int), 7, 0⟩ : Ev)) (show Blk (W4.alloc (.cells #[.int .u32 ((kk : Int) + 1), .int .i32 (S + (rb : Int)), .int .u8 7, .int .i64 0] 47)) W4.heap.size 47 (evT.cells (⟨kk + 1, S + (rb : Int), 7, 0⟩ : Ev)).toArray from Blk.new W4 47 #[.int .u32 ((kk : Int) + 1), .int .i32 (S + (rb : Int)), .int .u8 7, .int .i64 0]))
        have hsz := HKB.out.size
        obtain ⟨k0, k1, k2, k3⟩ := blkE HE4.out
        clear HU4 HV4 HT4 HE4 HB4
        go_wp2_with (with_reducible refine wpList_appendS (o := ⟨some 58, _, _, _, _, _⟩) rfl rowEv (.tmp 55) (.tmp 57) rfl w.heap.size _ j ((List.range j).map f) ?h1 HKV.out _ (some ⟨W4.heap.size, 0, none⟩) 1 1 [(⟨kk + 1, S + (rb : Int), 7, 0⟩ : Ev)] ?h2 HLE.out rfl ?h3 ?h4 ?h5 ?_)
        try (case h1 => rfl)
        try (case h2 => rfl)
        try (case h3 => unfold maxLen; omega)
        try (case h4 => omega)
        try (case h5 => first | exact hsz | simpa using hsz)
        intro v5 w5 ho5 hg5 _ _
        have hT5 := HKT.out.grown hg5 (fun e => HKV.out.ne_blk HKT.out neEvTrm.symm e.symm)
        have hE5 := HKE.out.grown hg5 (fun e => by have := (HYN.out y e.symm); omega)
        have hU5 := HKU.out.past HKV.out neEvRev.symm hg5
        have hB5 := HKB.out.grown hg5 HKB.out.size (fun i hi => (HKV.out.lt i hi).1)
        have HU6 := Lib.hid (hU5.alloc (.cells #[.int .u32 ((kk : Int) + 1), .int .i64 (S + (rb : Int)), .int .u8 7, .int .i64 0] 93))
        have HV6 := Lib.hid (ho5.alloc (.cells #[.int .u32 ((kk : Int) + 1), .int .i64 (S + (rb : Int)), .int .u8 7, .int .i64 0] 93))
        have HT6 := Lib.hid (hT5.alloc (.cells #[.int .u32 ((kk : Int) + 1), .int .i64 (S + (rb : Int)), .int .u8 7, .int .i64 0] 93))
        have HB6 := Lib.hid (hB5.alloc hB5.size (.cells #[.int .u32 ((kk : Int) + 1), .int .i64 (S + (rb : Int)), .int .u8 7, .int .i64 0] 93))
        have HLR := Lib.hid (Rs.block (T := revT) (u := (⟨kk + 1, S + (rb : Int), 7, 0⟩ : Ev)) (show Blk (w5.alloc (.cells #[.int .u32 ((kk : Int) + 1), .int .i64 (S + (rb : Int)), .int .u8 7, .int .i64 0] 93)) w5.heap.size 93 (revT.cells (⟨kk + 1, S + (rb : Int), 7, 0⟩ : Ev)).toArray from Blk.new w5 93 #[.int .u32 ((kk : Int) + 1), .int .i64 (S + (rb : Int)), .int .u8 7, .int .i64 0]))
        obtain ⟨k0, k1, k2, k3⟩ := blkE hE5
        have hsz6 := HB6.out.size
        clear ho5 hg5 hT5 hE5 hU5 hB5 HKU HKV HKT HKE HKB HLE hsz HYN
        go_wp2_with (with_reducible refine wpList_appendS (o := ⟨some 71, _, _, _, _, _⟩) rfl rowRev (.tmp 59) (.tmp 70) rfl w.heap.size _ j ((List.range j).map f) ?h1 HU6.out _ (some ⟨w5.heap.size, 0, none⟩) 1 1 [(⟨kk + 1, S + (rb : Int), 7, 0⟩ : Ev)] ?h2 HLR.out rfl ?h3 ?h4 ?h5 ?_)
        try (case h1 => rfl)
        try (case h2 => rfl)
        try (case h3 => unfold maxLen; omega)
        try (case h4 => omega)
        try (case h5 => first | exact hsz6 | simpa using hsz6)
        intro v7 w7 ho7 hg7 _ _
        have hV7 := HV6.out.past HU6.out neEvRev hg7
        have hT7 := HT6.out.grown hg7 (fun e => HU6.out.ne_blk HT6.out neRevTrm.symm e.symm)
        have hB7 := HB6.out.grown hg7 HB6.out.size (fun i hi => (HU6.out.lt i hi).1)
        have er := range_snoc f j
        rw [HFJ.out] at er
        rw [er] at ho7 hV7
        have HV8 := Lib.hid hV7
        have HU8 := Lib.hid ho7
        have HT8 := Lib.hid hT7
        have HB8 := Lib.hid hB7
        clear ho7 hg7 hV7 hT7 hB7 er HU6 HV6 HT6 HB6 HLR hsz6 k0 k1 k2 k3 HFJ e0
        go_wp2_with fail
        go_roundw
        case rel => exact ⟨j + 1, hlt, by go_num, HV8, fun h => absurd h (by omega), HU8, HT8, HB8⟩
        case measure => simp [intOf]; omega
      · have b3 : ¬ (4 : Int) + (rk : Int) = 7 := by omega
        have HFJ := Lib.hid (show f j = (⟨kk + 1, S + (rb : Int), 4 + rk, 1 + (xa : Int)⟩ : Ev) by rw [HFJ.out, if_neg h3])
        obtain ⟨W4, hW4⟩ : ∃ W, W3 = W := ⟨_, rfl⟩
        rw [hW4] at HEK HV3 HU3 HT3 HB3 k0 k1 k2 k3 ⊢
        have HE4 := HEK
        have HV4 := HV3
        have HU4 := HU3
        have HT4 := HT3
        have HB4 := HB3
        clear h3 HV3 HU3 HT3 HB3 HEK HYV HYU hbt hwy hW4
        go_upto_region 14 with (fail)
        clear k0 k1 k2 k3
        have HKU := Lib.hid (HU4.out.alloc (.cells #[.int .u32 ((kk : Int) + 1), .int .i32 (S + (rb : Int)), .int .u8 (4 + (rk : Int)), .int .i64 (1 + (xa : Int))] 47))
        have HKV := Lib.hid (HV4.out.alloc (.cells #[.int .u32 ((kk : Int) + 1), .int .i32 (S + (rb : Int)), .int .u8 (4 + (rk : Int)), .int .i64 (1 + (xa : Int))] 47))
        have HKT := Lib.hid (HT4.out.alloc (.cells #[.int .u32 ((kk : Int) + 1), .int .i32 (S + (rb : Int)), .int .u8 (4 + (rk : Int)), .int .i64 (1 + (xa : Int))] 47))
        have HKE := Lib.hid (HE4.out.alloc (.cells #[.int .u32 ((kk : Int) + 1), .int .i32 (S + (rb : Int)), .int .u8 (4 + (rk : Int)), .int .i64 (1 + (xa : Int))] 47))
        have HKB := Lib.hid (HB4.out.alloc HB4.out.size (.cells #[.int .u32 ((kk : Int) + 1), .int .i32 (S + (rb : Int)), .int .u8 (4 + (rk : Int)), .int .i64 (1 + (xa : Int))] 47))
        have HLE := Lib.hid (Rs.block (T := evT) (u := (⟨kk + 1, S + (rb : Int), 4 + rk, (1 + (xa : Int))⟩ : Ev)) (show Blk (W4.alloc (.cells #[.int .u32 ((kk : Int) + 1), .int .i32 (S + (rb : Int)), .int .u8 (4 + (rk : Int)), .int .i64 (1 + (xa : Int))] 47)) W4.heap.size 47 (evT.cells (⟨kk + 1, S + (rb : Int), 4 + rk, (1 + (xa : Int))⟩ : Ev)).toArray from Blk.new W4 47 #[.int .u32 ((kk : Int) + 1), .int .i32 (S + (rb : Int)), .int .u8 (4 + (rk : Int)), .int .i64 (1 + (xa : Int))]))
        have hsz := HKB.out.size
        obtain ⟨k0, k1, k2, k3⟩ := blkE HE4.out
        clear HU4 HV4 HT4 HE4 HB4
        go_wp2_with (with_reducible refine wpList_appendS (o := ⟨some 58, _, _, _, _, _⟩) rfl rowEv (.tmp 55) (.tmp 57) rfl w.heap.size _ j ((List.range j).map f) ?h1 HKV.out _ (some ⟨W4.heap.size, 0, none⟩) 1 1 [(⟨kk + 1, S + (rb : Int), 4 + rk, (1 + (xa : Int))⟩ : Ev)] ?h2 HLE.out rfl ?h3 ?h4 ?h5 ?_)
        try (case h1 => rfl)
        try (case h2 => rfl)
        try (case h3 => unfold maxLen; omega)
        try (case h4 => omega)
        try (case h5 => first | exact hsz | simpa using hsz)
        intro v5 w5 ho5 hg5 _ _
        have hT5 := HKT.out.grown hg5 (fun e => HKV.out.ne_blk HKT.out neEvTrm.symm e.symm)
        have hE5 := HKE.out.grown hg5 (fun e => by have := (HYN.out y e.symm); omega)
        have hU5 := HKU.out.past HKV.out neEvRev.symm hg5
        have hB5 := HKB.out.grown hg5 HKB.out.size (fun i hi => (HKV.out.lt i hi).1)
        have HU6 := Lib.hid (hU5.alloc (.cells #[.int .u32 ((kk : Int) + 1), .int .i64 (S + (rb : Int)), .int .u8 (4 + (rk : Int)), .int .i64 (1 + (xa : Int))] 93))
        have HV6 := Lib.hid (ho5.alloc (.cells #[.int .u32 ((kk : Int) + 1), .int .i64 (S + (rb : Int)), .int .u8 (4 + (rk : Int)), .int .i64 (1 + (xa : Int))] 93))
        have HT6 := Lib.hid (hT5.alloc (.cells #[.int .u32 ((kk : Int) + 1), .int .i64 (S + (rb : Int)), .int .u8 (4 + (rk : Int)), .int .i64 (1 + (xa : Int))] 93))
        have HB6 := Lib.hid (hB5.alloc hB5.size (.cells #[.int .u32 ((kk : Int) + 1), .int .i64 (S + (rb : Int)), .int .u8 (4 + (rk : Int)), .int .i64 (1 + (xa : Int))] 93))
        have HLR := Lib.hid (Rs.block (T := revT) (u := (⟨kk + 1, S + (rb : Int), 4 + rk, (1 + (xa : Int))⟩ : Ev)) (show Blk (w5.alloc (.cells #[.int .u32 ((kk : Int) + 1), .int .i64 (S + (rb : Int)), .int .u8 (4 + (rk : Int)), .int .i64 (1 + (xa : Int))] 93)) w5.heap.size 93 (revT.cells (⟨kk + 1, S + (rb : Int), 4 + rk, (1 + (xa : Int))⟩ : Ev)).toArray from Blk.new w5 93 #[.int .u32 ((kk : Int) + 1), .int .i64 (S + (rb : Int)), .int .u8 (4 + (rk : Int)), .int .i64 (1 + (xa : Int))]))
        obtain ⟨k0, k1, k2, k3⟩ := blkE hE5
        have hsz6 := HB6.out.size
        clear ho5 hg5 hT5 hE5 hU5 hB5 HKU HKV HKT HKE HKB HLE hsz HYN
        go_wp2_with (with_reducible refine wpList_appendS (o := ⟨some 71, _, _, _, _, _⟩) rfl rowRev (.tmp 59) (.tmp 70) rfl w.heap.size _ j ((List.range j).map f) ?h1 HU6.out _ (some ⟨w5.heap.size, 0, none⟩) 1 1 [(⟨kk + 1, S + (rb : Int), 4 + rk, (1 + (xa : Int))⟩ : Ev)] ?h2 HLR.out rfl ?h3 ?h4 ?h5 ?_)
        try (case h1 => rfl)
        try (case h2 => rfl)
        try (case h3 => unfold maxLen; omega)
        try (case h4 => omega)
        try (case h5 => first | exact hsz6 | simpa using hsz6)
        intro v7 w7 ho7 hg7 _ _
        have hV7 := HV6.out.past HU6.out neEvRev hg7
        have hT7 := HT6.out.grown hg7 (fun e => HU6.out.ne_blk HT6.out neRevTrm.symm e.symm)
        have hB7 := HB6.out.grown hg7 HB6.out.size (fun i hi => (HU6.out.lt i hi).1)
        have er := range_snoc f j
        rw [HFJ.out] at er
        rw [er] at ho7 hV7
        have HV8 := Lib.hid hV7
        have HU8 := Lib.hid ho7
        have HT8 := Lib.hid hT7
        have HB8 := Lib.hid hB7
        clear ho7 hg7 hV7 hT7 hB7 er HU6 HV6 HT6 HB6 HLR hsz6 k0 k1 k2 k3 HFJ e0
        go_wp2_with fail
        go_roundw
        case rel => exact ⟨j + 1, hlt, by go_num, HV8, fun h => absurd h (by omega), HU8, HT8, HB8⟩
        case measure => simp [intOf]; omega
    · have hjm : j = m := by omega
      subst hjm
      go_wp2_with fail
      go_ret2
      exact ⟨_, _, rfl, HV.out, HNIL.out, HBj.out⟩
theorem Events_any {K P R B M : Nat} {S F G : Int} (hS : 0 ≤ S ∧ S ≤ 3600000) {L : List Dd} (hL : ∀ x ∈ L, DdIn x) (t : Bool) {A : Option Addr} {n c : Nat} (hn : L.length = n) (hnm : n ≤ 9223372036854775807) (hc : n ≤ c) (w : World) (hR : Rs deedT w w.heap.size A L) :
    Calls Tryz.prog 10 #[.slice A n c, .agg #[.int .u8 (K : Int), .int .i64 (P : Int), .int .u32 (R : Int), .int .u8 (B : Int), .int .i64 (M : Int), .int .i32 S, .int .i64 F, .int .i64 G], .bool t] w (EventsPost S L t w) := by
  cases t
  · exact Events_false hS hL hn hnm hc w hR
  · exact Events_true hS hL hn hnm hc w hR
end Go.Proofs.YtpbfipeinblfgaaGreatDoor
namespace Go.Proofs.YtpbfipeinblfgaaGreatDoor
open Go.ChangeShapes Go.WideShapes Go.ChangeAt Go.RowKit Go.Shelf Go.Sort Go.Lib

section
variable {H : Type} {enc : TypeId × Value → H} {W : World}
theorem cellsDeed : Tryz.prog.cellsOf 91 = 3 := by kernel_rfl
theorem cellsB9 : Tryz.prog.cellsOf 5 = 1 := by kernel_rfl
theorem cellsH9 : Tryz.prog.cellsOf 31 = 1 := by kernel_rfl
theorem cellsW9 : Tryz.prog.cellsOf 23 = 1 := by kernel_rfl
set_option maxRecDepth 20000 in
theorem open_deed {base : Nat} {spare : Nat → Bool} {held : Bool} {n : Nat} {cs : List Value} {x : DataW H × List MemPlace} (h : DataW.trod enc Tryz.prog W base spare held n 91 cs = some x) : ∃ v : Dd, DdIn v ∧ cs = deedT.cells v := by
  obtain ⟨xs, n', hn', hy, hlen, hyl, hf⟩ := DataW.trod_struct Tryz.underlying91 h
  rw [cellsDeed] at hlen
  match cs, hlen with
  | [a0, a1, a2], _ =>
    match xs, hyl with
    | [y0, y1, y2], _ =>
      have h0 : DataW.trod enc Tryz.prog W base spare held n' 5 (List.take (Tryz.prog.cellsOf 5) (List.drop 0 [a0, a1, a2])) = some y0 := hf 0 _ rfl
      rw [cellsB9] at h0
      have h1 : DataW.trod enc Tryz.prog W base spare held n' 31 (List.take (Tryz.prog.cellsOf 31) (List.drop 1 [a0, a1, a2])) = some y1 := hf 1 _ rfl
      rw [cellsH9] at h1
      have h2 : DataW.trod enc Tryz.prog W base spare held n' 23 (List.take (Tryz.prog.cellsOf 23) (List.drop 2 [a0, a1, a2])) = some y2 := hf 2 _ rfl
      rw [cellsW9] at h2
      obtain ⟨z0, e0, _, w0⟩ := DataW.trod_int Tryz.underlying5 (h0 : DataW.trod enc Tryz.prog W base spare held n' 5 [a0] = some y0)
      obtain ⟨z1, e1, _, w1⟩ := DataW.trod_int Tryz.underlying31 (h1 : DataW.trod enc Tryz.prog W base spare held n' 31 [a1] = some y1)
      obtain ⟨z2, e2, _, w2⟩ := DataW.trod_int Tryz.underlying23 (h2 : DataW.trod enc Tryz.prog W base spare held n' 23 [a2] = some y2)
      obtain ⟨k, rfl, hk⟩ := wf_u8 w0
      obtain ⟨b, rfl, hb⟩ := wf_u16 w1
      obtain ⟨a, rfl, ha⟩ := wf_u32 w2
      obtain rfl := List.head_eq_of_cons_eq e0
      obtain rfl := List.head_eq_of_cons_eq e1
      obtain rfl := List.head_eq_of_cons_eq e2
      exact ⟨⟨k, b, a⟩, ⟨hk, hb, ha⟩, rfl⟩
set_option maxRecDepth 20000 in
theorem open_deeds {b0 : Nat} {v : Value} {d : DataW H} {p : List MemPlace} (hval : Value.okWide Tryz.prog W .any b0 29 v) (h : DataW.Trod enc Tryz.prog W 0 (fun _ => true) true 29 v d p) (hlt : ∀ x ∈ p, x.block < W.heap.size) :
    ∃ (A : Option Addr) (n c : Nat) (l : List Dd), v = .slice A n c ∧ l.length = n ∧ n ≤ c ∧ c ≤ maxLen ∧ Rs deedT W W.heap.size A l ∧ (∀ u ∈ l, DdIn u) :=
  open_S Tryz.underlying29 cellsDeed (by decide) (fun h => open_deed h) hval h hlt
end
/-- All four cells of element k, written over. -/
def set4 (cs : List Value) (k : Nat) (x : Ev) : List Value := (((cs.set (k * 4) (.int .u32 (x.s : Int))).set (k * 4 + 1) (.int .i32 x.d)).set (k * 4 + 2) (.int .u8 (x.k : Int))).set (k * 4 + 3) (.int .i64 x.a)
theorem flat_set4 : ∀ (l : List Ev) (k : Nat) (_ : k < l.length) (x : Ev), set4 (l.flatMap evT.cells) k x = (l.set k x).flatMap evT.cells
  | g :: r, 0, _, x => rfl
  | g :: r, k + 1, hk, x => by
    have ih := flat_set4 r k (by simpa using hk) x
    have e : ∀ y : Ev, evT.cells y = [.int .u32 (y.s : Int), .int .i32 y.d, .int .u8 (y.k : Int), .int .i64 y.a] := fun y => rfl
    rw [List.flatMap_cons, List.set_cons_succ, List.flatMap_cons, e, ← ih]
    unfold set4
    rw [show (k + 1) * 4 = k * 4 + 1 + 1 + 1 + 1 by omega, show (k * 4 + 1 + 1 + 1 + 1) + 1 = (k * 4 + 1) + 1 + 1 + 1 + 1 by omega, show (k * 4 + 1 + 1 + 1 + 1) + 2 = (k * 4 + 2) + 1 + 1 + 1 + 1 by omega, show (k * 4 + 1 + 1 + 1 + 1) + 3 = (k * 4 + 3) + 1 + 1 + 1 + 1 by omega]
    rfl
theorem take_set4 (cs : List Value) (k m : Nat) (x : Ev) : (set4 cs k x).take m = set4 (cs.take m) k x := by
  unfold set4
  simp only [List.take_set]
/-- Element k of the row in block g, written over. -/
def put4 (w : World) (g k : Nat) (x : Ev) : World := (((w.setCell ⟨g, k * 4, none⟩ (.int .u32 (x.s : Int))).setCell ⟨g, k * 4 + 1, none⟩ (.int .i32 x.d)).setCell ⟨g, k * 4 + 2, none⟩ (.int .u8 (x.k : Int))).setCell ⟨g, k * 4 + 3, none⟩ (.int .i64 x.a)
theorem own_put4 {w : World} {base n c g : Nat} {l : List Ev} (h : OwnS evT 47 w base (.slice (some ⟨g, 0, none⟩) n c) n l) {k : Nat} (hk : k < l.length) (x : Ev) :
    OwnS evT 47 (put4 w g k x) base (.slice (some ⟨g, 0, none⟩) n c) n (l.set k x) := by
  have hl := h.length (show 0 < 4 by omega)
  unfold OwnS at h ⊢
  refine ⟨by rw [flatS_len, List.length_set, hl], ?_⟩
  rcases h.2 with ⟨h1, _⟩ | ⟨g', cap', cur, h1, h2, hg, h4, h5, h6, ht⟩
  · cases h1
  · injection h1 with e1 e2 e3
    injection e1 with e1
    injection e1 with e1
    subst e1
    refine .inr ⟨g, cap', (((cur.setIfInBounds (k * 4) (.int .u32 (x.s : Int))).setIfInBounds (k * 4 + 1) (.int .i32 x.d)).setIfInBounds (k * 4 + 2) (.int .u8 (x.k : Int))).setIfInBounds (k * 4 + 3) (.int .i64 x.a), by rw [e3], h2, ?_, h4, h5, by simp [h6], ?_⟩
    · exact Blk.set_ (Blk.set_ (Blk.set_ (Blk.set_ (show Blk w g 47 cur from hg) _ _) _ _) _ _) _ _
    · simp only [Array.toList_setIfInBounds]
      have h8 := take_set4 cur.toList k (n * evT.k) x
      unfold set4 at h8
      rw [h8, ht]
      unfold flatS
      exact flat_set4 l k hk x
theorem put4_grown (w : World) (g k : Nat) (x : Ev) : w.grownBy (put4 w g k x) (some g) := by
  have h1 := grown_setCell (grown_refl w (some g)) (p := ⟨g, k * 4, none⟩) (.inl rfl) (.int .u32 (x.s : Int))
  have h2 := grown_setCell h1 (p := ⟨g, k * 4 + 1, none⟩) (.inl rfl) (.int .i32 x.d)
  have h3 := grown_setCell h2 (p := ⟨g, k * 4 + 2, none⟩) (.inl rfl) (.int .u8 (x.k : Int))
  exact grown_setCell h3 (p := ⟨g, k * 4 + 3, none⟩) (.inl rfl) (.int .i64 x.a)
theorem swap_perm (l : List Ev) {p q : Nat} (hp : p < l.length) (hq : q < l.length) : ((l.set p l[q]).set q l[p]).Perm l := by
  have h := (Array.swap_perm (xs := l.toArray) (i := p) (j := q) (by simpa using hp) (by simpa using hq)).toList
  have e : (l.toArray.swap p q (by simpa using hp) (by simpa using hq)).toList = (l.set p l[q]).set q l[p] := by
    simp [Array.swap]
  rw [e] at h
  exact h
end Go.Proofs.YtpbfipeinblfgaaGreatDoor
